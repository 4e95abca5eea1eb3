/- The closed facts of the law Checks. -/
import Derived.Test.YtgahgkddaljmkaaGreatDoorCards
import Derived.ProofKit
import Derived.OpenShut
import Derived.Deep.DeepHandedRow
namespace Go.Proofs.YtgahgkddaljmkaaGreatDoor
open Go.ChangeShapes Go.WideShapes Go.ChangeAt Go.RowKit

theorem and_true {a b : Bool} (ha : a = true) (hb : b = true) : (a && b) = true := by rw [ha, hb]; rfl

theorem checks_named : Tryz.pinned.checked.prog.funcNamed Rows.checksRow.func = some 3 := by kernel_rfl

theorem checks_f1 : (Rows.checksRow.inPlace == Tryz.pinned.checked.prog.inPlace 3) = true := by kernel_rfl
theorem checks_f2 : (Rows.checksRow.unfollowed == Tryz.pinned.checked.prog.unfollowed 3) = true := by kernel_rfl
theorem checks_f3 : (Rows.checksRow.recurses == Tryz.pinned.checked.prog.recurses 3) = true := by kernel_rfl
theorem checks_f4 : (Rows.checksRow.named == Tryz.pinned.checked.prog.varsNamed 3) = true := by kernel_rfl
theorem lw_laidOut : laidOutB Tryz.prog = true := by kernel_rfl
theorem checks_f5 : laidOutB Tryz.pinned.checked.prog = true := lw_laidOut

set_option maxRecDepth 100000 in
set_option maxHeartbeats 2000000 in
theorem checks_closed : joinedFacts Tryz.pinned.checked.prog 3 Tryz.f3 (OpenSpec.ofChange Rows.checksSpec).bare Rows.checksRow = true := by
  unfold joinedFacts
  repeat' (with_reducible refine and_true ?_ ?_)
  all_goals (first | with_reducible exact checks_f1 | with_reducible exact checks_f2 | with_reducible exact checks_f3 | with_reducible exact checks_f4 | with_reducible exact checks_f5 | kernel_rfl)

theorem checks_plain (f : FuncId) (fn : Func) (hf : Tryz.pinned.checked.prog.funcNamed Rows.checksRow.func = some f) (hfn : Tryz.pinned.checked.prog.funcs[f]? = some fn) :
    true = Tryz.pinned.checked.prog.looks [] ∧ ∀ (j : Nat) t, fn.params[j]? = some t → Tryz.pinned.checked.prog.wantsStandIn t = false := by
  obtain rfl : f = 3 := Option.some.inj (checks_named.symm.trans hf) |>.symm
  obtain rfl : fn = Tryz.f3 := (Option.some.inj (Tryz.func3.symm.trans hfn)).symm
  refine ⟨by kernel_rfl, fun j t ht => ?_⟩
  rw [Tryz.params3] at ht
  obtain rfl : t = 22 := by simpa using Array.mem_of_getElem? ht
  exact (show Tryz.prog.wantsStandIn 22 = false by kernel_rfl)

end Go.Proofs.YtgahgkddaljmkaaGreatDoor
