/- The closed facts of the law Shows. -/
import Derived.Test.YtgahgkddaljmkaaGreatDoorCards
import Derived.Test.YtgahgkddaljmkaaGreatDoorL0
import Derived.ProofKit
import Derived.OpenShut
import Derived.Deep.DeepHandedRow
namespace Go.Proofs.YtgahgkddaljmkaaGreatDoor
open Go.ChangeShapes Go.WideShapes Go.ChangeAt Go.RowKit

theorem shows_named : Tryz.pinned.checked.prog.funcNamed Rows.showsRow.func = some 4 := by kernel_rfl

theorem shows_f1 : (Rows.showsRow.inPlace == Tryz.pinned.checked.prog.inPlace 4) = true := by kernel_rfl
theorem shows_f2 : (Rows.showsRow.unfollowed == Tryz.pinned.checked.prog.unfollowed 4) = true := by kernel_rfl
theorem shows_f3 : (Rows.showsRow.recurses == Tryz.pinned.checked.prog.recurses 4) = true := by kernel_rfl
theorem shows_f4 : (Rows.showsRow.named == Tryz.pinned.checked.prog.varsNamed 4) = true := by kernel_rfl
theorem shows_f5 : laidOutB Tryz.pinned.checked.prog = true := lw_laidOut

set_option maxRecDepth 100000 in
set_option maxHeartbeats 2000000 in
theorem shows_closed : joinedFacts Tryz.pinned.checked.prog 4 Tryz.f4 (OpenSpec.ofChange Rows.showsSpec).bare Rows.showsRow = true := by
  unfold joinedFacts
  repeat' (with_reducible refine and_true ?_ ?_)
  all_goals (first | with_reducible exact shows_f1 | with_reducible exact shows_f2 | with_reducible exact shows_f3 | with_reducible exact shows_f4 | with_reducible exact shows_f5 | kernel_rfl)

theorem shows_plain (f : FuncId) (fn : Func) (hf : Tryz.pinned.checked.prog.funcNamed Rows.showsRow.func = some f) (hfn : Tryz.pinned.checked.prog.funcs[f]? = some fn) :
    true = Tryz.pinned.checked.prog.looks [] ∧ ∀ (j : Nat) t, fn.params[j]? = some t → Tryz.pinned.checked.prog.wantsStandIn t = false := by
  obtain rfl : f = 4 := Option.some.inj (shows_named.symm.trans hf) |>.symm
  obtain rfl : fn = Tryz.f4 := (Option.some.inj (Tryz.func4.symm.trans hfn)).symm
  refine ⟨by kernel_rfl, fun j t ht => ?_⟩
  rw [Tryz.params4] at ht
  obtain rfl : t = 22 := by simpa using Array.mem_of_getElem? ht
  exact (show Tryz.prog.wantsStandIn 22 = false by kernel_rfl)

end Go.Proofs.YtgahgkddaljmkaaGreatDoor
