/- LawP3 .. LawP3 -/
import Derived.Test.YtgahgkddaljmkaaGreatDoorZ21
set_option maxRecDepth 100000
set_option maxHeartbeats 4000000
namespace Go.Proofs.YtgahgkddaljmkaaGreatDoor
open Go.ChangeShapes Go.WideShapes Go.ChangeAt Go.RowKit
theorem zAN:Tryz.pinned.checked.prog.funcNamed Rows.countedRow.func=some 12:=by kernel_rfl
theorem zBk:(Rows.countedRow.inPlace == Tryz.pinned.checked.prog.inPlace 12)=true:=by kernel_rfl
theorem zBl:(Rows.countedRow.unfollowed == Tryz.pinned.checked.prog.unfollowed 12)=true:=by kernel_rfl
theorem zBm:(Rows.countedRow.recurses == Tryz.pinned.checked.prog.recurses 12)=true:=by kernel_rfl
theorem zBn:(Rows.countedRow.named == Tryz.pinned.checked.prog.varsNamed 12)=true:=by kernel_rfl
theorem zBo:laidOutB Tryz.pinned.checked.prog=true:=zrD
theorem zAX:joinedFacts Tryz.pinned.checked.prog 12 Tryz.f12 (OpenSpec.ofChange Rows.countedSpec).bare Rows.countedRow=true:=by
 unfold joinedFacts
 repeat' (with_reducible refine andT ?_ ?_)
 all_goals (first|with_reducible exact zBk|with_reducible exact zBl|with_reducible exact zBm|with_reducible exact zBn|with_reducible exact zBo|kernel_rfl)
theorem zA3(f:FuncId)(fn:Func)(hf:Tryz.pinned.checked.prog.funcNamed Rows.countedRow.func=some f)(fj:Tryz.pinned.checked.prog.funcs[f]?=some fn):
  true=Tryz.pinned.checked.prog.looks []/\∀ (j:Nat) t,fn.params[j]?=some t->Tryz.pinned.checked.prog.wantsStandIn t=false:=by
 obtain rfl:f=12:=zyU (zAN.symm.trans hf)|>.symm;obtain rfl:fn=Tryz.f12:=(zyU (Tryz.func12.symm.trans fj)).symm;refine ⟨by kernel_rfl,fun j t ht=>?_⟩;rw[Tryz.params12]at ht;have h1:t=3:=by simpa using Array.mem_of_getElem? ht
 rw[h1];exact (show Tryz.prog.wantsStandIn 3=false by kernel_rfl)
end Go.Proofs.YtgahgkddaljmkaaGreatDoor
