/- LawM3 .. LawM3 -/
import Derived.Test.YtgahgkddaljmkaaGreatDoorW41
set_option maxRecDepth 100000
set_option maxHeartbeats 4000000
namespace Go.Proofs.YtgahgkddaljmkaaGreatDoor
open Go.ChangeShapes Go.WideShapes Go.ChangeAt Go.RowKit
theorem zim:Tryz.pinned.checked.prog.funcNamed Rows.sharedRow.func=some 8:=by kernel_rfl
theorem zum:(Rows.sharedRow.inPlace == Tryz.pinned.checked.prog.inPlace 8)=true:=by kernel_rfl
theorem zun:(Rows.sharedRow.unfollowed == Tryz.pinned.checked.prog.unfollowed 8)=true:=by kernel_rfl
theorem zuo:(Rows.sharedRow.recurses == Tryz.pinned.checked.prog.recurses 8)=true:=by kernel_rfl
theorem zup:(Rows.sharedRow.named == Tryz.pinned.checked.prog.varsNamed 8)=true:=by kernel_rfl
theorem zuq:laidOutB Tryz.pinned.checked.prog=true:=zrD
theorem zmI:joinedFacts Tryz.pinned.checked.prog 8 Tryz.f8 (OpenSpec.ofChange Rows.sharedSpec).bare Rows.sharedRow=true:=by
 unfold joinedFacts
 repeat' (with_reducible refine andT ?_ ?_)
 all_goals (first|with_reducible exact zum|with_reducible exact zun|with_reducible exact zuo|with_reducible exact zup|with_reducible exact zuq|kernel_rfl)
theorem zoh(f:FuncId)(fn:Func)(hf:Tryz.pinned.checked.prog.funcNamed Rows.sharedRow.func=some f)(fj:Tryz.pinned.checked.prog.funcs[f]?=some fn):
  true=Tryz.pinned.checked.prog.looks []/\∀ (j:Nat) t,fn.params[j]?=some t->Tryz.pinned.checked.prog.wantsStandIn t=false:=by
 obtain rfl:f=8:=zyU (zim.symm.trans hf)|>.symm;obtain rfl:fn=Tryz.f8:=(zyU (Tryz.func8.symm.trans fj)).symm;refine ⟨by kernel_rfl,fun j t ht=>?_⟩;rw[Tryz.params8]at ht;have h1:t=3:=by simpa using Array.mem_of_getElem? ht
 rw[h1];exact (show Tryz.prog.wantsStandIn 3=false by kernel_rfl)
end Go.Proofs.YtgahgkddaljmkaaGreatDoor
