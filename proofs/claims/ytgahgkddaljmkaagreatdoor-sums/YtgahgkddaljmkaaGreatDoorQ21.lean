/- LawQ3 .. LawQ3 -/
import Derived.Test.YtgahgkddaljmkaaGreatDoorQ20
set_option maxRecDepth 100000
set_option maxHeartbeats 4000000
namespace Go.Proofs.YtgahgkddaljmkaaGreatDoor
open Go.ChangeShapes Go.WideShapes Go.ChangeAt Go.RowKit
theorem zCA:Tryz.pinned.checked.prog.funcNamed Rows.sumsRow.func=some 6:=by kernel_rfl
theorem zEF:(Rows.sumsRow.inPlace == Tryz.pinned.checked.prog.inPlace 6)=true:=by kernel_rfl
theorem zEG:(Rows.sumsRow.unfollowed == Tryz.pinned.checked.prog.unfollowed 6)=true:=by kernel_rfl
theorem zEH:(Rows.sumsRow.recurses == Tryz.pinned.checked.prog.recurses 6)=true:=by kernel_rfl
theorem zEI:(Rows.sumsRow.named == Tryz.pinned.checked.prog.varsNamed 6)=true:=by kernel_rfl
theorem zEJ:laidOutB Tryz.pinned.checked.prog=true:=zrD
theorem zC1:joinedFacts Tryz.pinned.checked.prog 6 Tryz.f6 (OpenSpec.ofChange Rows.sumsSpec).bare Rows.sumsRow=true:=by
 unfold joinedFacts
 repeat' (with_reducible refine andT ?_ ?_)
 all_goals (first|with_reducible exact zEF|with_reducible exact zEG|with_reducible exact zEH|with_reducible exact zEI|with_reducible exact zEJ|kernel_rfl)
theorem zDn(f:FuncId)(fn:Func)(hf:Tryz.pinned.checked.prog.funcNamed Rows.sumsRow.func=some f)(fj:Tryz.pinned.checked.prog.funcs[f]?=some fn):
  true=Tryz.pinned.checked.prog.looks []/\∀ (j:Nat) t,fn.params[j]?=some t->Tryz.pinned.checked.prog.wantsStandIn t=false:=by
 obtain rfl:f=6:=zyU (zCA.symm.trans hf)|>.symm;obtain rfl:fn=Tryz.f6:=(zyU (Tryz.func6.symm.trans fj)).symm;refine ⟨by kernel_rfl,fun j t ht=>?_⟩;rw[Tryz.params6]at ht;have h1:t=26\/t=3:=by simpa using Array.mem_of_getElem? ht
 rcases h1 with rfl|rfl
 ·exact (show Tryz.prog.wantsStandIn 26=false by kernel_rfl)
 ·exact (show Tryz.prog.wantsStandIn 3=false by kernel_rfl)
end Go.Proofs.YtgahgkddaljmkaaGreatDoor
