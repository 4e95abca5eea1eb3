/- LawK3 .. LawK3 -/
import Derived.Test.YtgahgkddaljmkaaGreatDoorV40
import Derived.Test.YtgahgkddaljmkaaGreatDoorV1
set_option maxRecDepth 100000
set_option maxHeartbeats 4000000
namespace Go.Proofs.YtgahgkddaljmkaaGreatDoor
open Go.ChangeShapes Go.WideShapes Go.ChangeAt Go.RowKit
theorem zid:Tryz.pinned.checked.prog.funcNamed Rows.steadyRow.func=some 10:=by kernel_rfl
theorem zs2:(Rows.steadyRow.inPlace == Tryz.pinned.checked.prog.inPlace 10)=true:=by kernel_rfl
theorem zua:(Rows.steadyRow.unfollowed == Tryz.pinned.checked.prog.unfollowed 10)=true:=by kernel_rfl
theorem zsD:(Rows.steadyRow.recurses == Tryz.pinned.checked.prog.recurses 10)=true:=by kernel_rfl
theorem zuh:(Rows.steadyRow.named == Tryz.pinned.checked.prog.varsNamed 10)=true:=by kernel_rfl
theorem zty:laidOutB Tryz.pinned.checked.prog=true:=zq5
theorem zmX:joinedFacts Tryz.pinned.checked.prog 10 Tryz.f10 (OpenSpec.ofChange Rows.steadySpec).bare Rows.steadyRow=true:=by
 unfold joinedFacts
 repeat' (with_reducible refine andT ?_ ?_)
 all_goals (first|with_reducible exact zs2|with_reducible exact zua|with_reducible exact zsD|with_reducible exact zuh|with_reducible exact zty|kernel_rfl)
theorem zom(f:FuncId)(fn:Func)(hf:Tryz.pinned.checked.prog.funcNamed Rows.steadyRow.func=some f)(hfn:Tryz.pinned.checked.prog.funcs[f]?=some fn):
  true=Tryz.pinned.checked.prog.looks []/\∀ (j:Nat) t,fn.params[j]?=some t->Tryz.pinned.checked.prog.wantsStandIn t=false:=by
 obtain rfl:f=10:=zxQ (zid.symm.trans hf)|>.symm;obtain rfl:fn=Tryz.f10:=(zxQ (Tryz.func10.symm.trans hfn)).symm;refine ⟨by kernel_rfl,fun j t ht=>?_⟩;rw[Tryz.params10]at ht;have h1:t=9\/t=3:=by simpa using Array.mem_of_getElem? ht
 rcases h1 with rfl|rfl
 ·exact (show Tryz.prog.wantsStandIn 9=false by kernel_rfl)
 ·exact (show Tryz.prog.wantsStandIn 3=false by kernel_rfl)
end Go.Proofs.YtgahgkddaljmkaaGreatDoor
