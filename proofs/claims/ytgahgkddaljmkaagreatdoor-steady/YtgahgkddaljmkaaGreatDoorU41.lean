/- LawK3 .. LawK3 -/
import Derived.Test.YtgahgkddaljmkaaGreatDoorU40
set_option maxRecDepth 100000
set_option maxHeartbeats 4000000
namespace Go.Proofs.YtgahgkddaljmkaaGreatDoor
open Go.ChangeShapes Go.WideShapes Go.ChangeAt Go.RowKit
theorem zAC:Tryz.pinned.checked.prog.funcNamed Rows.steadyRow.func=some 10:=by kernel_rfl
theorem zAJ:(Rows.steadyRow.inPlace == Tryz.pinned.checked.prog.inPlace 10)=true:=by kernel_rfl
theorem zAK:(Rows.steadyRow.unfollowed == Tryz.pinned.checked.prog.unfollowed 10)=true:=by kernel_rfl
theorem zAL:(Rows.steadyRow.recurses == Tryz.pinned.checked.prog.recurses 10)=true:=by kernel_rfl
theorem zAM:(Rows.steadyRow.named == Tryz.pinned.checked.prog.varsNamed 10)=true:=by kernel_rfl
theorem zAN:laidOutB Tryz.pinned.checked.prog=true:=zrD
theorem zAE:joinedFacts Tryz.pinned.checked.prog 10 Tryz.f10 (OpenSpec.ofChange Rows.steadySpec).bare Rows.steadyRow=true:=by
 unfold joinedFacts
 repeat' (with_reducible refine andT ?_ ?_)
 all_goals (first|with_reducible exact zAJ|with_reducible exact zAK|with_reducible exact zAL|with_reducible exact zAM|with_reducible exact zAN|kernel_rfl)
theorem zAG(f:FuncId)(fn:Func)(hf:Tryz.pinned.checked.prog.funcNamed Rows.steadyRow.func=some f)(fj:Tryz.pinned.checked.prog.funcs[f]?=some fn):
  true=Tryz.pinned.checked.prog.looks []/\∀ (j:Nat) t,fn.params[j]?=some t->Tryz.pinned.checked.prog.wantsStandIn t=false:=by
 obtain rfl:f=10:=zyU (zAC.symm.trans hf)|>.symm;obtain rfl:fn=Tryz.f10:=(zyU (Tryz.func10.symm.trans fj)).symm;refine ⟨by kernel_rfl,fun j t ht=>?_⟩;rw[Tryz.params10]at ht;have h1:t=9\/t=3:=by simpa using Array.mem_of_getElem? ht
 rcases h1 with rfl|rfl
 ·exact (show Tryz.prog.wantsStandIn 9=false by kernel_rfl)
 ·exact (show Tryz.prog.wantsStandIn 3=false by kernel_rfl)
end Go.Proofs.YtgahgkddaljmkaaGreatDoor
