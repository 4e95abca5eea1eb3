/- LawT3 .. LawT3 -/
import Derived.Test.YtgahgkddaljmkaaGreatDoorT19
set_option maxRecDepth 100000
set_option maxHeartbeats 4000000
namespace Go.Proofs.YtgahgkddaljmkaaGreatDoor
open Go.ChangeShapes Go.WideShapes Go.ChangeAt Go.RowKit
theorem zHq:Tryz.pinned.checked.prog.funcNamed Rows.heldRow.func=some 13:=by kernel_rfl
theorem zHR:(Rows.heldRow.inPlace == Tryz.pinned.checked.prog.inPlace 13)=true:=by kernel_rfl
theorem zHS:(Rows.heldRow.unfollowed == Tryz.pinned.checked.prog.unfollowed 13)=true:=by kernel_rfl
theorem zHT:(Rows.heldRow.recurses == Tryz.pinned.checked.prog.recurses 13)=true:=by kernel_rfl
theorem zHU:(Rows.heldRow.named == Tryz.pinned.checked.prog.varsNamed 13)=true:=by kernel_rfl
theorem zHV:laidOutB Tryz.pinned.checked.prog=true:=zrD
theorem zHv:joinedFacts Tryz.pinned.checked.prog 13 Tryz.f13 (OpenSpec.ofChange Rows.heldSpec).bare Rows.heldRow=true:=by
 unfold joinedFacts
 repeat' (with_reducible refine andT ?_ ?_)
 all_goals (first|with_reducible exact zHR|with_reducible exact zHS|with_reducible exact zHT|with_reducible exact zHU|with_reducible exact zHV|kernel_rfl)
theorem zHC(f:FuncId)(fn:Func)(hf:Tryz.pinned.checked.prog.funcNamed Rows.heldRow.func=some f)(fj:Tryz.pinned.checked.prog.funcs[f]?=some fn):
  true=Tryz.pinned.checked.prog.looks []/\∀ (j:Nat) t,fn.params[j]?=some t->Tryz.pinned.checked.prog.wantsStandIn t=false:=by
 obtain rfl:f=13:=zyU (zHq.symm.trans hf)|>.symm;obtain rfl:fn=Tryz.f13:=(zyU (Tryz.func13.symm.trans fj)).symm;refine ⟨by kernel_rfl,fun j t ht=>?_⟩;rw[Tryz.params13]at ht;have h1:t=3:=by simpa using Array.mem_of_getElem? ht
 rw[h1];exact (show Tryz.prog.wantsStandIn 3=false by kernel_rfl)
end Go.Proofs.YtgahgkddaljmkaaGreatDoor
