/- LawN3 .. LawN3 -/
import Derived.Test.YtgahgkddaljmkaaGreatDoorW41
set_option maxRecDepth 100000
set_option maxHeartbeats 4000000
namespace Go.Proofs.YtgahgkddaljmkaaGreatDoor
open Go.ChangeShapes Go.WideShapes Go.ChangeAt Go.RowKit
theorem zAF:Tryz.pinned.checked.prog.funcNamed Rows.listedRow.func=some 9:=by kernel_rfl
theorem zBj:(Rows.listedRow.inPlace == Tryz.pinned.checked.prog.inPlace 9)=true:=by kernel_rfl
theorem zBk:(Rows.listedRow.unfollowed == Tryz.pinned.checked.prog.unfollowed 9)=true:=by kernel_rfl
theorem zBl:(Rows.listedRow.recurses == Tryz.pinned.checked.prog.recurses 9)=true:=by kernel_rfl
theorem zBm:(Rows.listedRow.named == Tryz.pinned.checked.prog.varsNamed 9)=true:=by kernel_rfl
theorem zBn:laidOutB Tryz.pinned.checked.prog=true:=zrD
theorem zAL:joinedFacts Tryz.pinned.checked.prog 9 Tryz.f9 (OpenSpec.ofChange Rows.listedSpec).bare Rows.listedRow=true:=by
 unfold joinedFacts
 repeat' (with_reducible refine andT ?_ ?_)
 all_goals (first|with_reducible exact zBj|with_reducible exact zBk|with_reducible exact zBl|with_reducible exact zBm|with_reducible exact zBn|kernel_rfl)
theorem zAO(f:FuncId)(fn:Func)(hf:Tryz.pinned.checked.prog.funcNamed Rows.listedRow.func=some f)(fj:Tryz.pinned.checked.prog.funcs[f]?=some fn):
  true=Tryz.pinned.checked.prog.looks []/\∀ (j:Nat) t,fn.params[j]?=some t->Tryz.pinned.checked.prog.wantsStandIn t=false:=by
 obtain rfl:f=9:=zyU (zAF.symm.trans hf)|>.symm;obtain rfl:fn=Tryz.f9:=(zyU (Tryz.func9.symm.trans fj)).symm;refine ⟨by kernel_rfl,fun j t ht=>?_⟩;rw[Tryz.params9]at ht;have h1:t=26\/t=3:=by simpa using Array.mem_of_getElem? ht
 rcases h1 with rfl|rfl
 ·exact (show Tryz.prog.wantsStandIn 26=false by kernel_rfl)
 ·exact (show Tryz.prog.wantsStandIn 3=false by kernel_rfl)
end Go.Proofs.YtgahgkddaljmkaaGreatDoor
