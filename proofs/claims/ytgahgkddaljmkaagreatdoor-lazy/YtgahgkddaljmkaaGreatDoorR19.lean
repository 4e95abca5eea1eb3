/- LawR3 .. LawR3 -/
import Derived.Test.YtgahgkddaljmkaaGreatDoorR18
set_option maxRecDepth 100000
set_option maxHeartbeats 4000000
namespace Go.Proofs.YtgahgkddaljmkaaGreatDoor
open Go.ChangeShapes Go.WideShapes Go.ChangeAt Go.RowKit
theorem zFm:Tryz.pinned.checked.prog.funcNamed Rows.lazyRow.func=some 7:=by kernel_rfl
theorem zGC:(Rows.lazyRow.inPlace == Tryz.pinned.checked.prog.inPlace 7)=true:=by kernel_rfl
theorem zGD:(Rows.lazyRow.unfollowed == Tryz.pinned.checked.prog.unfollowed 7)=true:=by kernel_rfl
theorem zGE:(Rows.lazyRow.recurses == Tryz.pinned.checked.prog.recurses 7)=true:=by kernel_rfl
theorem zGF:(Rows.lazyRow.named == Tryz.pinned.checked.prog.varsNamed 7)=true:=by kernel_rfl
theorem zGG:laidOutB Tryz.pinned.checked.prog=true:=zrD
theorem zFF:joinedFacts Tryz.pinned.checked.prog 7 Tryz.f7 (OpenSpec.ofChange Rows.lazySpec).bare Rows.lazyRow=true:=by
 unfold joinedFacts
 repeat' (with_reducible refine andT ?_ ?_)
 all_goals (first|with_reducible exact zGC|with_reducible exact zGD|with_reducible exact zGE|with_reducible exact zGF|with_reducible exact zGG|kernel_rfl)
theorem zFW(f:FuncId)(fn:Func)(hf:Tryz.pinned.checked.prog.funcNamed Rows.lazyRow.func=some f)(fj:Tryz.pinned.checked.prog.funcs[f]?=some fn):
  true=Tryz.pinned.checked.prog.looks []/\∀ (j:Nat) t,fn.params[j]?=some t->Tryz.pinned.checked.prog.wantsStandIn t=false:=by
 obtain rfl:f=7:=zyU (zFm.symm.trans hf)|>.symm;obtain rfl:fn=Tryz.f7:=(zyU (Tryz.func7.symm.trans fj)).symm;refine ⟨by kernel_rfl,fun j t ht=>?_⟩;rw[Tryz.params7]at ht;have h1:t=26\/t=3:=by simpa using Array.mem_of_getElem? ht
 rcases h1 with rfl|rfl
 ·exact (show Tryz.prog.wantsStandIn 26=false by kernel_rfl)
 ·exact (show Tryz.prog.wantsStandIn 3=false by kernel_rfl)
end Go.Proofs.YtgahgkddaljmkaaGreatDoor
