/- LawU3 .. LawU3 -/
import Derived.Test.YtgahgkddaljmkaaGreatDoorV18
set_option maxRecDepth 100000
set_option maxHeartbeats 4000000
namespace Go.Proofs.YtgahgkddaljmkaaGreatDoor
open Go.ChangeShapes Go.WideShapes Go.ChangeAt Go.RowKit
theorem zI0:Tryz.pinned.checked.prog.funcNamed Rows.reshownRow.func=some 11:=by kernel_rfl
theorem zLt:(Rows.reshownRow.inPlace == Tryz.pinned.checked.prog.inPlace 11)=true:=by kernel_rfl
theorem zLu:(Rows.reshownRow.unfollowed == Tryz.pinned.checked.prog.unfollowed 11)=true:=by kernel_rfl
theorem zLv:(Rows.reshownRow.recurses == Tryz.pinned.checked.prog.recurses 11)=true:=by kernel_rfl
theorem zLw:(Rows.reshownRow.named == Tryz.pinned.checked.prog.varsNamed 11)=true:=by kernel_rfl
theorem zLx:laidOutB Tryz.pinned.checked.prog=true:=zrD
theorem zJG:joinedFacts Tryz.pinned.checked.prog 11 Tryz.f11 (OpenSpec.ofChange Rows.reshownSpec).bare Rows.reshownRow=true:=by
 unfold joinedFacts
 repeat' (with_reducible refine Zs ?_ ?_)
 all_goals (first|with_reducible exact zLt|with_reducible exact zLu|with_reducible exact zLv|with_reducible exact zLw|with_reducible exact zLx|kernel_rfl)
theorem zJS(f:FuncId)(fn:Func)(hf:Tryz.pinned.checked.prog.funcNamed Rows.reshownRow.func=some f)(fj:Tryz.pinned.checked.prog.funcs[f]?=some fn):
  true=Tryz.pinned.checked.prog.looks []/\∀(j:Nat)t,fn.params[j]?=some t->Tryz.pinned.checked.prog.wantsStandIn t=false:=by
 obtain rfl:f=11:=J8 (zI0.symm.trans hf)|>.symm;obtain rfl:fn=Tryz.f11:=(J8 (Tryz.func11.symm.trans fj)).symm;refine⟨by kernel_rfl,λj t ht=>?_⟩;rw[Tryz.params11]at ht;have h1:t=9\/t=26\/t=3:=by simpa using Array.mem_of_getElem? ht
 rcases h1 with rfl|rfl|rfl
 .exact(show Tryz.prog.wantsStandIn 9=false by kernel_rfl)
 .exact(show Tryz.prog.wantsStandIn 26=false by kernel_rfl)
 .exact(show Tryz.prog.wantsStandIn 3=false by kernel_rfl)
end Go.Proofs.YtgahgkddaljmkaaGreatDoor
