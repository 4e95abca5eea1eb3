/- The law Steady: for every source and all heaps and fuels, what a run answered is answered with more of both, the same; its card, without further conditions. -/
import Derived.Test.YtgahgkddaljmkaaGreatDoorU41
import Derived.Test.YtgahgkddaljmkaaGreatDoorU43
set_option maxRecDepth 100000
set_option maxHeartbeats 4000000
namespace Go.Proofs.YtgahgkddaljmkaaGreatDoor
open Go.ChangeShapes Go.WideShapes Go.ChangeAt Go.RowKit
theorem zAH(os:Os){H:Type}(enc:TypeId × Value->H):∃ places,DataW.whole enc Tryz.prog ((zvM os).forCall (fun _ _=>0) ⟨#[],#[.string ⟨#[]⟩,.int .i64 0,.int .i64 0,.int .i64 0,.int .i64 0],[]⟩).memory Tryz.f10.params.toList Rows.steadySpec.vars false #[Value.string ⟨#[]⟩,.int .i64 0,.int .i64 0,.int .i64 0,.int .i64 0].toList 8=some ([.lit (.string []),.lit (.int .i64 0),.lit (.int .i64 0),.lit (.int .i64 0),.lit (.int .i64 0)],[],places):=
 ⟨[],by kernel_rfl⟩
theorem zAF(os:Os)(started:os.Started)(H:Type)(enc:TypeId × Value->H)(F:Stop.Interp):
  ReturnsInHanded {} Tryz.checked os 10 .any ((OpenSpec.ofChange Rows.steadySpec).preRow enc Tryz.prog Tryz.f10 Rows.steadyRow.domain false Rows.steadyRow.laid) (((OpenSpec.ofChange Rows.steadySpec).at F).post enc Tryz.prog Tryz.f10 false true false false):=by
 obtain ⟨places,hx⟩:=zAH os enc;refine returnsInHanded_of_row (C:=Tryz.checked) (s:=OpenSpec.ofChange Rows.steadySpec) zyp started (by kernel_rfl) Tryz.func10
  (witness_row_at (enc:=enc) (C:=Tryz.checked) false (zvM os) #[.string ⟨#[]⟩,.int .i64 0,.int .i64 0,.int .i64 0,.int .i64 0] rfl (by kernel_rfl) (by kernel_rfl) (by kernel_rfl)
   (OpenSpec.preRow_of_cond 8 hx (by kernel_rfl) (fun k hk=>by cases hk) (by kernel_rfl) (zym os _))) ?_
 intro W base args ds gs before ed hW _ _ _ _ _ _;exact zAD H enc W base args ds gs before ed hW
theorem zAI:Rows.SteadySaid:=
 OpenClaim.holds_of_cond 10 Tryz.f10 rfl rfl rfl rfl rfl rfl rfl ⟨rfl,rfl,rfl,rfl,rfl⟩ rfl rfl rfl rfl rfl zAC Tryz.func10 zAE
  (of_decide_eq_true (by kernel_rfl)) (by unfold Func.isWrapper;first|(rw[if_pos (by decide +kernel)];kernel_rfl)|(rw[if_neg (by decide +kernel)];exact ⟨rfl,rfl⟩))
  (fun os started H enc _ F=>by rw[OpenClaim.pre_eq_preRow];exact zAF os started H enc F)
theorem steady_card:Rows.SteadyCardSaid:=
 Claim7.holds_tied_plain_at .later [] _ _ _ _ zAI (fun _ h=>by cases h) (by kernel_rfl) (fun _ h=>by cases h) steady_row_tie rfl ⟨rfl,rfl⟩ (by kernel_rfl) rfl zAG (by kernel_rfl)
end Go.Proofs.YtgahgkddaljmkaaGreatDoor
