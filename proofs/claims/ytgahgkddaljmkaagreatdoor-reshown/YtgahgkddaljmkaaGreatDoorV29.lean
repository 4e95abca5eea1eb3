/- The law Reshown: what is shown of every source is shown as it is, and means the same; its card, without further conditions. -/
import Derived.Test.YtgahgkddaljmkaaGreatDoorV19
import Derived.Test.YtgahgkddaljmkaaGreatDoorV28
import Derived.Stop.LaidErr
set_option maxRecDepth 100000
set_option maxHeartbeats 4000000
namespace Go.Proofs.YtgahgkddaljmkaaGreatDoor
open Go.ChangeShapes Go.WideShapes Go.ChangeAt Go.RowKit
theorem zMz{W:World}(h:laidMetH Tryz.prog Rows.reshownRow.laid W):Nq W:=by have h0:laidMet Tryz.prog Rows.reshownRow.laid W:=h;exact Lib.tabIs_of_head (g:=0) (by kernel_rfl) (by kernel_rfl) Tryz.underlying358 Tryz.underlying338 (by kernel_rfl) (by kernel_rfl) (laidMet.tail (laidMet.tail h0))
theorem zLO(os:Os)(args:Array Value):laidMet Tryz.prog Rows.reshownRow.laid ((zvM os).forCall (λ_ _=>0) ⟨#[],args,[]⟩).memory:=
 laidMet_of_run' 8 (by kernel_rfl) (by kernel_rfl)
theorem zJT(os:Os){H:Type}(enc:TypeId × Value->H):∃places,DataW.whole enc Tryz.prog ((zvM os).forCall (λ_ _=>0) ⟨#[],#[.string ⟨#[]⟩,.slice none 0 0,.int .i64 0],[]⟩).memory Tryz.f11.params.toList Rows.reshownSpec.vars false #[Value.string ⟨#[]⟩,.slice none 0 0,.int .i64 0].toList 8=some ([.lit (.string []),.nil,.lit (.int .i64 0)],[],places):=
 ⟨[],by kernel_rfl⟩
theorem zJH(os:Os)(started:os.Started)(H:Type)(enc:TypeId × Value->H)(F:Stop.Interp):
  ReturnsInHanded {} Tryz.checked os 11 .any ((OpenSpec.ofChange Rows.reshownSpec).preRow enc Tryz.prog Tryz.f11 Rows.reshownRow.domain false Rows.reshownRow.laid) (((OpenSpec.ofChange Rows.reshownSpec).at F).post enc Tryz.prog Tryz.f11 false true false false):=by
 obtain⟨places,hx⟩:=zJT os enc;refine returnsInHanded_of_row (C:=Tryz.checked) (s:=OpenSpec.ofChange Rows.reshownSpec) zyp started (by kernel_rfl) Tryz.func11
  (witness_row_at (enc:=enc) (C:=Tryz.checked) false (zvM os) #[.string ⟨#[]⟩,.slice none 0 0,.int .i64 0] rfl (by kernel_rfl) (by kernel_rfl) (by kernel_rfl)
   (OpenSpec.preRow_of_cond 8 hx (by kernel_rfl) (λk hk=>by cases hk) (by kernel_rfl) (zLO os _))) ?_
 intro W base args ds gs before ed hW _ _ _ hL _ _;exact zJb H enc W base args ds gs before ed hW (zMz hL)
theorem zKk:Rows.ReshownSaid:=
 OpenClaim.holds_of_cond 11 Tryz.f11 rfl rfl rfl rfl rfl rfl rfl ⟨rfl,rfl,rfl,rfl,rfl⟩ rfl rfl rfl rfl rfl zI0 Tryz.func11 zJG
  (of_decide_eq_true (by kernel_rfl)) (by unfold Func.isWrapper;first|(rw[nB (by decide +kernel)];kernel_rfl)|(rw[pL (by decide +kernel)];exact⟨rfl,rfl⟩))
  (λos started H enc _ F=>by rw[OpenClaim.pre_eq_preRow];exact zJH os started H enc F)
theorem reshown_card:Rows.ReshownCardSaid:=
 Claim7.holds_tied_plain_at .later [] _ _ _ _ zKk (λ_ h=>by cases h) (by kernel_rfl) (λ_ h=>by cases h) reshown_row_tie rfl ⟨rfl,rfl⟩ (by kernel_rfl) rfl zJS (by kernel_rfl)
end Go.Proofs.YtgahgkddaljmkaaGreatDoor
