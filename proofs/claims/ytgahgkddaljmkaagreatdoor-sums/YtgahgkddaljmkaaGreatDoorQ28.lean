/- The law Sums: a sum, however it is made, comes to what it comes to, with any heap and fuel, or it ran out; of all raw numbers; its card, without further conditions. -/
import Derived.Test.YtgahgkddaljmkaaGreatDoorQ21
import Derived.Test.YtgahgkddaljmkaaGreatDoorQ27
set_option maxRecDepth 100000
set_option maxHeartbeats 4000000
namespace Go.Proofs.YtgahgkddaljmkaaGreatDoor
open Go.ChangeShapes Go.WideShapes Go.ChangeAt Go.RowKit
theorem zDA(os:Os)(args:Array Value):laidMet Tryz.prog Rows.sumsRow.laid ((zvM os).forCall (fun _ _=>0) ⟨#[],args,[]⟩).memory:=
 laidMet_of_run' 8 (by kernel_rfl) (by kernel_rfl)
theorem zDo(os:Os){H:Type}(enc:TypeId × Value->H):∃ places,DataW.whole enc Tryz.prog ((zvM os).forCall (fun _ _=>0) ⟨#[],#[.slice none 0 0,.int .i64 0,.int .i64 0],[]⟩).memory Tryz.f6.params.toList Rows.sumsSpec.vars false #[Value.slice none 0 0,.int .i64 0,.int .i64 0].toList 8=some ([.nil,.lit (.int .i64 0),.lit (.int .i64 0)],[],places):=
 ⟨[],by kernel_rfl⟩
theorem zC2(os:Os)(started:os.Started)(H:Type)(enc:TypeId × Value->H)(F:Stop.Interp):
  ReturnsInHanded {} Tryz.checked os 6 .any ((OpenSpec.ofChange Rows.sumsSpec).preRow enc Tryz.prog Tryz.f6 Rows.sumsRow.domain false Rows.sumsRow.laid) (((OpenSpec.ofChange Rows.sumsSpec).at F).post enc Tryz.prog Tryz.f6 false true false false):=by
 obtain ⟨places,hx⟩:=zDo os enc;refine returnsInHanded_of_row (C:=Tryz.checked) (s:=OpenSpec.ofChange Rows.sumsSpec) zyp started (by kernel_rfl) Tryz.func6
  (witness_row_at (enc:=enc) (C:=Tryz.checked) false (zvM os) #[.slice none 0 0,.int .i64 0,.int .i64 0] rfl (by kernel_rfl) (by kernel_rfl) (by kernel_rfl)
   (OpenSpec.preRow_of_cond 8 hx (by kernel_rfl) (fun k hk=>by cases hk) (by kernel_rfl) (zDA os _))) ?_
 intro W base args ds gs before ed hW _ _ _ _ _ _;exact zCK H enc W base args ds gs before ed hW
theorem zD5:Rows.SumsSaid:=
 OpenClaim.holds_of_cond 6 Tryz.f6 rfl rfl rfl rfl rfl rfl rfl ⟨rfl,rfl,rfl,rfl,rfl⟩ rfl rfl rfl rfl rfl zCA Tryz.func6 zC1
  (of_decide_eq_true (by kernel_rfl)) (by unfold Func.isWrapper;first|(rw[if_pos (by decide +kernel)];kernel_rfl)|(rw[if_neg (by decide +kernel)];exact ⟨rfl,rfl⟩))
  (fun os started H enc _ F=>by rw[OpenClaim.pre_eq_preRow];exact zC2 os started H enc F)
theorem sums_card:Rows.SumsCardSaid:=
 Claim7.holds_tied_plain_at .later [] _ _ _ _ zD5 (fun _ h=>by cases h) (by kernel_rfl) (fun _ h=>by cases h) sums_row_tie rfl ⟨rfl,rfl⟩ (by kernel_rfl) rfl zDn (by kernel_rfl)
end Go.Proofs.YtgahgkddaljmkaaGreatDoor
