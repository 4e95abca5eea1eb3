/- The law Listed: lists of numbers are summed, counted, and their last one taken, of every list, which, heap and fuel; its card, without further conditions. -/
import Derived.Test.YtgahgkddaljmkaaGreatDoorX42
import Derived.Test.YtgahgkddaljmkaaGreatDoorX48
set_option maxRecDepth 100000
set_option maxHeartbeats 4000000
namespace Go.Proofs.YtgahgkddaljmkaaGreatDoor
open Go.ChangeShapes Go.WideShapes Go.ChangeAt Go.RowKit
theorem zAW(os:Os)(args:Array Value):laidMet Tryz.prog Rows.listedRow.laid ((zvM os).forCall (fun _ _=>0) ⟨#[],args,[]⟩).memory:=
 laidMet_of_run' 8 (by kernel_rfl) (by kernel_rfl)
theorem zAP(os:Os){H:Type}(enc:TypeId × Value->H):∃ places,DataW.whole enc Tryz.prog ((zvM os).forCall (fun _ _=>0) ⟨#[],#[.slice none 0 0,.int .i64 0,.int .i64 0,.int .i64 0],[]⟩).memory Tryz.f9.params.toList Rows.listedSpec.vars false #[Value.slice none 0 0,.int .i64 0,.int .i64 0,.int .i64 0].toList 8=some ([.nil,.lit (.int .i64 0),.lit (.int .i64 0),.lit (.int .i64 0)],[],places):=
 ⟨[],by kernel_rfl⟩
theorem zAM(os:Os)(started:os.Started)(H:Type)(enc:TypeId × Value->H)(F:Stop.Interp):
  ReturnsInHanded {} Tryz.checked os 9 .any ((OpenSpec.ofChange Rows.listedSpec).preRow enc Tryz.prog Tryz.f9 Rows.listedRow.domain false Rows.listedRow.laid) (((OpenSpec.ofChange Rows.listedSpec).at F).post enc Tryz.prog Tryz.f9 false true false false):=by
 obtain ⟨places,hx⟩:=zAP os enc;refine returnsInHanded_of_row (C:=Tryz.checked) (s:=OpenSpec.ofChange Rows.listedSpec) zyp started (by kernel_rfl) Tryz.func9
  (witness_row_at (enc:=enc) (C:=Tryz.checked) false (zvM os) #[.slice none 0 0,.int .i64 0,.int .i64 0,.int .i64 0] rfl (by kernel_rfl) (by kernel_rfl) (by kernel_rfl)
   (OpenSpec.preRow_of_cond 8 hx (by kernel_rfl) (fun k hk=>by cases hk) (by kernel_rfl) (zAW os _))) ?_
 intro W base args ds gs before ed hW _ _ _ _ _ _;exact zAH H enc W base args ds gs before ed hW
theorem zAR:Rows.ListedSaid:=
 OpenClaim.holds_of_cond 9 Tryz.f9 rfl rfl rfl rfl rfl rfl rfl ⟨rfl,rfl,rfl,rfl,rfl⟩ rfl rfl rfl rfl rfl zAF Tryz.func9 zAL
  (of_decide_eq_true (by kernel_rfl)) (by unfold Func.isWrapper;first|(rw[if_pos (by decide +kernel)];kernel_rfl)|(rw[if_neg (by decide +kernel)];exact ⟨rfl,rfl⟩))
  (fun os started H enc _ F=>by rw[OpenClaim.pre_eq_preRow];exact zAM os started H enc F)
theorem listed_card:Rows.ListedCardSaid:=
 Claim7.holds_tied_plain_at .later [] _ _ _ _ zAR (fun _ h=>by cases h) (by kernel_rfl) (fun _ h=>by cases h) listed_row_tie rfl ⟨rfl,rfl⟩ (by kernel_rfl) rfl zAO (by kernel_rfl)
end Go.Proofs.YtgahgkddaljmkaaGreatDoor
