/- The law Shared: a number that is doubled by its name up to 24 times comes to what plain arithmetic says, of every first number and every count; its card, without further conditions. -/
import Derived.Test.YtgahgkddaljmkaaGreatDoorW42
import Derived.Test.YtgahgkddaljmkaaGreatDoorW46
set_option maxRecDepth 100000
set_option maxHeartbeats 4000000
namespace Go.Proofs.YtgahgkddaljmkaaGreatDoor
open Go.ChangeShapes Go.WideShapes Go.ChangeAt Go.RowKit
theorem ztm(os:Os)(args:Array Value):laidMet Tryz.prog Rows.sharedRow.laid ((zvM os).forCall (fun _ _=>0) ⟨#[],args,[]⟩).memory:=
 laidMet_of_run' 8 (by kernel_rfl) (by kernel_rfl)
theorem zoi(os:Os){H:Type}(enc:TypeId × Value->H):∃ places,DataW.whole enc Tryz.prog ((zvM os).forCall (fun _ _=>0) ⟨#[],#[.int .i64 0,.int .i64 0],[]⟩).memory Tryz.f8.params.toList Rows.sharedSpec.vars false #[Value.int .i64 0,.int .i64 0].toList 8=some ([.lit (.int .i64 0),.lit (.int .i64 0)],[],places):=
 ⟨[],by kernel_rfl⟩
theorem zmJ(os:Os)(started:os.Started)(H:Type)(enc:TypeId × Value->H)(F:Stop.Interp):
  ReturnsInHanded {} Tryz.checked os 8 .any ((OpenSpec.ofChange Rows.sharedSpec).preRow enc Tryz.prog Tryz.f8 Rows.sharedRow.domain false Rows.sharedRow.laid) (((OpenSpec.ofChange Rows.sharedSpec).at F).post enc Tryz.prog Tryz.f8 false true false false):=by
 obtain ⟨places,hx⟩:=zoi os enc;refine returnsInHanded_of_row (C:=Tryz.checked) (s:=OpenSpec.ofChange Rows.sharedSpec) zyp started (by kernel_rfl) Tryz.func8
  (witness_row_at (enc:=enc) (C:=Tryz.checked) false (zvM os) #[.int .i64 0,.int .i64 0] rfl (by kernel_rfl) (by kernel_rfl) (by kernel_rfl)
   (OpenSpec.preRow_of_cond 8 hx (by kernel_rfl) (fun k hk=>by cases hk) (by kernel_rfl) (ztm os _))) ?_
 intro W base args ds gs before ed hW _ _ _ _ _ _;exact zjR H enc W base args ds gs before ed hW
theorem zpN:Rows.SharedSaid:=
 OpenClaim.holds_of_cond 8 Tryz.f8 rfl rfl rfl rfl rfl rfl rfl ⟨rfl,rfl,rfl,rfl,rfl⟩ rfl rfl rfl rfl rfl zim Tryz.func8 zmI
  (of_decide_eq_true (by kernel_rfl)) (by unfold Func.isWrapper;first|(rw[if_pos (by decide +kernel)];kernel_rfl)|(rw[if_neg (by decide +kernel)];exact ⟨rfl,rfl⟩))
  (fun os started H enc _ F=>by rw[OpenClaim.pre_eq_preRow];exact zmJ os started H enc F)
theorem shared_card:Rows.SharedCardSaid:=
 Claim7.holds_tied_plain_at .later [] _ _ _ _ zpN (fun _ h=>by cases h) (by kernel_rfl) (fun _ h=>by cases h) shared_row_tie rfl ⟨rfl,rfl⟩ (by kernel_rfl) rfl zoh (by kernel_rfl)
end Go.Proofs.YtgahgkddaljmkaaGreatDoor
