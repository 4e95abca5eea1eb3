/- The law Counted: counting down from whatever number to 9999, three ways, is answered in a heap of 600 words, and runs out with as many units of fuel as rounds; its card, without further conditions. -/
import Derived.Test.YtgahgkddaljmkaaGreatDoorZ22
import Derived.Test.YtgahgkddaljmkaaGreatDoorZ28
set_option maxRecDepth 100000
set_option maxHeartbeats 4000000
namespace Go.Proofs.YtgahgkddaljmkaaGreatDoor
open Go.ChangeShapes Go.WideShapes Go.ChangeAt Go.RowKit
theorem zBr(os:Os)(args:Array Value):laidMet Tryz.prog Rows.countedRow.laid ((zvM os).forCall (fun _ _=>0) ⟨#[],args,[]⟩).memory:=
 laidMet_of_run' 8 (by kernel_rfl) (by kernel_rfl)
theorem zA4(os:Os){H:Type}(enc:TypeId × Value->H):∃ places,DataW.whole enc Tryz.prog ((zvM os).forCall (fun _ _=>0) ⟨#[],#[.int .i64 0,.int .i64 0],[]⟩).memory Tryz.f12.params.toList Rows.countedSpec.vars false #[Value.int .i64 0,.int .i64 0].toList 8=some ([.lit (.int .i64 0),.lit (.int .i64 0)],[],places):=
 ⟨[],by kernel_rfl⟩
theorem zAY(os:Os)(started:os.Started)(H:Type)(enc:TypeId × Value->H)(F:Stop.Interp):
  ReturnsInHanded {} Tryz.checked os 12 .any ((OpenSpec.ofChange Rows.countedSpec).preRow enc Tryz.prog Tryz.f12 Rows.countedRow.domain false Rows.countedRow.laid) (((OpenSpec.ofChange Rows.countedSpec).at F).post enc Tryz.prog Tryz.f12 false true false false):=by
 obtain ⟨places,hx⟩:=zA4 os enc;refine returnsInHanded_of_row (C:=Tryz.checked) (s:=OpenSpec.ofChange Rows.countedSpec) zyp started (by kernel_rfl) Tryz.func12
  (witness_row_at (enc:=enc) (C:=Tryz.checked) false (zvM os) #[.int .i64 0,.int .i64 0] rfl (by kernel_rfl) (by kernel_rfl) (by kernel_rfl)
   (OpenSpec.preRow_of_cond 8 hx (by kernel_rfl) (fun k hk=>by cases hk) (by kernel_rfl) (zBr os _))) ?_
 intro W base args ds gs before ed hW _ _ _ _ _ _;exact zAQ H enc W base args ds gs before ed hW
theorem zA9:Rows.CountedSaid:=
 OpenClaim.holds_of_cond 12 Tryz.f12 rfl rfl rfl rfl rfl rfl rfl ⟨rfl,rfl,rfl,rfl,rfl⟩ rfl rfl rfl rfl rfl zAN Tryz.func12 zAX
  (of_decide_eq_true (by kernel_rfl)) (by unfold Func.isWrapper;first|(rw[if_pos (by decide +kernel)];kernel_rfl)|(rw[if_neg (by decide +kernel)];exact ⟨rfl,rfl⟩))
  (fun os started H enc _ F=>by rw[OpenClaim.pre_eq_preRow];exact zAY os started H enc F)
theorem counted_card:Rows.CountedCardSaid:=
 Claim7.holds_tied_plain_at .later [] _ _ _ _ zA9 (fun _ h=>by cases h) (by kernel_rfl) (fun _ h=>by cases h) counted_row_tie rfl ⟨rfl,rfl⟩ (by kernel_rfl) rfl zA3 (by kernel_rfl)
end Go.Proofs.YtgahgkddaljmkaaGreatDoor
