/- The law Held: a list of whatever number up to 200 that is gone through twice is out of heap in as many words or fewer, and is answered with much; its card, without further conditions. -/
import Derived.Test.YtgahgkddaljmkaaGreatDoorT20
import Derived.Test.YtgahgkddaljmkaaGreatDoorT31
set_option maxRecDepth 100000
set_option maxHeartbeats 4000000
namespace Go.Proofs.YtgahgkddaljmkaaGreatDoor
open Go.ChangeShapes Go.WideShapes Go.ChangeAt Go.RowKit
theorem zHI(os:Os)(args:Array Value):laidMet Tryz.prog Rows.heldRow.laid ((zvM os).forCall (fun _ _=>0) ⟨#[],args,[]⟩).memory:=
 laidMet_of_run' 8 (by kernel_rfl) (by kernel_rfl)
theorem zHD(os:Os){H:Type}(enc:TypeId × Value->H):∃ places,DataW.whole enc Tryz.prog ((zvM os).forCall (fun _ _=>0) ⟨#[],#[.int .i64 0,.int .i64 0],[]⟩).memory Tryz.f13.params.toList Rows.heldSpec.vars false #[Value.int .i64 0,.int .i64 0].toList 8=some ([.lit (.int .i64 0),.lit (.int .i64 0)],[],places):=
 ⟨[],by kernel_rfl⟩
theorem zHw(os:Os)(started:os.Started)(H:Type)(enc:TypeId × Value->H)(F:Stop.Interp):
  ReturnsInHanded {} Tryz.checked os 13 .any ((OpenSpec.ofChange Rows.heldSpec).preRow enc Tryz.prog Tryz.f13 Rows.heldRow.domain false Rows.heldRow.laid) (((OpenSpec.ofChange Rows.heldSpec).at F).post enc Tryz.prog Tryz.f13 false true false false):=by
 obtain ⟨places,hx⟩:=zHD os enc;refine returnsInHanded_of_row (C:=Tryz.checked) (s:=OpenSpec.ofChange Rows.heldSpec) zyp started (by kernel_rfl) Tryz.func13
  (witness_row_at (enc:=enc) (C:=Tryz.checked) false (zvM os) #[.int .i64 0,.int .i64 0] rfl (by kernel_rfl) (by kernel_rfl) (by kernel_rfl)
   (OpenSpec.preRow_of_cond 8 hx (by kernel_rfl) (fun k hk=>by cases hk) (by kernel_rfl) (zHI os _))) ?_
 intro W base args ds gs before ed hW _ _ _ _ _ _;exact zHr H enc W base args ds gs before ed hW
theorem zHH:Rows.HeldSaid:=
 OpenClaim.holds_of_cond 13 Tryz.f13 rfl rfl rfl rfl rfl rfl rfl ⟨rfl,rfl,rfl,rfl,rfl⟩ rfl rfl rfl rfl rfl zHq Tryz.func13 zHv
  (of_decide_eq_true (by kernel_rfl)) (by unfold Func.isWrapper;first|(rw[if_pos (by decide +kernel)];kernel_rfl)|(rw[if_neg (by decide +kernel)];exact ⟨rfl,rfl⟩))
  (fun os started H enc _ F=>by rw[OpenClaim.pre_eq_preRow];exact zHw os started H enc F)
theorem held_card:Rows.HeldCardSaid:=
 Claim7.holds_tied_plain_at .later [] _ _ _ _ zHH (fun _ h=>by cases h) (by kernel_rfl) (fun _ h=>by cases h) held_row_tie rfl ⟨rfl,rfl⟩ (by kernel_rfl) rfl zHC (by kernel_rfl)
end Go.Proofs.YtgahgkddaljmkaaGreatDoor
