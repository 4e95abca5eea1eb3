/- The law Lazy: beside a sum stands what is stuck or never ends, in six places where it is not needed: the program comes to what the sum comes to, with any heap and fuel, or it ran out; of all raw numbers; its card, without further conditions. -/
import Derived.Test.YtgahgkddaljmkaaGreatDoorR19
import Derived.Test.YtgahgkddaljmkaaGreatDoorR30
set_option maxRecDepth 100000
set_option maxHeartbeats 4000000
namespace Go.Proofs.YtgahgkddaljmkaaGreatDoor
open Go.ChangeShapes Go.WideShapes Go.ChangeAt Go.RowKit
theorem zF4(os:Os)(args:Array Value):laidMet Tryz.prog Rows.lazyRow.laid ((zvM os).forCall (fun _ _=>0) ⟨#[],args,[]⟩).memory:=
 laidMet_of_run' 8 (by kernel_rfl) (by kernel_rfl)
theorem zFX(os:Os){H:Type}(enc:TypeId × Value->H):∃ places,DataW.whole enc Tryz.prog ((zvM os).forCall (fun _ _=>0) ⟨#[],#[.slice none 0 0,.int .i64 0,.int .i64 0,.int .i64 0,.int .i64 0],[]⟩).memory Tryz.f7.params.toList Rows.lazySpec.vars false #[Value.slice none 0 0,.int .i64 0,.int .i64 0,.int .i64 0,.int .i64 0].toList 8=some ([.nil,.lit (.int .i64 0),.lit (.int .i64 0),.lit (.int .i64 0),.lit (.int .i64 0)],[],places):=
 ⟨[],by kernel_rfl⟩
theorem zFG(os:Os)(started:os.Started)(H:Type)(enc:TypeId × Value->H)(F:Stop.Interp):
  ReturnsInHanded {} Tryz.checked os 7 .any ((OpenSpec.ofChange Rows.lazySpec).preRow enc Tryz.prog Tryz.f7 Rows.lazyRow.domain false Rows.lazyRow.laid) (((OpenSpec.ofChange Rows.lazySpec).at F).post enc Tryz.prog Tryz.f7 false true false false):=by
 obtain ⟨places,hx⟩:=zFX os enc;refine returnsInHanded_of_row (C:=Tryz.checked) (s:=OpenSpec.ofChange Rows.lazySpec) zyp started (by kernel_rfl) Tryz.func7
  (witness_row_at (enc:=enc) (C:=Tryz.checked) false (zvM os) #[.slice none 0 0,.int .i64 0,.int .i64 0,.int .i64 0,.int .i64 0] rfl (by kernel_rfl) (by kernel_rfl) (by kernel_rfl)
   (OpenSpec.preRow_of_cond 8 hx (by kernel_rfl) (fun k hk=>by cases hk) (by kernel_rfl) (zF4 os _))) ?_
 intro W base args ds gs before ed hW _ _ _ _ _ _;exact zFs H enc W base args ds gs before ed hW
theorem zF5:Rows.LazySaid:=
 OpenClaim.holds_of_cond 7 Tryz.f7 rfl rfl rfl rfl rfl rfl rfl ⟨rfl,rfl,rfl,rfl,rfl⟩ rfl rfl rfl rfl rfl zFm Tryz.func7 zFF
  (of_decide_eq_true (by kernel_rfl)) (by unfold Func.isWrapper;first|(rw[if_pos (by decide +kernel)];kernel_rfl)|(rw[if_neg (by decide +kernel)];exact ⟨rfl,rfl⟩))
  (fun os started H enc _ F=>by rw[OpenClaim.pre_eq_preRow];exact zFG os started H enc F)
theorem lazy_card:Rows.LazyCardSaid:=
 Claim7.holds_tied_plain_at .later [] _ _ _ _ zF5 (fun _ h=>by cases h) (by kernel_rfl) (fun _ h=>by cases h) lazy_row_tie rfl ⟨rfl,rfl⟩ (by kernel_rfl) rfl zFW (by kernel_rfl)
end Go.Proofs.YtgahgkddaljmkaaGreatDoor
