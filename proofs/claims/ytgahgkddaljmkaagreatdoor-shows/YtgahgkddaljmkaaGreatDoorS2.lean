/- The law Shows, for every script: the statement and its card. -/
import Derived.Test.YtgahgkddaljmkaaGreatDoorS1
namespace Go.Proofs.YtgahgkddaljmkaaGreatDoor
open Go.ChangeShapes Go.WideShapes Go.ChangeAt Go.RowKit

theorem shows_said : Rows.ShowsSaid :=
  OpenClaim.holds_of_cond 4 Tryz.f4 rfl rfl rfl rfl rfl rfl rfl ⟨rfl, rfl, rfl, rfl, rfl⟩ rfl rfl rfl rfl rfl shows_named Tryz.func4 shows_closed
    (of_decide_eq_true (by kernel_rfl)) (by unfold Func.isWrapper; first | (rw [if_pos (by decide +kernel)]; kernel_rfl) | (rw [if_neg (by decide +kernel)]; exact ⟨rfl, rfl⟩))
    (fun os started H enc _ F => by rw [OpenClaim.pre_eq_preRow]; exact shows_lifted os started H enc F)

/-- The law Shows holds for every script: its card. -/
theorem shows_card : Rows.ShowsCardSaid :=
  Claim7.holds_tied_plain_at .later [] _ _ _ _ shows_said (fun _ h => by cases h) (by kernel_rfl) (fun _ h => by cases h) shows_row_tie rfl ⟨rfl, rfl⟩ (by kernel_rfl) rfl shows_plain (by kernel_rfl)

end Go.Proofs.YtgahgkddaljmkaaGreatDoor
