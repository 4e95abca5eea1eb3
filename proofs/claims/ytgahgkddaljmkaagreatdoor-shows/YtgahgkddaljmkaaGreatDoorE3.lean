/- Package show: an operation; a function. -/
import Derived.Test.YtgahgkddaljmkaaGreatDoorE2
import Derived.Test.YtgahgkddaljmkaaGreatDoorD9
namespace Go.Proofs.YtgahgkddaljmkaaGreatDoor
open Go.RowKit
attribute [local go_sem ↓] Go.wp_at_zero Go.wp_at_succ

set_option maxRecDepth 100000 in
set_option maxHeartbeats 4000000 in
theorem poper1 {n : Nat} (hx : PxOK n) {w : World} {S : Nat → Prop} {v1 v2 : Value} {e1 e2 : Th.Ex} {A B : List UInt8} {RA RB SG R : ByteArray} {L M : Nat} (hML : L = 1 ∧ M = 2) (hRA : RA = ⟨A.toArray⟩) (hRB : RB = ⟨B.toArray⟩) (hR : R = RA ++ ⟨#[32]⟩ ++ SG ++ ⟨#[32]⟩ ++ RB) (hA : A = Th.within e1 M (Th.text n e1)) (hB : B = Th.within e2 (L + 1) (Th.text n e2)) (ht : Tab w)
    (hT : ∀ W : World, Calls Tryz.prog 183 #[.agg #[.string SG, v1, v2]] W fun r w' => r = .returned (.int .i64 (L : Nat)) ∧ Below W.heap.size W w')
    (d1 : Rep S w n v1 e1) (d2 : Rep S w n v2 e2) (f1 : Th.Wf n e1) (f2 : Th.Wf n e2) (hl : R.size ≤ 1000000) :
    Calls Tryz.prog 110 #[.agg #[.string SG, v1, v2]] w fun r w' => r = .returned (.string R) ∧ Below w.heap.size w w' := by
  obtain ⟨t1, x1, rfl⟩ := rep_iface d1
  obtain ⟨t2, x2, rfl⟩ := rep_iface d2
  have l1 := Th.within_len e1 M (Th.text n e1)
  have l2 := Th.within_len e2 (L + 1) (Th.text n e2)
  rw [← hA] at l1
  rw [← hB] at l2
  obtain ⟨J1, hJ1⟩ : ∃ J, J = RA ++ ⟨#[32]⟩ := ⟨_, rfl⟩
  obtain ⟨J2, hJ2⟩ : ∃ J, J = J1 ++ SG := ⟨_, rfl⟩
  obtain ⟨J3, hJ3⟩ : ∃ J, J = J2 ++ ⟨#[32]⟩ := ⟨_, rfl⟩
  have hJ4 : R = J3 ++ RB := by rw [hR, hJ3, hJ2, hJ1]
  have s4 : R.size = J3.size + RB.size := by rw [hJ4]; exact ByteArray.size_append
  have s3 : J3.size = J2.size + 1 := by rw [hJ3]; exact ByteArray.size_append
  have s2 : J2.size = J1.size + SG.size := by rw [hJ2]; exact ByteArray.size_append
  have s1 : J1.size = RA.size + 1 := by rw [hJ1]; exact ByteArray.size_append
  have sa : RA.size = A.length := by rw [hRA]; simp [ByteArray.size]
  have sb : RB.size = B.length := by rw [hRB]; simp [ByteArray.size]
  have q1 := cat_run hJ1 (by omega)
  have q2 := cat_run hJ2 (by omega)
  have q3 := cat_run hJ3 (by omega)
  have q4 := cat_run hJ4 (by omega)
  have C1 := hide (fun (W : World) (hW : Below w.heap.size w W) => part_any hx (least := M) (ht.below hW) (d1.gb (gb_below none hW) (by simp)) f1 (by rw [← hA]; omega))
  have C2 := hide (fun (W : World) (hW : Below w.heap.size w W) => part_any hx (least := L + 1) (ht.below hW) (d2.gb (gb_below none hW) (by simp)) f2 (by rw [← hB]; omega))
  rw [← hA, ← hRA] at C1
  rw [← hB, ← hRB] at C2
  have CT := hide hT
  have HBa := hide (below_alloc w (.cells #[.string SG, .iface t1 x1, .iface t2 x2] 166))
  have HA := hide (Blk.new w [.string SG, .iface t1 x1, .iface t2 x2] 166)
  have CE : Hid (∀ W : World, Below (w.heap.size + 1) (w.alloc (.cells #[.string SG, .iface t1 x1, .iface t2 x2] 166)) W → W.cell? ⟨w.heap.size, 0, none⟩ = some (.string SG) ∧ W.cell? ⟨w.heap.size, 1, none⟩ = some (.iface t1 x1) ∧ W.cell? ⟨w.heap.size, 2, none⟩ = some (.iface t2 x2)) := hide (fun W hW => ⟨by simpa using ((unhide HA).below hW (by omega)).cell 0, by simpa using ((unhide HA).below hW (by omega)).cell 1, by simpa using ((unhide HA).below hW (by omega)).cell 2⟩)
  clear d1 d2 f1 f2 hx l1 l2 hA hB hR ht hT hJ1 hJ2 hJ3 hJ4 s1 s2 s3 s4 sa sb hRA hRB hl
  simp only [Int.natCast_add, Int.natCast_one] at C2
  obtain ⟨rfl, rfl⟩ := hML
  go_enter Tryz.func110, Tryz.ntmps110
  go_wp2_with fail
  refine (unhide CT _).mono ?_
  rintro en w0 ⟨rfl, b0⟩
  have HQ0 := hide ((Below.refl (w.heap.size + 1) (w.alloc (.cells #[.string SG, .iface t1 x1, .iface t2 x2] 166))).trans (b0.mono (by simp)))
  have HB0 := hide ((unhide HBa).trans (b0.mono (by simp)))
  obtain ⟨g0, g1, g2⟩ := unhide CE w0 (unhide HQ0)
  have hs0 := (unhide HB0).size
  have hq0 : w.heap.size + 1 ≤ w0.heap.size := by have := b0.size; simp at this; omega
  clear b0
  go_wp2_with fail
  go_region_held3 (fun W => W.cell? ⟨w.heap.size, 0, none⟩ = some (.string SG) ∧ W.cell? ⟨w.heap.size, 1, none⟩ = some (.iface t1 x1) ∧ W.cell? ⟨w.heap.size, 2, none⟩ = some (.iface t2 x2)) (go_keep) (first
    | (go_at_call_of 109 (Value.iface t1 x1); refine (unhide C1 _ ?_).mono ?_; exact (unhide HB0).drew; rintro en w1 ⟨rfl, b1⟩; have b1' : Below w.heap.size w w1 := (unhide HB0).drew.trans (b1.mono hs0); have HB1 := hide b1'; have q1' := (unhide HQ0).drew.trans (b1.mono hq0); have HQ1 := hide q1'; obtain ⟨j0, j1, j2⟩ := unhide CE w1 q1'; have hs1 := b1'.size; have hq1 : w.heap.size + 1 ≤ w1.heap.size := (Nat.le_trans hq0 b1.size); clear b1 b1' q1')
    | (go_at_call 183; refine (unhide CT _).mono ?_; rintro en w3 ⟨rfl, b3⟩; have b3' : Below w.heap.size w w3 := (unhide HB1).trans (b3.mono hs1); have HB3 := hide b3'; have q3' := (unhide HQ1).trans (b3.mono hq1); have HQ3 := hide q3'; obtain ⟨k0, k1, k2⟩ := unhide CE w3 q3'; have hs3 := b3'.size; have hq3 : w.heap.size + 1 ≤ w3.heap.size := (Nat.le_trans hq1 b3.size); clear b3 b3' q3')
    | (go_at_call_of 109 (Value.iface t2 x2); refine (unhide C2 _ ?_).mono ?_; exact unhide HB3; rintro en w2 ⟨rfl, b2⟩; have b2' := (unhide HB3).trans (b2.mono hs3); have HB2 := hide b2'; have q2' := (unhide HQ3).trans (b2.mono hq3); obtain ⟨m0, m1, m2⟩ := unhide CE w2 q2'; clear b2 b2' q2'))
  all_goals
    go_wp2_with fail
    go_ret
    exact ⟨rfl, unhide HB2⟩
set_option maxRecDepth 100000 in
set_option maxHeartbeats 4000000 in
theorem poper2 {n : Nat} (hx : PxOK n) {w : World} {S : Nat → Prop} {v1 v2 : Value} {e1 e2 : Th.Ex} {A B : List UInt8} {RA RB SG R : ByteArray} {L M : Nat} (hML : L = 2 ∧ M = 2) (hRA : RA = ⟨A.toArray⟩) (hRB : RB = ⟨B.toArray⟩) (hR : R = RA ++ ⟨#[32]⟩ ++ SG ++ ⟨#[32]⟩ ++ RB) (hA : A = Th.within e1 M (Th.text n e1)) (hB : B = Th.within e2 (L + 1) (Th.text n e2)) (ht : Tab w)
    (hT : ∀ W : World, Calls Tryz.prog 183 #[.agg #[.string SG, v1, v2]] W fun r w' => r = .returned (.int .i64 (L : Nat)) ∧ Below W.heap.size W w')
    (d1 : Rep S w n v1 e1) (d2 : Rep S w n v2 e2) (f1 : Th.Wf n e1) (f2 : Th.Wf n e2) (hl : R.size ≤ 1000000) :
    Calls Tryz.prog 110 #[.agg #[.string SG, v1, v2]] w fun r w' => r = .returned (.string R) ∧ Below w.heap.size w w' := by
  obtain ⟨t1, x1, rfl⟩ := rep_iface d1
  obtain ⟨t2, x2, rfl⟩ := rep_iface d2
  have l1 := Th.within_len e1 M (Th.text n e1)
  have l2 := Th.within_len e2 (L + 1) (Th.text n e2)
  rw [← hA] at l1
  rw [← hB] at l2
  obtain ⟨J1, hJ1⟩ : ∃ J, J = RA ++ ⟨#[32]⟩ := ⟨_, rfl⟩
  obtain ⟨J2, hJ2⟩ : ∃ J, J = J1 ++ SG := ⟨_, rfl⟩
  obtain ⟨J3, hJ3⟩ : ∃ J, J = J2 ++ ⟨#[32]⟩ := ⟨_, rfl⟩
  have hJ4 : R = J3 ++ RB := by rw [hR, hJ3, hJ2, hJ1]
  have s4 : R.size = J3.size + RB.size := by rw [hJ4]; exact ByteArray.size_append
  have s3 : J3.size = J2.size + 1 := by rw [hJ3]; exact ByteArray.size_append
  have s2 : J2.size = J1.size + SG.size := by rw [hJ2]; exact ByteArray.size_append
  have s1 : J1.size = RA.size + 1 := by rw [hJ1]; exact ByteArray.size_append
  have sa : RA.size = A.length := by rw [hRA]; simp [ByteArray.size]
  have sb : RB.size = B.length := by rw [hRB]; simp [ByteArray.size]
  have q1 := cat_run hJ1 (by omega)
  have q2 := cat_run hJ2 (by omega)
  have q3 := cat_run hJ3 (by omega)
  have q4 := cat_run hJ4 (by omega)
  have C1 := hide (fun (W : World) (hW : Below w.heap.size w W) => part_any hx (least := M) (ht.below hW) (d1.gb (gb_below none hW) (by simp)) f1 (by rw [← hA]; omega))
  have C2 := hide (fun (W : World) (hW : Below w.heap.size w W) => part_any hx (least := L + 1) (ht.below hW) (d2.gb (gb_below none hW) (by simp)) f2 (by rw [← hB]; omega))
  rw [← hA, ← hRA] at C1
  rw [← hB, ← hRB] at C2
  have CT := hide hT
  have HBa := hide (below_alloc w (.cells #[.string SG, .iface t1 x1, .iface t2 x2] 166))
  have HA := hide (Blk.new w [.string SG, .iface t1 x1, .iface t2 x2] 166)
  have CE : Hid (∀ W : World, Below (w.heap.size + 1) (w.alloc (.cells #[.string SG, .iface t1 x1, .iface t2 x2] 166)) W → W.cell? ⟨w.heap.size, 0, none⟩ = some (.string SG) ∧ W.cell? ⟨w.heap.size, 1, none⟩ = some (.iface t1 x1) ∧ W.cell? ⟨w.heap.size, 2, none⟩ = some (.iface t2 x2)) := hide (fun W hW => ⟨by simpa using ((unhide HA).below hW (by omega)).cell 0, by simpa using ((unhide HA).below hW (by omega)).cell 1, by simpa using ((unhide HA).below hW (by omega)).cell 2⟩)
  clear d1 d2 f1 f2 hx l1 l2 hA hB hR ht hT hJ1 hJ2 hJ3 hJ4 s1 s2 s3 s4 sa sb hRA hRB hl
  simp only [Int.natCast_add, Int.natCast_one] at C2
  obtain ⟨rfl, rfl⟩ := hML
  go_enter Tryz.func110, Tryz.ntmps110
  go_wp2_with fail
  refine (unhide CT _).mono ?_
  rintro en w0 ⟨rfl, b0⟩
  have HQ0 := hide ((Below.refl (w.heap.size + 1) (w.alloc (.cells #[.string SG, .iface t1 x1, .iface t2 x2] 166))).trans (b0.mono (by simp)))
  have HB0 := hide ((unhide HBa).trans (b0.mono (by simp)))
  obtain ⟨g0, g1, g2⟩ := unhide CE w0 (unhide HQ0)
  have hs0 := (unhide HB0).size
  have hq0 : w.heap.size + 1 ≤ w0.heap.size := by have := b0.size; simp at this; omega
  clear b0
  go_wp2_with fail
  go_region_held3 (fun W => W.cell? ⟨w.heap.size, 0, none⟩ = some (.string SG) ∧ W.cell? ⟨w.heap.size, 1, none⟩ = some (.iface t1 x1) ∧ W.cell? ⟨w.heap.size, 2, none⟩ = some (.iface t2 x2)) (go_keep) (first
    | (go_at_call_of 109 (Value.iface t1 x1); refine (unhide C1 _ ?_).mono ?_; exact (unhide HB0).drew; rintro en w1 ⟨rfl, b1⟩; have b1' : Below w.heap.size w w1 := (unhide HB0).drew.trans (b1.mono hs0); have HB1 := hide b1'; have q1' := (unhide HQ0).drew.trans (b1.mono hq0); have HQ1 := hide q1'; obtain ⟨j0, j1, j2⟩ := unhide CE w1 q1'; have hs1 := b1'.size; have hq1 : w.heap.size + 1 ≤ w1.heap.size := (Nat.le_trans hq0 b1.size); clear b1 b1' q1')
    | (go_at_call 183; refine (unhide CT _).mono ?_; rintro en w3 ⟨rfl, b3⟩; have b3' : Below w.heap.size w w3 := (unhide HB1).trans (b3.mono hs1); have HB3 := hide b3'; have q3' := (unhide HQ1).trans (b3.mono hq1); have HQ3 := hide q3'; obtain ⟨k0, k1, k2⟩ := unhide CE w3 q3'; have hs3 := b3'.size; have hq3 : w.heap.size + 1 ≤ w3.heap.size := (Nat.le_trans hq1 b3.size); clear b3 b3' q3')
    | (go_at_call_of 109 (Value.iface t2 x2); refine (unhide C2 _ ?_).mono ?_; exact unhide HB3; rintro en w2 ⟨rfl, b2⟩; have b2' := (unhide HB3).trans (b2.mono hs3); have HB2 := hide b2'; have q2' := (unhide HQ3).trans (b2.mono hq3); obtain ⟨m0, m1, m2⟩ := unhide CE w2 q2'; clear b2 b2' q2'))
  all_goals
    go_wp2_with fail
    go_ret
    exact ⟨rfl, unhide HB2⟩
set_option maxRecDepth 100000 in
set_option maxHeartbeats 4000000 in
theorem poper3 {n : Nat} (hx : PxOK n) {w : World} {S : Nat → Prop} {v1 v2 : Value} {e1 e2 : Th.Ex} {A B : List UInt8} {RA RB SG R : ByteArray} {L M : Nat} (hML : L = 3 ∧ M = 3) (hRA : RA = ⟨A.toArray⟩) (hRB : RB = ⟨B.toArray⟩) (hR : R = RA ++ ⟨#[32]⟩ ++ SG ++ ⟨#[32]⟩ ++ RB) (hA : A = Th.within e1 M (Th.text n e1)) (hB : B = Th.within e2 (L + 1) (Th.text n e2)) (ht : Tab w)
    (hT : ∀ W : World, Calls Tryz.prog 183 #[.agg #[.string SG, v1, v2]] W fun r w' => r = .returned (.int .i64 (L : Nat)) ∧ Below W.heap.size W w')
    (d1 : Rep S w n v1 e1) (d2 : Rep S w n v2 e2) (f1 : Th.Wf n e1) (f2 : Th.Wf n e2) (hl : R.size ≤ 1000000) :
    Calls Tryz.prog 110 #[.agg #[.string SG, v1, v2]] w fun r w' => r = .returned (.string R) ∧ Below w.heap.size w w' := by
  obtain ⟨t1, x1, rfl⟩ := rep_iface d1
  obtain ⟨t2, x2, rfl⟩ := rep_iface d2
  have l1 := Th.within_len e1 M (Th.text n e1)
  have l2 := Th.within_len e2 (L + 1) (Th.text n e2)
  rw [← hA] at l1
  rw [← hB] at l2
  obtain ⟨J1, hJ1⟩ : ∃ J, J = RA ++ ⟨#[32]⟩ := ⟨_, rfl⟩
  obtain ⟨J2, hJ2⟩ : ∃ J, J = J1 ++ SG := ⟨_, rfl⟩
  obtain ⟨J3, hJ3⟩ : ∃ J, J = J2 ++ ⟨#[32]⟩ := ⟨_, rfl⟩
  have hJ4 : R = J3 ++ RB := by rw [hR, hJ3, hJ2, hJ1]
  have s4 : R.size = J3.size + RB.size := by rw [hJ4]; exact ByteArray.size_append
  have s3 : J3.size = J2.size + 1 := by rw [hJ3]; exact ByteArray.size_append
  have s2 : J2.size = J1.size + SG.size := by rw [hJ2]; exact ByteArray.size_append
  have s1 : J1.size = RA.size + 1 := by rw [hJ1]; exact ByteArray.size_append
  have sa : RA.size = A.length := by rw [hRA]; simp [ByteArray.size]
  have sb : RB.size = B.length := by rw [hRB]; simp [ByteArray.size]
  have q1 := cat_run hJ1 (by omega)
  have q2 := cat_run hJ2 (by omega)
  have q3 := cat_run hJ3 (by omega)
  have q4 := cat_run hJ4 (by omega)
  have C1 := hide (fun (W : World) (hW : Below w.heap.size w W) => part_any hx (least := M) (ht.below hW) (d1.gb (gb_below none hW) (by simp)) f1 (by rw [← hA]; omega))
  have C2 := hide (fun (W : World) (hW : Below w.heap.size w W) => part_any hx (least := L + 1) (ht.below hW) (d2.gb (gb_below none hW) (by simp)) f2 (by rw [← hB]; omega))
  rw [← hA, ← hRA] at C1
  rw [← hB, ← hRB] at C2
  have CT := hide hT
  have HBa := hide (below_alloc w (.cells #[.string SG, .iface t1 x1, .iface t2 x2] 166))
  have HA := hide (Blk.new w [.string SG, .iface t1 x1, .iface t2 x2] 166)
  have CE : Hid (∀ W : World, Below (w.heap.size + 1) (w.alloc (.cells #[.string SG, .iface t1 x1, .iface t2 x2] 166)) W → W.cell? ⟨w.heap.size, 0, none⟩ = some (.string SG) ∧ W.cell? ⟨w.heap.size, 1, none⟩ = some (.iface t1 x1) ∧ W.cell? ⟨w.heap.size, 2, none⟩ = some (.iface t2 x2)) := hide (fun W hW => ⟨by simpa using ((unhide HA).below hW (by omega)).cell 0, by simpa using ((unhide HA).below hW (by omega)).cell 1, by simpa using ((unhide HA).below hW (by omega)).cell 2⟩)
  clear d1 d2 f1 f2 hx l1 l2 hA hB hR ht hT hJ1 hJ2 hJ3 hJ4 s1 s2 s3 s4 sa sb hRA hRB hl
  simp only [Int.natCast_add, Int.natCast_one] at C2
  obtain ⟨rfl, rfl⟩ := hML
  go_enter Tryz.func110, Tryz.ntmps110
  go_wp2_with fail
  refine (unhide CT _).mono ?_
  rintro en w0 ⟨rfl, b0⟩
  have HQ0 := hide ((Below.refl (w.heap.size + 1) (w.alloc (.cells #[.string SG, .iface t1 x1, .iface t2 x2] 166))).trans (b0.mono (by simp)))
  have HB0 := hide ((unhide HBa).trans (b0.mono (by simp)))
  obtain ⟨g0, g1, g2⟩ := unhide CE w0 (unhide HQ0)
  have hs0 := (unhide HB0).size
  have hq0 : w.heap.size + 1 ≤ w0.heap.size := by have := b0.size; simp at this; omega
  clear b0
  go_wp2_with fail
  go_region_held3 (fun W => W.cell? ⟨w.heap.size, 0, none⟩ = some (.string SG) ∧ W.cell? ⟨w.heap.size, 1, none⟩ = some (.iface t1 x1) ∧ W.cell? ⟨w.heap.size, 2, none⟩ = some (.iface t2 x2)) (go_keep) (first
    | (go_at_call_of 109 (Value.iface t1 x1); refine (unhide C1 _ ?_).mono ?_; exact (unhide HB0).drew; rintro en w1 ⟨rfl, b1⟩; have b1' : Below w.heap.size w w1 := (unhide HB0).drew.trans (b1.mono hs0); have HB1 := hide b1'; have q1' := (unhide HQ0).drew.trans (b1.mono hq0); have HQ1 := hide q1'; obtain ⟨j0, j1, j2⟩ := unhide CE w1 q1'; have hs1 := b1'.size; have hq1 : w.heap.size + 1 ≤ w1.heap.size := (Nat.le_trans hq0 b1.size); clear b1 b1' q1')
    | (go_at_call 183; refine (unhide CT _).mono ?_; rintro en w3 ⟨rfl, b3⟩; have b3' : Below w.heap.size w w3 := (unhide HB1).trans (b3.mono hs1); have HB3 := hide b3'; have q3' := (unhide HQ1).trans (b3.mono hq1); have HQ3 := hide q3'; obtain ⟨k0, k1, k2⟩ := unhide CE w3 q3'; have hs3 := b3'.size; have hq3 : w.heap.size + 1 ≤ w3.heap.size := (Nat.le_trans hq1 b3.size); clear b3 b3' q3')
    | (go_at_call_of 109 (Value.iface t2 x2); refine (unhide C2 _ ?_).mono ?_; exact unhide HB3; rintro en w2 ⟨rfl, b2⟩; have b2' := (unhide HB3).trans (b2.mono hs3); have HB2 := hide b2'; have q2' := (unhide HQ3).trans (b2.mono hq3); obtain ⟨m0, m1, m2⟩ := unhide CE w2 q2'; clear b2 b2' q2'))
  all_goals
    go_wp2_with fail
    go_ret
    exact ⟨rfl, unhide HB2⟩

set_option maxRecDepth 100000 in
set_option maxHeartbeats 4000000 in
theorem pexpr_op {w : World} {v1 v2 : Value} {SG R : ByteArray} (h1 : ∃ t x, v1 = .iface t x) (h2 : ∃ t x, v2 = .iface t x)
    (hO : ∀ W, Below w.heap.size w W → Calls Tryz.prog 110 #[.agg #[.string SG, v1, v2]] W fun r w' => r = .returned (.string R) ∧ Below W.heap.size W w') :
    Calls Tryz.prog 64 #[.iface 166 (.agg #[.string SG, v1, v2])] w fun r w' => r = .returned (.string R) ∧ Below w.heap.size w w' := by
  obtain ⟨t1, x1, rfl⟩ := h1
  obtain ⟨t2, x2, rfl⟩ := h2
  have g1 := tt_Operation_Use
  have g2 := tt_Operation_Number
  have g3 := tt_Operation_Maker
  have g4 := tt_Operation_Call
  have g5 := tt_Operation_Operation
  have C1 := hide hO
  have HBa := hide (below_alloc w (.cells #[.string SG, .iface t1 x1, .iface t2 x2] 166))
  clear hO
  go_enter Tryz.func64, Tryz.ntmps64
  go_wp2_with fail
  refine (unhide C1 _ (unhide HBa)).mono ?_
  rintro en w1 ⟨rfl, b1⟩
  have HB1 := hide ((unhide HBa).trans (b1.mono (unhide HBa).size))
  clear b1
  go_wp2_with fail
  go_ret
  exact ⟨rfl, unhide HB1⟩

theorem World.size_alloc' (w : World) (o : Obj) : (w.alloc o).heap.size = w.heap.size + 1 := by simp

set_option maxRecDepth 100000 in
set_option maxHeartbeats 4000000 in
theorem pexpr_fun {n : Nat} (hx : PxOK n) {w : World} {S : Nat → Prop} {nv bv : Value} {e1 : Th.Ex} {l : List Th.Tok} {A B : List UInt8} {R RB : ByteArray} (hRB : RB = ⟨B.toArray⟩) (hR : R = ⟨#[92]⟩ ++ ⟨A.toArray⟩ ++ ⟨#[46, 32]⟩ ++ RB) (hA : Th.spaced l = 32 :: A) (hB : B = Th.text n e1) (ht : Tab w)
    (d1 : Rep S w n bv e1) (hr : Row S w 88 2 nv l.length (namesCells l)) (hll : l.length ≤ 1000000) (f1 : Th.Wf n e1) (hl : R.size ≤ 1000000) :
    Calls Tryz.prog 64 #[.iface 226 (.agg #[nv, bv])] w fun r w' => r = .returned (.string R) ∧ Below w.heap.size w w' := by
  obtain ⟨t1, x1, rfl⟩ := rep_iface d1
  obtain ⟨na, nk, nc, rfl⟩ := row_slice hr
  have g1 := tt_Lambda_Use
  have g2 := tt_Lambda_Number
  have g3 := tt_Lambda_Maker
  have g4 := tt_Lambda_Call
  have g5 := tt_Lambda_Operation
  have g6 := tt_Lambda_Let
  have g7 := tt_Lambda_Case
  have g8 := tt_Lambda_Lambda
  obtain ⟨J1, hJ1⟩ : ∃ J : ByteArray, J = ⟨#[92]⟩ ++ ⟨A.toArray⟩ := ⟨_, rfl⟩
  obtain ⟨J2, hJ2⟩ : ∃ J, J = J1 ++ ⟨#[46, 32]⟩ := ⟨_, rfl⟩
  have hJ4 : R = J2 ++ RB := by rw [hR, hJ2, hJ1]
  have s4 : R.size = J2.size + RB.size := by rw [hJ4]; exact ByteArray.size_append
  have s2 : J2.size = J1.size + 2 := by rw [hJ2]; exact ByteArray.size_append
  have s1 : J1.size = 1 + A.length := by rw [hJ1]; simp [ByteArray.size]; omega
  have sb : RB.size = B.length := by rw [hRB]; simp [ByteArray.size]
  have hz : (Th.spaced l).length ≤ 1000000 := by rw [hA]; simp; omega
  have hBl : (Th.text n e1).length ≤ 1000000 := by rw [← hB]; omega
  have q1 := cat_run hJ1 (by omega)
  have q2 := cat_run hJ2 (by omega)
  have q4 := cat_run hJ4 (by omega)
  have C1 := hide (fun (W : World) (hW : Below w.heap.size w W) => pspaced_any (hr.gb (gb_below none hW) (by simp)) hll hz)
  have C2 := hide (fun (W : World) (hW : Below w.heap.size w W) => hx W S _ e1 (ht.below hW) (d1.gb (gb_below none hW) (by simp)) f1 hBl)
  obtain ⟨LS, hLS⟩ : ∃ J : ByteArray, J = ⟨(Th.spaced l).toArray⟩ := ⟨_, rfl⟩
  obtain ⟨TL, hTL⟩ : ∃ J : ByteArray, J = ⟨A.toArray⟩ := ⟨_, rfl⟩
  have CP : Hid (∀ W : World, Calls Tryz.prog 113 #[.string LS, .string ⟨#[32]⟩] W fun e w' => e = .returned (.string TL) ∧ w' = W) := hide (fun W => by
    have := Tryz.strings_TrimPrefix LS ⟨#[32]⟩ W
    have e : (⟨(Lib.trimPrefix LS.data.toList (ByteArray.mk #[32]).data.toList).toArray⟩ : ByteArray) = TL := by
      rw [hLS, hTL, hA]
      simp [Lib.trimPrefix, Lib.hasPrefix]
    rw [e] at this
    exact this)
  rw [← hLS] at C1
  rw [← hTL] at q1
  rw [← hB, ← hRB] at C2
  have HBa := hide (below_alloc w (.cells #[.slice na nk nc, .iface t1 x1] 226))
  have HA2 := hide (Blk.new w [.slice na nk nc, .iface t1 x1] 226)
  have CE : Hid (∀ W : World, Below (w.heap.size + 1) (w.alloc (.cells #[.slice na nk nc, .iface t1 x1] 226)) W → W.cell? ⟨w.heap.size, 0, none⟩ = some (.slice na nk nc) ∧ W.cell? ⟨w.heap.size, 1, none⟩ = some (.iface t1 x1)) := hide (fun W hW => ⟨by simpa using ((unhide HA2).below hW (by omega)).cell 0, by simpa using ((unhide HA2).below hW (by omega)).cell 1⟩)
  clear hLS hTL d1 f1 hx hA hB hR ht hr hz hBl hJ1 hJ2 hJ4 s1 s2 s4 sb hRB hl
  go_enter Tryz.func64, Tryz.ntmps64
  go_wp2_with fail
  go_region_held3 (fun W => W.cell? ⟨w.heap.size, 0, none⟩ = some (.slice na nk nc) ∧ W.cell? ⟨w.heap.size, 1, none⟩ = some (.iface t1 x1)) (go_keep) (first
    | (go_at_call 63; refine (unhide C1 _ ?_).mono ?_; exact (unhide HBa).drew; rintro en w1 ⟨rfl, b1⟩; have b1' : Below w.heap.size w w1 := (unhide HBa).drew.trans (b1.mono (unhide HBa).size); have HB1 := hide b1'; have q1' : Below (w.heap.size + 1) (w.alloc (.cells #[.slice na nk nc, .iface t1 x1] 226)) w1 := (Below.refl _ _).drew.trans (b1.mono (by simp)); have HQ1 := hide q1'; obtain ⟨j0, j1⟩ := unhide CE w1 q1'; have hs1 := b1'.size; have hq1 : w.heap.size + 1 ≤ w1.heap.size := (Nat.le_trans (Nat.le_of_eq (World.size_alloc' _ _).symm) b1.size); clear b1 b1' q1')
    | (go_at_call 113; refine (unhide CP _).mono ?_; rintro en w3 ⟨rfl, rfl⟩)
    | (go_at_call 64; refine (unhide C2 _ ?_).mono ?_; exact unhide HB1; rintro en w2 ⟨rfl, b2⟩; have b2' := (unhide HB1).trans (b2.mono hs1); have HB2 := hide b2'; have q2' := (unhide HQ1).trans (b2.mono hq1); obtain ⟨m0, m1⟩ := unhide CE w2 q2'; clear b2 b2' q2'))
  all_goals
    go_wp2_with fail
    go_ret
    exact ⟨rfl, unhide HB2⟩

end Go.Proofs.YtgahgkddaljmkaaGreatDoor
