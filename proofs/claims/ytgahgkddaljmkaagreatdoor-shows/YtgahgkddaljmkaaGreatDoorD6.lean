/- The document's text of an operation. -/
import Derived.Test.YtgahgkddaljmkaaGreatDoorD5
import Derived.Deep.RegionHeld3
import Derived.Laws.Concat
namespace Go.Proofs.YtgahgkddaljmkaaGreatDoor
open Go.RowKit
attribute [local go_sem ↓] Go.wp_at_zero Go.wp_at_succ

/-- Two strings that are put together, in whatever world. -/
theorem cat_run {a b r : ByteArray} (hr : r = a ++ b) (h : r.size ≤ 1000000) : ∀ W : World, (Op.stringOp .add a b).run Tryz.prog W = .ok (.string r) W := by
  intro W
  have hs : r.size = a.size + b.size := by rw [hr]; exact ByteArray.size_append
  rw [hr]
  exact run_string_add_sum W a b (by omega)

set_option maxRecDepth 100000 in
set_option maxHeartbeats 4000000 in
theorem text_op1 {n : Nat} (hx : TxOK n) {w : World} {S : Nat → Prop} {a : Nat} {lv rv : Value} {e1 e2 : Th.Ex} {A B : List UInt8} {RA RB SG R : ByteArray} {L M : Nat} (hML : L = 1 ∧ M = 2) (hL3 : L ≤ 3) (hRA : RA = ⟨A.toArray⟩) (hRB : RB = ⟨B.toArray⟩) (hR : R = RA ++ ⟨#[32]⟩ ++ SG ++ ⟨#[32]⟩ ++ RB) (hA : A = Th.within e1 M (Th.text n e1)) (hB : B = Th.within e2 (L + 1) (Th.text n e2)) (ht : Tab w)
    (hT : Calls Tryz.prog 103 #[.pointer (some ⟨a, 0, none⟩)] w fun r w' => r = .returned (.int .i64 (L : Nat)) ∧ Below w.heap.size w w')
    (c0 : w.cell? ⟨a, 0, none⟩ = some (.int .i64 (6 : Nat))) (c2 : w.cell? ⟨a, 2, none⟩ = some (.string SG)) (c6 : w.cell? ⟨a, 6, none⟩ = some lv) (c7 : w.cell? ⟨a, 7, none⟩ = some rv)
    (d1 : DRep S w n lv e1) (d2 : DRep S w n rv e2) (f1 : Th.Wf n e1) (f2 : Th.Wf n e2) (hl : R.size ≤ 1000000) :
    Calls Tryz.prog 58 #[.pointer (some ⟨a, 0, none⟩)] w fun r w' => r = .returned (.string R) ∧ Below w.heap.size w w' := by
  obtain ⟨x1, rfl⟩ := drep_ptr d1
  obtain ⟨x2, rfl⟩ := drep_ptr d2
  have l1 := within_len e1 M (Th.text n e1)
  have l2 := within_len e2 (L + 1) (Th.text n e2)
  rw [← hA] at l1
  rw [← hB] at l2
  obtain ⟨J1, hJ1⟩ : ∃ J, J = RA ++ ⟨#[32]⟩ := ⟨_, rfl⟩
  obtain ⟨J2, hJ2⟩ : ∃ J, J = J1 ++ SG := ⟨_, rfl⟩
  obtain ⟨J3, hJ3⟩ : ∃ J, J = J2 ++ ⟨#[32]⟩ := ⟨_, rfl⟩
  have hJ4 : R = J3 ++ RB := by rw [hR, hJ3, hJ2, hJ1]
  have s4 : R.size = J3.size + RB.size := by rw [hJ4]; exact ByteArray.size_append
  have s3 : J3.size = J2.size + 1 := by rw [hJ3]; exact ByteArray.size_append
  have s2 : J2.size = J1.size + SG.size := by rw [hJ2]; exact ByteArray.size_append
  have s1 : J1.size = RA.size + 1 := by rw [hJ1]; exact ByteArray.size_append
  have sa : RA.size = A.length := by rw [hRA]; simp [ByteArray.size]
  have sb : RB.size = B.length := by rw [hRB]; simp [ByteArray.size]
  have q1 := cat_run hJ1 (by omega)
  have q2 := cat_run hJ2 (by omega)
  have q3 := cat_run hJ3 (by omega)
  have q4 := cat_run hJ4 (by omega)
  have C1 := hide (fun (W : World) (hW : Below w.heap.size w W) => within_any hx (least := M) (ht.below hW) (d1.gb (gb_below none hW) (by simp)) f1 (by omega) (by omega))
  have C2 := hide (fun (W : World) (hW : Below w.heap.size w W) => within_any hx (least := L + 1) (ht.below hW) (d2.gb (gb_below none hW) (by simp)) f2 (by omega) (by omega))
  rw [← hA, ← hRA] at C1
  rw [← hB, ← hRB] at C2
  have CE := hide (fun (W : World) (hW : Below w.heap.size w W) => And.intro (cell_gb (gb_below none hW) c2 (by simp)) (And.intro (cell_gb (gb_below none hW) c6 (by simp)) (cell_gb (gb_below none hW) c7 (by simp))))
  have CT := hide hT
  clear d1 d2 f1 f2 hx l1 l2 hA hB hR ht hT hJ1 hJ2 hJ3 hJ4 s1 s2 s3 s4 sa sb hRA hRB hl
  simp only [Int.natCast_add, Int.natCast_one] at C2
  obtain ⟨rfl, rfl⟩ := hML
  go_enter Tryz.func58, Tryz.ntmps58
  go_wp2_with fail
  refine (unhide CT).mono ?_
  rintro en w0 ⟨rfl, b0⟩
  have HB0 := hide b0
  obtain ⟨g2, g6, g7⟩ := unhide CE w0 b0
  have hs0 := b0.size
  clear b0 c0 c2 c6 c7
  go_wp2_with fail
  go_region_held3 (fun W => W.cell? ⟨a, 2, none⟩ = some (.string SG) ∧ W.cell? ⟨a, 6, none⟩ = some (.pointer (some ⟨x1, 0, none⟩)) ∧ W.cell? ⟨a, 7, none⟩ = some (.pointer (some ⟨x2, 0, none⟩))) (go_keep) (first
    | (go_at_call_of 102 (Value.pointer (some ⟨x1, 0, none⟩)); refine (unhide C1 _ ?_).mono ?_; exact (unhide HB0).drew; rintro en w1 ⟨rfl, b1⟩; have b1' : Below w.heap.size w w1 := (unhide HB0).drew.trans (b1.mono hs0); have HB1 := hide b1'; obtain ⟨k2, k6, k7⟩ := unhide CE w1 b1'; have hs1 := b1'.size; clear b1 b1')
    | (go_at_call_of 102 (Value.pointer (some ⟨x2, 0, none⟩)); refine (unhide C2 _ ?_).mono ?_; exact unhide HB1; rintro en w2 ⟨rfl, b2⟩; have b2' := (unhide HB1).trans (b2.mono hs1); have HB2 := hide b2'; obtain ⟨m2, m6, m7⟩ := unhide CE w2 b2'; clear b2 b2'))
  all_goals
    go_wp2_with fail
    go_ret
    exact ⟨rfl, unhide HB2⟩
set_option maxRecDepth 100000 in
set_option maxHeartbeats 4000000 in
theorem text_op2 {n : Nat} (hx : TxOK n) {w : World} {S : Nat → Prop} {a : Nat} {lv rv : Value} {e1 e2 : Th.Ex} {A B : List UInt8} {RA RB SG R : ByteArray} {L M : Nat} (hML : L = 2 ∧ M = 2) (hL3 : L ≤ 3) (hRA : RA = ⟨A.toArray⟩) (hRB : RB = ⟨B.toArray⟩) (hR : R = RA ++ ⟨#[32]⟩ ++ SG ++ ⟨#[32]⟩ ++ RB) (hA : A = Th.within e1 M (Th.text n e1)) (hB : B = Th.within e2 (L + 1) (Th.text n e2)) (ht : Tab w)
    (hT : Calls Tryz.prog 103 #[.pointer (some ⟨a, 0, none⟩)] w fun r w' => r = .returned (.int .i64 (L : Nat)) ∧ Below w.heap.size w w')
    (c0 : w.cell? ⟨a, 0, none⟩ = some (.int .i64 (6 : Nat))) (c2 : w.cell? ⟨a, 2, none⟩ = some (.string SG)) (c6 : w.cell? ⟨a, 6, none⟩ = some lv) (c7 : w.cell? ⟨a, 7, none⟩ = some rv)
    (d1 : DRep S w n lv e1) (d2 : DRep S w n rv e2) (f1 : Th.Wf n e1) (f2 : Th.Wf n e2) (hl : R.size ≤ 1000000) :
    Calls Tryz.prog 58 #[.pointer (some ⟨a, 0, none⟩)] w fun r w' => r = .returned (.string R) ∧ Below w.heap.size w w' := by
  obtain ⟨x1, rfl⟩ := drep_ptr d1
  obtain ⟨x2, rfl⟩ := drep_ptr d2
  have l1 := within_len e1 M (Th.text n e1)
  have l2 := within_len e2 (L + 1) (Th.text n e2)
  rw [← hA] at l1
  rw [← hB] at l2
  obtain ⟨J1, hJ1⟩ : ∃ J, J = RA ++ ⟨#[32]⟩ := ⟨_, rfl⟩
  obtain ⟨J2, hJ2⟩ : ∃ J, J = J1 ++ SG := ⟨_, rfl⟩
  obtain ⟨J3, hJ3⟩ : ∃ J, J = J2 ++ ⟨#[32]⟩ := ⟨_, rfl⟩
  have hJ4 : R = J3 ++ RB := by rw [hR, hJ3, hJ2, hJ1]
  have s4 : R.size = J3.size + RB.size := by rw [hJ4]; exact ByteArray.size_append
  have s3 : J3.size = J2.size + 1 := by rw [hJ3]; exact ByteArray.size_append
  have s2 : J2.size = J1.size + SG.size := by rw [hJ2]; exact ByteArray.size_append
  have s1 : J1.size = RA.size + 1 := by rw [hJ1]; exact ByteArray.size_append
  have sa : RA.size = A.length := by rw [hRA]; simp [ByteArray.size]
  have sb : RB.size = B.length := by rw [hRB]; simp [ByteArray.size]
  have q1 := cat_run hJ1 (by omega)
  have q2 := cat_run hJ2 (by omega)
  have q3 := cat_run hJ3 (by omega)
  have q4 := cat_run hJ4 (by omega)
  have C1 := hide (fun (W : World) (hW : Below w.heap.size w W) => within_any hx (least := M) (ht.below hW) (d1.gb (gb_below none hW) (by simp)) f1 (by omega) (by omega))
  have C2 := hide (fun (W : World) (hW : Below w.heap.size w W) => within_any hx (least := L + 1) (ht.below hW) (d2.gb (gb_below none hW) (by simp)) f2 (by omega) (by omega))
  rw [← hA, ← hRA] at C1
  rw [← hB, ← hRB] at C2
  have CE := hide (fun (W : World) (hW : Below w.heap.size w W) => And.intro (cell_gb (gb_below none hW) c2 (by simp)) (And.intro (cell_gb (gb_below none hW) c6 (by simp)) (cell_gb (gb_below none hW) c7 (by simp))))
  have CT := hide hT
  clear d1 d2 f1 f2 hx l1 l2 hA hB hR ht hT hJ1 hJ2 hJ3 hJ4 s1 s2 s3 s4 sa sb hRA hRB hl
  simp only [Int.natCast_add, Int.natCast_one] at C2
  obtain ⟨rfl, rfl⟩ := hML
  go_enter Tryz.func58, Tryz.ntmps58
  go_wp2_with fail
  refine (unhide CT).mono ?_
  rintro en w0 ⟨rfl, b0⟩
  have HB0 := hide b0
  obtain ⟨g2, g6, g7⟩ := unhide CE w0 b0
  have hs0 := b0.size
  clear b0 c0 c2 c6 c7
  go_wp2_with fail
  go_region_held3 (fun W => W.cell? ⟨a, 2, none⟩ = some (.string SG) ∧ W.cell? ⟨a, 6, none⟩ = some (.pointer (some ⟨x1, 0, none⟩)) ∧ W.cell? ⟨a, 7, none⟩ = some (.pointer (some ⟨x2, 0, none⟩))) (go_keep) (first
    | (go_at_call_of 102 (Value.pointer (some ⟨x1, 0, none⟩)); refine (unhide C1 _ ?_).mono ?_; exact (unhide HB0).drew; rintro en w1 ⟨rfl, b1⟩; have b1' : Below w.heap.size w w1 := (unhide HB0).drew.trans (b1.mono hs0); have HB1 := hide b1'; obtain ⟨k2, k6, k7⟩ := unhide CE w1 b1'; have hs1 := b1'.size; clear b1 b1')
    | (go_at_call_of 102 (Value.pointer (some ⟨x2, 0, none⟩)); refine (unhide C2 _ ?_).mono ?_; exact unhide HB1; rintro en w2 ⟨rfl, b2⟩; have b2' := (unhide HB1).trans (b2.mono hs1); have HB2 := hide b2'; obtain ⟨m2, m6, m7⟩ := unhide CE w2 b2'; clear b2 b2'))
  all_goals
    go_wp2_with fail
    go_ret
    exact ⟨rfl, unhide HB2⟩
set_option maxRecDepth 100000 in
set_option maxHeartbeats 4000000 in
theorem text_op3 {n : Nat} (hx : TxOK n) {w : World} {S : Nat → Prop} {a : Nat} {lv rv : Value} {e1 e2 : Th.Ex} {A B : List UInt8} {RA RB SG R : ByteArray} {L M : Nat} (hML : L = 3 ∧ M = 3) (hL3 : L ≤ 3) (hRA : RA = ⟨A.toArray⟩) (hRB : RB = ⟨B.toArray⟩) (hR : R = RA ++ ⟨#[32]⟩ ++ SG ++ ⟨#[32]⟩ ++ RB) (hA : A = Th.within e1 M (Th.text n e1)) (hB : B = Th.within e2 (L + 1) (Th.text n e2)) (ht : Tab w)
    (hT : Calls Tryz.prog 103 #[.pointer (some ⟨a, 0, none⟩)] w fun r w' => r = .returned (.int .i64 (L : Nat)) ∧ Below w.heap.size w w')
    (c0 : w.cell? ⟨a, 0, none⟩ = some (.int .i64 (6 : Nat))) (c2 : w.cell? ⟨a, 2, none⟩ = some (.string SG)) (c6 : w.cell? ⟨a, 6, none⟩ = some lv) (c7 : w.cell? ⟨a, 7, none⟩ = some rv)
    (d1 : DRep S w n lv e1) (d2 : DRep S w n rv e2) (f1 : Th.Wf n e1) (f2 : Th.Wf n e2) (hl : R.size ≤ 1000000) :
    Calls Tryz.prog 58 #[.pointer (some ⟨a, 0, none⟩)] w fun r w' => r = .returned (.string R) ∧ Below w.heap.size w w' := by
  obtain ⟨x1, rfl⟩ := drep_ptr d1
  obtain ⟨x2, rfl⟩ := drep_ptr d2
  have l1 := within_len e1 M (Th.text n e1)
  have l2 := within_len e2 (L + 1) (Th.text n e2)
  rw [← hA] at l1
  rw [← hB] at l2
  obtain ⟨J1, hJ1⟩ : ∃ J, J = RA ++ ⟨#[32]⟩ := ⟨_, rfl⟩
  obtain ⟨J2, hJ2⟩ : ∃ J, J = J1 ++ SG := ⟨_, rfl⟩
  obtain ⟨J3, hJ3⟩ : ∃ J, J = J2 ++ ⟨#[32]⟩ := ⟨_, rfl⟩
  have hJ4 : R = J3 ++ RB := by rw [hR, hJ3, hJ2, hJ1]
  have s4 : R.size = J3.size + RB.size := by rw [hJ4]; exact ByteArray.size_append
  have s3 : J3.size = J2.size + 1 := by rw [hJ3]; exact ByteArray.size_append
  have s2 : J2.size = J1.size + SG.size := by rw [hJ2]; exact ByteArray.size_append
  have s1 : J1.size = RA.size + 1 := by rw [hJ1]; exact ByteArray.size_append
  have sa : RA.size = A.length := by rw [hRA]; simp [ByteArray.size]
  have sb : RB.size = B.length := by rw [hRB]; simp [ByteArray.size]
  have q1 := cat_run hJ1 (by omega)
  have q2 := cat_run hJ2 (by omega)
  have q3 := cat_run hJ3 (by omega)
  have q4 := cat_run hJ4 (by omega)
  have C1 := hide (fun (W : World) (hW : Below w.heap.size w W) => within_any hx (least := M) (ht.below hW) (d1.gb (gb_below none hW) (by simp)) f1 (by omega) (by omega))
  have C2 := hide (fun (W : World) (hW : Below w.heap.size w W) => within_any hx (least := L + 1) (ht.below hW) (d2.gb (gb_below none hW) (by simp)) f2 (by omega) (by omega))
  rw [← hA, ← hRA] at C1
  rw [← hB, ← hRB] at C2
  have CE := hide (fun (W : World) (hW : Below w.heap.size w W) => And.intro (cell_gb (gb_below none hW) c2 (by simp)) (And.intro (cell_gb (gb_below none hW) c6 (by simp)) (cell_gb (gb_below none hW) c7 (by simp))))
  have CT := hide hT
  clear d1 d2 f1 f2 hx l1 l2 hA hB hR ht hT hJ1 hJ2 hJ3 hJ4 s1 s2 s3 s4 sa sb hRA hRB hl
  simp only [Int.natCast_add, Int.natCast_one] at C2
  obtain ⟨rfl, rfl⟩ := hML
  go_enter Tryz.func58, Tryz.ntmps58
  go_wp2_with fail
  refine (unhide CT).mono ?_
  rintro en w0 ⟨rfl, b0⟩
  have HB0 := hide b0
  obtain ⟨g2, g6, g7⟩ := unhide CE w0 b0
  have hs0 := b0.size
  clear b0 c0 c2 c6 c7
  go_wp2_with fail
  go_region_held3 (fun W => W.cell? ⟨a, 2, none⟩ = some (.string SG) ∧ W.cell? ⟨a, 6, none⟩ = some (.pointer (some ⟨x1, 0, none⟩)) ∧ W.cell? ⟨a, 7, none⟩ = some (.pointer (some ⟨x2, 0, none⟩))) (go_keep) (first
    | (go_at_call_of 102 (Value.pointer (some ⟨x1, 0, none⟩)); refine (unhide C1 _ ?_).mono ?_; exact (unhide HB0).drew; rintro en w1 ⟨rfl, b1⟩; have b1' : Below w.heap.size w w1 := (unhide HB0).drew.trans (b1.mono hs0); have HB1 := hide b1'; obtain ⟨k2, k6, k7⟩ := unhide CE w1 b1'; have hs1 := b1'.size; clear b1 b1')
    | (go_at_call_of 102 (Value.pointer (some ⟨x2, 0, none⟩)); refine (unhide C2 _ ?_).mono ?_; exact unhide HB1; rintro en w2 ⟨rfl, b2⟩; have b2' := (unhide HB1).trans (b2.mono hs1); have HB2 := hide b2'; obtain ⟨m2, m6, m7⟩ := unhide CE w2 b2'; clear b2 b2'))
  all_goals
    go_wp2_with fail
    go_ret
    exact ⟨rfl, unhide HB2⟩

end Go.Proofs.YtgahgkddaljmkaaGreatDoor
