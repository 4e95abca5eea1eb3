/- The document's text of a number, a name, a maker. The document's text of a call. -/
import Derived.Test.YtgahgkddaljmkaaGreatDoorD4
namespace Go.Proofs.YtgahgkddaljmkaaGreatDoor
open Go.RowKit
attribute [local go_sem ↓] Go.wp_at_zero Go.wp_at_succ

theorem below_grow {w : World} (k : Nat) (os : Array Obj) : Below w.heap.size w (Go.Sort.grow (w.drewN k) os) := by
  refine ⟨rfl, rfl, rfl, ?_, fun j hj => ?_⟩
  · show w.heap.size ≤ (w.heap ++ os).size
    simp
  · show (w.heap ++ os)[j]? = w.heap[j]?
    rw [Array.getElem?_append_left hj]

set_option maxRecDepth 100000 in
set_option maxHeartbeats 4000000 in
theorem text_number {w : World} {a k : Nat} (ht : Tab w) (hk : k ≤ 999999999) (c0 : w.cell? ⟨a, 0, none⟩ = some (.int .i64 (1 : Nat))) (c3 : w.cell? ⟨a, 3, none⟩ = some (.int .i64 k)) :
    Calls Tryz.prog 58 #[.pointer (some ⟨a, 0, none⟩)] w fun r w' => r = .returned (.string ⟨(Lib.itoa k).toArray⟩) ∧ Below w.heap.size w w' := by
  have HT := hide ht
  clear ht
  go_enter Tryz.func58, Tryz.ntmps58
  go_wp2_with (go_at_call 100; refine (Tryz.strconv_FormatInt_10 _ (by omega) (by omega) _ (unhide HT)).mono ?_; rintro en w1 ⟨rfl, k1, os, rfl⟩)
  go_ret
  exact ⟨rfl, below_grow _ _⟩

set_option maxRecDepth 100000 in
set_option maxHeartbeats 4000000 in
theorem text_name {w : World} {a : Nat} {s : List UInt8} (c0 : w.cell? ⟨a, 0, none⟩ = some (.int .i64 (2 : Nat))) (c2 : w.cell? ⟨a, 2, none⟩ = some (.string ⟨s.toArray⟩)) :
    Calls Tryz.prog 58 #[.pointer (some ⟨a, 0, none⟩)] w fun r w' => r = .returned (.string ⟨s.toArray⟩) ∧ Below w.heap.size w w' := by
  go_enter Tryz.func58, Tryz.ntmps58
  go_wp2_with fail
  go_ret
  exact ⟨rfl, Below.refl _ _⟩

set_option maxRecDepth 100000 in
set_option maxHeartbeats 4000000 in
theorem text_maker' {w : World} {a t k : Nat} {R : ByteArray} (hR : R = ⟨#[123]⟩ ++ ⟨(Lib.decDigits t).toArray⟩ ++ ⟨#[44]⟩ ++ ⟨(Lib.decDigits k).toArray⟩ ++ ⟨#[125]⟩) (ht : t ≤ 99) (hk : k ≤ 9) (hl : (Lib.decDigits t).length + (Lib.decDigits k).length ≤ 1000000) (c0 : w.cell? ⟨a, 0, none⟩ = some (.int .i64 (3 : Nat))) (c4 : w.cell? ⟨a, 4, none⟩ = some (.int .i64 t)) (c5 : w.cell? ⟨a, 5, none⟩ = some (.int .i64 k)) :
    Calls Tryz.prog 58 #[.pointer (some ⟨a, 0, none⟩)] w fun r w' => r = .returned (.string R) ∧ Below w.heap.size w w' := by
  have HR := hide hR
  clear hR
  go_enter Tryz.func58, Tryz.ntmps58
  go_wp2_with fail
  go_region_with (first
    | (go_at_call_of 101 (Value.int .i64 (t : Int)); refine (Tryz.strconv_Itoa_small t (by omega) _).mono ?_; rintro en w1 ⟨rfl, rfl⟩)
    | (go_at_call_of 101 (Value.int .i64 (k : Int)); refine (Tryz.strconv_Itoa_small k (by omega) _).mono ?_; rintro en w1 ⟨rfl, rfl⟩))
  all_goals
    go_wp2_with fail
    go_ret
    exact ⟨by rw [unhide HR]; rfl, (Below.refl _ _).drew⟩

theorem text_maker {w : World} {a t k : Nat} (ht : t ≤ 99) (hk : k ≤ 9) (hl : (Lib.decDigits t).length + (Lib.decDigits k).length ≤ 1000000) (c0 : w.cell? ⟨a, 0, none⟩ = some (.int .i64 (3 : Nat))) (c4 : w.cell? ⟨a, 4, none⟩ = some (.int .i64 t)) (c5 : w.cell? ⟨a, 5, none⟩ = some (.int .i64 k)) :
    Calls Tryz.prog 58 #[.pointer (some ⟨a, 0, none⟩)] w fun r w' => r = .returned (.string ⟨([123] ++ Lib.decDigits t ++ [44] ++ Lib.decDigits k ++ [125]).toArray⟩) ∧ Below w.heap.size w w' :=
  text_maker' (by simp only [← str_app]) ht hk hl c0 c4 c5

end Go.Proofs.YtgahgkddaljmkaaGreatDoor

namespace Go.Proofs.YtgahgkddaljmkaaGreatDoor
open Go.RowKit
attribute [local go_sem ↓] Go.wp_at_zero Go.wp_at_succ

theorem within_len (e : Th.Ex) (k : Nat) (s : List UInt8) : s.length ≤ (Th.within e k s).length := by
  unfold Th.within
  split
  · simp [Th.paren]; omega
  · exact Nat.le_refl _

set_option maxRecDepth 100000 in
set_option maxHeartbeats 4000000 in
theorem text_call {n : Nat} (hx : TxOK n) {w : World} {S : Nat → Prop} {a : Nat} {lv rv : Value} {e1 e2 : Th.Ex} {A B : List UInt8} {R : ByteArray} (hR : R = ⟨A.toArray⟩ ++ ⟨#[32]⟩ ++ ⟨B.toArray⟩) (hA : A = Th.within e1 4 (Th.text n e1)) (hB : B = Th.within e2 5 (Th.text n e2)) (ht : Tab w) (c0 : w.cell? ⟨a, 0, none⟩ = some (.int .i64 (5 : Nat))) (c6 : w.cell? ⟨a, 6, none⟩ = some lv) (c7 : w.cell? ⟨a, 7, none⟩ = some rv)
    (d1 : DRep S w n lv e1) (d2 : DRep S w n rv e2) (f1 : Th.Wf n e1) (f2 : Th.Wf n e2) (hl : A.length + B.length ≤ 999999) :
    Calls Tryz.prog 58 #[.pointer (some ⟨a, 0, none⟩)] w fun r w' => r = .returned (.string R) ∧ Below w.heap.size w w' := by
  obtain ⟨x1, rfl⟩ := drep_ptr d1
  obtain ⟨x2, rfl⟩ := drep_ptr d2
  have l1 := within_len e1 4 (Th.text n e1)
  have l2 := within_len e2 5 (Th.text n e2)
  rw [← hA] at l1
  rw [← hB] at l2
  have C1 := hide (fun (W : World) (hW : Below w.heap.size w W) => within_any hx (least := 4) (ht.below hW) (d1.gb (gb_below none hW) (by simp)) f1 (by omega) (by omega))
  have C2 := hide (fun (W : World) (hW : Below w.heap.size w W) => within_any hx (least := 5) (ht.below hW) (d2.gb (gb_below none hW) (by simp)) f2 (by omega) (by omega))
  rw [← hA] at C1
  rw [← hB] at C2
  have CE := hide (fun (W : World) (hW : Below w.heap.size w W) => And.intro (cell_gb (gb_below none hW) c0 (by simp)) (And.intro (cell_gb (gb_below none hW) c6 (by simp)) (cell_gb (gb_below none hW) c7 (by simp))))
  have HR := hide hR
  clear d1 d2 f1 f2 hx l1 l2 hA hB hR ht
  go_enter Tryz.func58, Tryz.ntmps58
  go_wp2_with fail
  go_region_with (first
    | (go_at_call_of 102 (Value.pointer (some ⟨x1, 0, none⟩)); refine (unhide C1 _ ?_).mono ?_; exact (Below.refl _ _).drew; rintro en w1 ⟨rfl, b1⟩; have b1' : Below w.heap.size w w1 := (Below.refl _ _).drew.trans (b1.mono (Nat.le_refl _)); have HB1 := hide b1'; have e6 := (unhide CE w1 b1').2.1; have e7 := (unhide CE w1 b1').2.2; have hs1 := b1'.size; clear b1 b1')
    | (go_at_call_of 102 (Value.pointer (some ⟨x2, 0, none⟩)); refine (unhide C2 _ ?_).mono ?_; exact unhide HB1; rintro en w2 ⟨rfl, b2⟩; have HB2 := hide ((unhide HB1).trans (b2.mono hs1)); clear b2))
  all_goals
    go_wp2_with fail
    go_ret
    exact ⟨by rw [unhide HR]; rfl, unhide HB2⟩

end Go.Proofs.YtgahgkddaljmkaaGreatDoor
