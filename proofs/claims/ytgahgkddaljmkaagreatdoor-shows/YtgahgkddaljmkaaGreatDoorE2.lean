/- Package show: expr of leaves and of a call. -/
import Derived.Test.YtgahgkddaljmkaaGreatDoorD3
import Derived.Deep.RegionWith
namespace Go.Proofs.YtgahgkddaljmkaaGreatDoor
open Go.RowKit
attribute [local go_sem ↓] Go.wp_at_zero Go.wp_at_succ

theorem below_grown {w : World} (k : Nat) (os : Array Obj) : Below w.heap.size w (Go.Sort.grow (w.drewN k) os) := by
  refine ⟨rfl, rfl, rfl, ?_, fun j hj => ?_⟩
  · show w.heap.size ≤ (w.heap ++ os).size
    simp
  · show (w.heap ++ os)[j]? = w.heap[j]?
    rw [Array.getElem?_append_left hj]

set_option maxRecDepth 100000 in
set_option maxHeartbeats 4000000 in
theorem pexpr_use {w : World} {s : ByteArray} {p : Nat} :
    Calls Tryz.prog 64 #[.iface 215 (.agg #[.string s, .int .i64 p])] w fun r w' => r = .returned (.string s) ∧ Below w.heap.size w w' := by
  have g1 := tt_Use_Use
  go_enter Tryz.func64, Tryz.ntmps64
  go_wp2_with fail
  go_ret
  exact ⟨rfl, below_alloc _ _⟩

set_option maxRecDepth 100000 in
set_option maxHeartbeats 4000000 in
theorem pexpr_number {w : World} {k : Nat} (ht : Tab w) (hk : k ≤ 999999999) :
    Calls Tryz.prog 64 #[.iface 217 (.agg #[.int .i64 k])] w fun r w' => r = .returned (.string ⟨(Lib.itoa k).toArray⟩) ∧ Below w.heap.size w w' := by
  have g1 := tt_Number_Use
  have g2 := tt_Number_Number
  have HT := hide (ht.below (below_alloc w (.cells #[.int .i64 k] 217)))
  clear ht
  go_enter Tryz.func64, Tryz.ntmps64
  go_wp2_with (go_at_call 100; refine (Tryz.strconv_FormatInt_10 _ (by omega) (by omega) _ (unhide HT)).mono ?_; rintro en w1 ⟨rfl, k1, os, rfl⟩)
  go_ret
  exact ⟨rfl, (below_alloc _ _).trans ((below_grown _ _).mono (by simp))⟩

set_option maxRecDepth 100000 in
set_option maxHeartbeats 4000000 in
theorem pexpr_maker' {w : World} {t k : Nat} {R : ByteArray} (hR : R = ⟨#[123]⟩ ++ ⟨(Lib.decDigits t).toArray⟩ ++ ⟨#[44]⟩ ++ ⟨(Lib.decDigits k).toArray⟩ ++ ⟨#[125]⟩) (ht : t ≤ 99) (hk : k ≤ 9) (hl : (Lib.decDigits t).length + (Lib.decDigits k).length ≤ 1000000) :
    Calls Tryz.prog 64 #[.iface 219 (.agg #[.int .i64 t, .int .i64 k])] w fun r w' => r = .returned (.string R) ∧ Below w.heap.size w w' := by
  have g1 := tt_Maker_Use
  have g2 := tt_Maker_Number
  have g3 := tt_Maker_Maker
  have HR := hide hR
  clear hR
  go_enter Tryz.func64, Tryz.ntmps64
  go_wp2_with fail
  go_region_with (first
    | (go_at_call_of 101 (Value.int .i64 (t : Int)); refine (Tryz.strconv_Itoa_small t (by omega) _).mono ?_; rintro en w1 ⟨rfl, rfl⟩)
    | (go_at_call_of 101 (Value.int .i64 (k : Int)); refine (Tryz.strconv_Itoa_small k (by omega) _).mono ?_; rintro en w1 ⟨rfl, rfl⟩))
  all_goals
    go_wp2_with fail
    go_ret
    exact ⟨by rw [unhide HR]; rfl, (below_alloc _ _).drew⟩

theorem pexpr_maker {w : World} {t k : Nat} (ht : t ≤ 99) (hk : k ≤ 9) (hl : (Lib.decDigits t).length + (Lib.decDigits k).length ≤ 1000000) :
    Calls Tryz.prog 64 #[.iface 219 (.agg #[.int .i64 t, .int .i64 k])] w fun r w' => r = .returned (.string ⟨([123] ++ Lib.decDigits t ++ [44] ++ Lib.decDigits k ++ [125]).toArray⟩) ∧ Below w.heap.size w w' :=
  pexpr_maker' (by simp only [← bstr_app]) ht hk hl

theorem Th.within_len (e : Th.Ex) (k : Nat) (s : List UInt8) : s.length ≤ (Th.within e k s).length := by
  unfold Th.within
  split
  · simp [Th.paren]; omega
  · exact Nat.le_refl _

set_option maxRecDepth 100000 in
set_option maxHeartbeats 4000000 in
theorem pexpr_call {n : Nat} (hx : PxOK n) {w : World} {S : Nat → Prop} {v1 v2 : Value} {e1 e2 : Th.Ex} {A B : List UInt8} {R : ByteArray} (hR : R = ⟨A.toArray⟩ ++ ⟨#[32]⟩ ++ ⟨B.toArray⟩) (hA : A = Th.within e1 4 (Th.text n e1)) (hB : B = Th.within e2 5 (Th.text n e2)) (ht : Tab w)
    (d1 : Rep S w n v1 e1) (d2 : Rep S w n v2 e2) (f1 : Th.Wf n e1) (f2 : Th.Wf n e2) (hl : A.length + B.length ≤ 999999) :
    Calls Tryz.prog 64 #[.iface 163 (.agg #[v1, v2])] w fun r w' => r = .returned (.string R) ∧ Below w.heap.size w w' := by
  obtain ⟨t1, x1, rfl⟩ := rep_iface d1
  obtain ⟨t2, x2, rfl⟩ := rep_iface d2
  have g1 := tt_Call_Use
  have g2 := tt_Call_Number
  have g3 := tt_Call_Maker
  have g4 := tt_Call_Call
  have l1 := Th.within_len e1 4 (Th.text n e1)
  have l2 := Th.within_len e2 5 (Th.text n e2)
  rw [← hA] at l1
  rw [← hB] at l2
  have C1 := hide (fun (W : World) (hW : Below w.heap.size w W) => part_any hx (least := 4) (ht.below hW) (d1.gb (gb_below none hW) (by simp)) f1 (by rw [← hA]; omega))
  have C2 := hide (fun (W : World) (hW : Below w.heap.size w W) => part_any hx (least := 5) (ht.below hW) (d2.gb (gb_below none hW) (by simp)) f2 (by rw [← hB]; omega))
  rw [← hA] at C1
  rw [← hB] at C2
  have HR := hide hR
  have HBa := hide (below_alloc w (.cells #[.iface t1 x1, .iface t2 x2] 163))
  have HA := hide (Blk.new w [.iface t1 x1, .iface t2 x2] 163)
  have CE : Hid (∀ W : World, Below (w.heap.size + 1) (w.alloc (.cells #[.iface t1 x1, .iface t2 x2] 163)) W → W.cell? ⟨w.heap.size, 1, none⟩ = some (.iface t2 x2)) := hide (fun W hW => by simpa using ((unhide HA).below hW (by omega)).cell 1)
  clear d1 d2 f1 f2 hx l1 l2 hA hB hR ht
  go_enter Tryz.func64, Tryz.ntmps64
  go_wp2_with fail
  go_region_with (first
    | (go_at_call_of 109 (Value.iface t1 x1); refine (unhide C1 _ ?_).mono ?_; exact (unhide HBa).drew; rintro en w1 ⟨rfl, b1⟩; have b1' : Below w.heap.size w w1 := (unhide HBa).drew.trans (b1.mono (unhide HBa).size); have HB1 := hide b1'; have k1 := unhide CE w1 ((Below.refl _ _).drew.trans (b1.mono (by simp))); have hs1 := b1'.size; clear b1 b1')
    | (go_at_call_of 109 (Value.iface t2 x2); refine (unhide C2 _ ?_).mono ?_; exact unhide HB1; rintro en w2 ⟨rfl, b2⟩; have HB2 := hide ((unhide HB1).trans (b2.mono hs1)); clear b2))
  all_goals
    go_wp2_with fail
    go_ret
    exact ⟨by rw [unhide HR]; rfl, unhide HB2⟩

end Go.Proofs.YtgahgkddaljmkaaGreatDoor
