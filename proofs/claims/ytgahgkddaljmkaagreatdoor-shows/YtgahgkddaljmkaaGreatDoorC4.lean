/- The document's names: what is wrong in a function without a name. -/
import Derived.Test.YtgahgkddaljmkaaGreatDoorC3
namespace Go.Proofs.YtgahgkddaljmkaaGreatDoor
open Go.RowKit
attribute [local go_sem ↓] Go.wp_at_zero Go.wp_at_succ

theorem drep_ptr {S : Nat → Prop} {w : World} {m : Nat} {v : Value} {e : Th.Ex} (h : DRep S w m v e) : ∃ x, v = .pointer (some ⟨x, 0, none⟩) := by
  cases m with
  | zero => exact h.elim
  | succ m => obtain ⟨x, _, _, _, _, _, hv, _⟩ := h; exact ⟨x, hv⟩

theorem hdI_min {l : List Th.Tok} {lo hi : Nat} (h : Th.Rise lo hi l) : Th.IsMin (Th.hdI (Th.dups [] l)) (Th.dups [] l) := Th.IsMin.of_head (Th.dups_rise h)

set_option maxRecDepth 100000 in
set_option maxHeartbeats 4000000 in
theorem wrong_fun {n : Nat} (hx : WrOK n) {w : World} {S A : Nat → Prop} {a : Nat} {kv lv nv : Value} {around : List (List UInt8)} {l : List Th.Tok} {b : Th.Ex} {m lo mid hi : Nat} {vs : List Value} (hb : Blk w a vs 195) (hk : vs[0]? = some (.int .i64 4)) (h6 : vs[6]? = some lv) (h8 : vs[8]? = some nv)
    (d1 : DRep S w m lv b) (hn : Row S w 108 4 nv l.length (dnsCells l)) (hr : Row A w 9 1 kv around.length (strCells around)) (i1 : Th.Rise lo mid l) (i2 : Th.In n b mid hi) (hl : around.length + (hi - lo) ≤ 1000000) :
    Calls Tryz.prog 175 #[.pointer (some ⟨a, 0, none⟩), kv] w fun en w' => WrPost w (Th.dups [] l ++ Th.wrongs n b (around ++ Th.texts l)) en w' := by
  have c0 := (hb.cell 0).trans hk
  have c6 := (hb.cell 6).trans h6
  have c8 := (hb.cell 8).trans h8
  have ha := hb.lt
  have hle1 := Th.Rise.len i1
  have hle2 := i2.le
  obtain ⟨x1, rfl⟩ := drep_ptr d1
  obtain ⟨ka, kn, kc, rfl⟩ := row_slice hr
  obtain ⟨na, nn, nc, rfl⟩ := row_slice hn
  have HM := hide (hdI_min i1)
  have CT := hide (fun (W : World) (hW : Below w.heap.size w W) => twice_any (hn.gb (gb_below none hW) (by simp)) (by omega))
  have CW := hide (fun (W : World) (hW : Below w.heap.size w W) => with_any W A S _ _ around l (hr.gb (gb_below none hW) (by simp)) (hn.gb (gb_below none hW) (by simp)) (by omega) (by omega))
  have C1 := hide (fun (W : World) (kv' : Value) (B : Nat) (hW : Below w.heap.size w W) (ho : W.ownsRow B 9 1 kv' (around ++ Th.texts l).length (strCells (around ++ Th.texts l))) => hx W S _ _ _ kv' (around ++ Th.texts l) _ _ _ (d1.gb (gb_below none hW) (by simp)) (Row.of_own ho) i2 (by simp [Th.texts]; omega))
  have CE := hide (fun (W : World) (hW : Below w.heap.size w W) => And.intro (cell_gb (gb_below none hW) c0 (by simp)) (And.intro (cell_gb (gb_below none hW) c6 (by simp)) (cell_gb (gb_below none hW) c8 (by simp))))
  clear d1 hn hr i1 i2 hb hk h6 h8 hx
  go_enter Tryz.func175, Tryz.ntmps175
  go_wp2_with fail
  go_region_with (first
    | (go_at_call 173; refine (unhide CT _ ?_).mono ?_; exact (Below.refl _ _).drew; rintro en w1 ⟨rfl, b1⟩; have b1' : Below w.heap.size w w1 := (Below.refl _ _).drew.trans (b1.mono (Nat.le_refl _)); have HB1 := hide b1'; have e6 := (unhide CE w1 b1').2.1; have e8 := (unhide CE w1 b1').2.2; have hs1 := b1'.size; clear b1 b1')
    | (go_at_call 172; refine (unhide CW _ ?_).mono ?_; exact unhide HB1; rintro en w2 ⟨v2, rfl, o2, b2⟩; obtain ⟨wa, wn, wc, rfl⟩ := own_slice o2; have HO2 := hide o2; have b2' : Below w.heap.size w w2 := (unhide HB1).trans (b2.mono hs1); have HB2 := hide b2'; have e6' := (unhide CE w2 b2').2.1; have hs2 := b2'.size; clear b2 b2' o2)
    | (go_at_call 175; refine (unhide C1 _ _ _ ?_ (unhide HO2)).mono ?_; exact unhide HB2; rintro en w3 ⟨r3, rfl, m3, b3⟩; have M3 := hide m3; have HB3 := hide ((unhide HB2).trans (b3.mono hs2)); clear m3 b3)
    | (go_at_call 174; refine (least_any _ _ _).mono ?_; rintro en w4 ⟨rfl, rfl⟩))
  all_goals
    go_wp2_with fail
    go_ret
    exact ⟨_, rfl, Th.IsMin.least (unhide HM) (unhide M3), unhide HB3⟩

end Go.Proofs.YtgahgkddaljmkaaGreatDoor
