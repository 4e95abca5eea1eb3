/- The document's names: what is wrong in a leaf, a name, a call or an operation. -/
import Derived.Test.YtgahgkddaljmkaaGreatDoorC2
namespace Go.Proofs.YtgahgkddaljmkaaGreatDoor
open Go.RowKit
attribute [local go_sem ↓] Go.wp_at_zero Go.wp_at_succ

/-- The document's function wrong gives the least of the wrong places. -/
def WrPost (w : World) (l : List Nat) (en : Ending) (w' : World) : Prop := ∃ x : Int, en = .returned (.int .i64 x) ∧ Th.IsMin x l ∧ Below w.heap.size w w'

def WrOK (n : Nat) : Prop := ∀ (w : World) (S A : Nat → Prop) (v : Value) (e : Th.Ex) (kv : Value) (around : List (List UInt8)) (m lo hi : Nat), DRep S w m v e → Row A w 9 1 kv around.length (strCells around) → Th.In n e lo hi → around.length + (hi - lo) ≤ 1000000 →
    Calls Tryz.prog 175 #[v, kv] w fun en w' => WrPost w (Th.wrongs n e around) en w'

set_option maxRecDepth 100000 in
set_option maxHeartbeats 4000000 in
theorem wrong_leaf {w : World} {a : Nat} {kv : Value} {vs : List Value} {kd : Nat} (hb : Blk w a vs 195) (hk : vs[0]? = some (.int .i64 kd)) (hkd : kd = 1 ∨ kd = 3) :
    Calls Tryz.prog 175 #[.pointer (some ⟨a, 0, none⟩), kv] w fun en w' => WrPost w [] en w' := by
  have c0 := (hb.cell 0).trans hk
  clear hb hk
  rcases hkd with rfl | rfl
  all_goals
    go_enter Tryz.func175, Tryz.ntmps175
    go_wp2_with fail
    go_ret
    exact ⟨-1, rfl, .inl ⟨rfl, rfl⟩, Below.refl _ _⟩

theorem strCells_get {l : List (List UInt8)} {i : Nat} {x : List UInt8} (h : l[i]? = some x) : (strCells l)[i]? = some (.string ⟨x.toArray⟩) := by
  simp [strCells, h]

set_option maxRecDepth 100000 in
set_option maxHeartbeats 4000000 in
theorem wrong_name {w : World} {A : Nat → Prop} {a : Nat} {kv : Value} {around : List (List UInt8)} {p : Nat} {s : List UInt8} (h0 : w.cell? ⟨a, 0, none⟩ = some (.int .i64 2)) (h1 : w.cell? ⟨a, 1, none⟩ = some (.int .i64 p)) (h2 : w.cell? ⟨a, 2, none⟩ = some (.string ⟨s.toArray⟩))
    (hr : Row A w 9 1 kv around.length (strCells around)) (hl : around.length ≤ 1000000) :
    Calls Tryz.prog 175 #[.pointer (some ⟨a, 0, none⟩), kv] w fun en w' => WrPost w (if around.contains s then [] else [p]) en w' := by
  have HR := hide hr
  have ha := cell_lt h0
  rcases row_shape hr with hv | ⟨g, cap, hv⟩
  · have hl0 : around = [] := by
      rcases hr.1.2 with ⟨_, h0⟩ | ⟨_, _, _, h0, _⟩
      · exact List.length_eq_zero_iff.1 h0
      · rw [hv] at h0; cases h0
    subst hv hl0
    clear hr HR
    rw [show (([] : List (List UInt8)).contains s) = false from rfl]
    go_enter Tryz.func175, Tryz.ntmps175
    go_wp2_with fail
    refine wp_loop_rounds 1 ?_
    rw [rounds_succ]
    go_wp2_with fail
    go_ret
    exact ⟨p, rfl, .inr ⟨p, by simp, rfl, by simp⟩, Below.refl _ _⟩
  · subst hv
    clear hr
    obtain ⟨res, hres⟩ : ∃ res, (if around.contains s then [] else [p]) = res := ⟨_, rfl⟩
    rw [hres]
    have HRES := hide hres
    have H012 := hide (And.intro h0 (And.intro h1 h2))
    clear hres
    go_enter Tryz.func175, Tryz.ntmps175
    go_wp2_with fail
    clear h0 h1 h2
    go_loopg [6] around.length (fun gk iv wr => ∃ i : Nat, iv = .int .i64 i ∧ i ≤ around.length ∧ around.length - i ≤ gk ∧ (∀ j x, j < i → around[j]? = some x → (x == s) = false) ∧ Below w.heap.size w wr)
    case atStart => exact ⟨0, rfl, Nat.zero_le _, by omega, fun j x hj => absurd hj (Nat.not_lt_zero _), Below.refl _ _⟩
    case round =>
      obtain ⟨i, rfl, hi, hgk, hno, hb⟩ := hrel
      have HNO := hide hno
      have Hb := hide hb
      have h0 := cell_gb (gb_below none hb) (unhide H012).1 (by simp)
      have h1 := cell_gb (gb_below none hb) (unhide H012).2.1 (by simp)
      have h2 := cell_gb (gb_below none hb) (unhide H012).2.2 (by simp)
      clear hno
      by_cases hlt : i < around.length
      · obtain ⟨x, hx⟩ : ∃ x, around[i]? = some x := ⟨around[i], List.getElem?_eq_getElem hlt⟩
        have hrow := (unhide HR).1.kept (gb_below none hb) (own_none _)
        have k0 := (hrow.cellAt i (by omega)).trans (strCells_get hx)
        have Hx := hide hx
        clear hrow hb hx
        cases hxe : (x == s)
        · have HXE := hide hxe
          go_wp2_with fail
          go_quiet (fail)
          go_wp2_with fail
          go_roundg (around.length - (i + 1))
          case measure => omega
          case rel =>
            refine ⟨i + 1, by go_num, by omega, Nat.le_refl _, fun j y hj hy => ?_, below_drewN (unhide Hb) _⟩
            by_cases hji : j = i
            · subst hji
              rw [unhide Hx] at hy
              cases hy
              exact unhide HXE
            · exact unhide HNO j y (by omega) hy
        · have hc : around.contains s = true := by
            rw [List.contains_iff_mem, ← eq_of_beq hxe]
            exact List.mem_of_getElem? (unhide Hx)
          have HC := hide hc
          clear hc
          go_wp2_with fail
          go_quiet (fail)
          go_wp2_with fail
          go_ret
          refine ⟨-1, rfl, ?_, below_drewN (unhide Hb) _⟩
          rw [← unhide HRES, unhide HC]
          exact .inl ⟨rfl, rfl⟩
      · have hc : around.contains s = false := by
          rw [← Bool.not_eq_true, List.contains_iff_mem]
          intro hm
          obtain ⟨j, hj, e⟩ := List.getElem_of_mem hm
          have := unhide HNO j s (by omega) (by rw [List.getElem?_eq_getElem hj, e])
          simp at this
        have HC := hide hc
        clear hc hb
        go_wp2_with fail
        go_ret
        refine ⟨p, rfl, ?_, unhide Hb⟩
        rw [← unhide HRES, unhide HC]
        exact .inr ⟨p, by simp, rfl, by simp⟩

set_option maxRecDepth 100000 in
set_option maxHeartbeats 4000000 in
theorem wrong_two {n : Nat} (hx : WrOK n) {w : World} {S A : Nat → Prop} {a : Nat} {kv lv rv : Value} {around : List (List UInt8)} {e1 e2 : Th.Ex} {m lo mid hi : Nat} {vs : List Value} {kd : Nat} (hb : Blk w a vs 195) (hk : vs[0]? = some (.int .i64 kd)) (hkd : kd = 5 ∨ kd = 6) (h6 : vs[6]? = some lv) (h7 : vs[7]? = some rv)
    (d1 : DRep S w m lv e1) (d2 : DRep S w m rv e2) (hr : Row A w 9 1 kv around.length (strCells around)) (i1 : Th.In n e1 lo mid) (i2 : Th.In n e2 mid hi) (hl : around.length + (hi - lo) ≤ 1000000) :
    Calls Tryz.prog 175 #[.pointer (some ⟨a, 0, none⟩), kv] w fun en w' => WrPost w (Th.wrongs n e1 around ++ Th.wrongs n e2 around) en w' := by
  have c0 := (hb.cell 0).trans hk
  have c6 := (hb.cell 6).trans h6
  have c7 := (hb.cell 7).trans h7
  have ha := hb.lt
  have hle1 := i1.le
  have hle2 := i2.le
  obtain ⟨x1, hx1⟩ : ∃ x, lv = .pointer (some ⟨x, 0, none⟩) := by cases m with
    | zero => exact d1.elim
    | succ m => obtain ⟨x, _, _, _, _, _, hv, _⟩ := d1; exact ⟨x, hv⟩
  obtain ⟨x2, hx2⟩ : ∃ x, rv = .pointer (some ⟨x, 0, none⟩) := by cases m with
    | zero => exact d2.elim
    | succ m => obtain ⟨x, _, _, _, _, _, hv, _⟩ := d2; exact ⟨x, hv⟩
  subst hx1 hx2
  obtain ⟨ka, kn, kc, rfl⟩ := row_slice hr
  have C1 := hide (fun (W : World) (hW : Below w.heap.size w W) => hx W S A _ _ _ _ _ _ _ (d1.gb (gb_below none hW) (by simp)) (hr.gb (gb_below none hW) (by simp)) i1 (by omega))
  have C2 := hide (fun (W : World) (hW : Below w.heap.size w W) => hx W S A _ _ _ _ _ _ _ (d2.gb (gb_below none hW) (by simp)) (hr.gb (gb_below none hW) (by simp)) i2 (by omega))
  have CE := hide (fun (W : World) (hW : Below w.heap.size w W) => And.intro (cell_gb (gb_below none hW) c0 (by simp)) (And.intro (cell_gb (gb_below none hW) c6 (by simp)) (cell_gb (gb_below none hW) c7 (by simp))))
  clear d1 d2 hr i1 i2 hb hk h6 h7 hx
  rcases hkd with rfl | rfl
  all_goals
    go_enter Tryz.func175, Tryz.ntmps175
    go_wp2_with fail
    go_region_with (first
      | (go_at_call_of 175 (Value.pointer (some ⟨x1, 0, none⟩)); refine (unhide C1 _ ?_).mono ?_; exact (Below.refl _ _).drew; rintro en w1 ⟨r1, rfl, m1, b1⟩; have M1 := hide m1; have b1' : Below w.heap.size w w1 := (Below.refl _ _).drew.trans (b1.mono (Nat.le_refl _)); have HB1 := hide b1'; have e6 := (unhide CE w1 b1').2.1; have e7 := (unhide CE w1 b1').2.2; have hs1 := b1'.size; clear m1 b1 b1')
      | (go_at_call_of 175 (Value.pointer (some ⟨x2, 0, none⟩)); refine (unhide C2 _ ?_).mono ?_; exact unhide HB1; rintro en w2 ⟨r2, rfl, m2, b2⟩; have M2 := hide m2; have HB2 := hide ((unhide HB1).trans (b2.mono hs1)); clear m2 b2)
      | (go_at_call 174; refine (least_any _ _ _).mono ?_; rintro en w3 ⟨rfl, rfl⟩))
    all_goals
      go_wp2_with fail
      go_ret
      exact ⟨_, rfl, Th.IsMin.least (unhide M1) (unhide M2), unhide HB2⟩

end Go.Proofs.YtgahgkddaljmkaaGreatDoor
