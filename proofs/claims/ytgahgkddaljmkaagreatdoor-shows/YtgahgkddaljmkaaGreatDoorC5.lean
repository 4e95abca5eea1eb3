/- The document's names: what is wrong in a let. -/
import Derived.Test.YtgahgkddaljmkaaGreatDoorC4
namespace Go.Proofs.YtgahgkddaljmkaaGreatDoor
open Go.RowKit
attribute [local go_sem ↓] Go.wp_at_zero Go.wp_at_succ

theorem Th.Rise.low {lo lo' hi : Nat} {l : List Th.Tok} (h : Th.Rise lo hi l) (hl : lo' ≤ lo) : Th.Rise lo' hi l := by
  cases l with
  | nil => simp only [Th.Rise] at h ⊢; omega
  | cons t l => exact ⟨by have := h.1; omega, h.2⟩

theorem inbinds_rise {n : Nat} : ∀ {lo hi : Nat} {l : List Th.Tok} {es : List Th.Ex}, Th.InBinds (Th.In n) lo hi l es → Th.Rise lo hi l
  | _, _, [], [], h => h
  | lo, hi, t :: r, e :: es, h => by
    obtain ⟨h1, m, h2, h3⟩ := h
    have := h2.le
    exact ⟨h1, (inbinds_rise h3).low (by omega)⟩
  | _, _, [], _ :: _, h => h.elim
  | _, _, _ :: _, [], h => h.elim

theorem inbinds_len {n : Nat} : ∀ {lo hi : Nat} {l : List Th.Tok} {es : List Th.Ex}, Th.InBinds (Th.In n) lo hi l es → l.length = es.length
  | _, _, [], [], _ => rfl
  | lo, hi, t :: r, e :: es, h => by
    obtain ⟨h1, m, h2, h3⟩ := h
    simp [inbinds_len h3]
  | _, _, [], _ :: _, h => h.elim
  | _, _, _ :: _, [], h => h.elim

theorem take_flat {α : Type} {f : α → List Nat} {l : List α} {k : Nat} {t : α} (h : l[k]? = some t) : (l.take (k + 1)).flatMap f = (l.take k).flatMap f ++ f t := by
  rw [take_snoc_get h]; simp

set_option maxRecDepth 100000 in
set_option maxHeartbeats 8000000 in
theorem wrong_let {n : Nat} (hx : WrOK n) {w : World} {S A : Nat → Prop} {a : Nat} {kv lv nv pv : Value} {around : List (List UInt8)} {l : List Th.Tok} {b : Th.Ex} {parts : List Th.Ex} {pvs : List Value} {m lo mid hi : Nat} {vs : List Value} {rc : Bool} (hb : Blk w a vs 195) (hk : vs[0]? = some (.int .i64 (if rc then 8 else 7 : Nat))) (h6 : vs[6]? = some lv) (h8 : vs[8]? = some nv) (h9 : vs[9]? = some pv)
    (d1 : DRep S w m lv b) (hn : Row S w 108 4 nv l.length (dnsCells l)) (hp : Row S w 110 1 pv parts.length pvs) (hpl : pvs.length = parts.length) (dp : ∀ (i : Nat) (x : Value) (p : Th.Ex), pvs[i]? = some x → parts[i]? = some p → DRep S w m x p)
    (hr : Row A w 9 1 kv around.length (strCells around)) (i1 : Th.InBinds (Th.In n) lo mid l parts) (i2 : Th.In n b mid hi) (hl : around.length + (hi - lo) ≤ 1000000) :
    Calls Tryz.prog 175 #[.pointer (some ⟨a, 0, none⟩), kv] w fun en w' => WrPost w (Th.wbinds (Th.wrongs n) (if rc then around ++ Th.texts l else around) [] l parts ++ Th.wrongs n b (around ++ Th.texts l)) en w' := by
  have c0 := (hb.cell 0).trans hk
  have c6 := (hb.cell 6).trans h6
  have c8 := (hb.cell 8).trans h8
  have c9 := (hb.cell 9).trans h9
  have ha := hb.lt
  have hris := inbinds_rise i1
  have hll := inbinds_len i1
  have hle1 := Th.Rise.len hris
  have hle2 := i2.le
  obtain ⟨x1, rfl⟩ := drep_ptr d1
  obtain ⟨ka, kn, kc, rfl⟩ := row_slice hr
  obtain ⟨na, nn, nc, rfl⟩ := row_slice hn
  have hpsh := row_shape hp
  have HM := hide (hdI_min hris)
  have HMEM := hide (fun ar (x : Nat) => Th.wbinds_mem (wr := Th.wrongs n) (around := ar) l parts [] x hll)
  have CT := hide (fun (W : World) (hW : Below w.heap.size w W) => twice_any (hn.gb (gb_below none hW) (by simp)) (by omega))
  have CW := hide (fun (W : World) (hW : Below w.heap.size w W) => with_any W A S _ _ around l (hr.gb (gb_below none hW) (by simp)) (hn.gb (gb_below none hW) (by simp)) (by omega) (by omega))
  have C1 := hide (fun (W : World) (kv' : Value) (B : Nat) (hW : Below w.heap.size w W) (ho : W.ownsRow B 9 1 kv' (around ++ Th.texts l).length (strCells (around ++ Th.texts l))) => hx W S _ _ _ kv' (around ++ Th.texts l) _ _ _ (d1.gb (gb_below none hW) (by simp)) (Row.of_own ho) i2 (by simp [Th.texts]; omega))
  have CP : Hid (∀ (W : World) (kv' : Value) (ar : List (List UInt8)) (B : Nat → Prop) (k : Nat) (x : Value) (p : Th.Ex), Below w.heap.size w W → pvs[k]? = some x → parts[k]? = some p → Row B W 9 1 kv' ar.length (strCells ar) → ar.length ≤ around.length + l.length → Calls Tryz.prog 175 #[x, kv'] W fun en w' => WrPost W (Th.wrongs n p ar) en w') := hide (by
    intro W kv' ar B k x p hW hx1 hx2 hro har
    obtain ⟨lo', hi', g1, g2⟩ := InBinds_get i1 k p hx2
    exact hx W S B _ _ kv' ar _ _ _ ((dp k x p hx1 hx2).gb (gb_below none hW) (by simp)) hro g1 (by omega))
  have HPTR := hide (fun (k : Nat) (x : Value) (p : Th.Ex) (hx1 : pvs[k]? = some x) (hx2 : parts[k]? = some p) => drep_ptr (dp k x p hx1 hx2))
  have CK := hide (fun (W : World) (hW : Below w.heap.size w W) => hr.gb (gb_below none hW) (by simp))
  have CE := hide (fun (W : World) (hW : Below w.heap.size w W) => And.intro (cell_gb (gb_below none hW) c0 (by simp)) (And.intro (cell_gb (gb_below none hW) c6 (by simp)) (And.intro (cell_gb (gb_below none hW) c8 (by simp)) (cell_gb (gb_below none hW) c9 (by simp)))))
  have CROW := hide (fun (W : World) (hW : Below w.heap.size w W) => hp.1.kept (gb_below none hW) (own_none _))
  have HPL := hide hpl
  have HPN : Hid (pv = .slice none 0 0 → parts.length = 0) := hide (fun e => by
    rcases hp.1.2 with ⟨_, h0⟩ | ⟨_, _, _, h0, _⟩
    · exact h0
    · rw [e] at h0; cases h0)
  clear d1 hn hr i2 hb hk h6 h8 h9 hx dp hp hris hpl
  have HLL := hide hll
  clear hll i1
  obtain ⟨ar, har⟩ : ∃ ar, (if rc then around ++ Th.texts l else around) = ar := ⟨_, rfl⟩
  rw [har]
  have HAR := hide har
  have HARL : Hid (ar.length ≤ around.length + l.length) := hide (by rw [← har]; cases rc <;> simp [Th.texts])
  have PL : parts.length ≤ 1000000 := by have := unhide HLL; omega
  clear har
  have FIN : Hid (∀ (x1 x2 : Int), Th.IsMin x1 (Th.dups [] l ++ parts.flatMap (fun e => Th.wrongs n e ar)) → Th.IsMin x2 (Th.wrongs n b (around ++ Th.texts l)) → Th.IsMin (leastI x1 x2) (Th.wbinds (Th.wrongs n) ar [] l parts ++ Th.wrongs n b (around ++ Th.texts l))) := hide (fun x1 x2 m1 m2 => (m1.same (fun x => (unhide HMEM ar x).symm)).least m2)
  clear HMEM
  rcases hpsh with hv | ⟨pg, pc, hv⟩
  · have hl0 : parts = [] := List.length_eq_zero_iff.1 (unhide HPN hv)
    subst hv hl0
    have MX : Hid (Th.IsMin (Th.hdI (Th.dups [] l)) (Th.dups [] l ++ ([] : List Th.Ex).flatMap (fun e => Th.wrongs n e ar))) := hide (by simpa using unhide HM)
    cases rc
    all_goals
      go_enter Tryz.func175, Tryz.ntmps175
      go_wp2_with fail
      refine (unhide CT _ (Below.refl _ _)).mono ?_
      rintro en w1 ⟨rfl, b1⟩
      have HB1 := hide b1
      obtain ⟨d0, d6, d8, d9⟩ := unhide CE w1 b1
      obtain ⟨x0, hx0⟩ : ∃ x0, Th.hdI (Th.dups [] l) = x0 := ⟨_, rfl⟩
      rw [hx0] at MX HM ⊢
      clear b1 hx0 c0 c6 c8 c9
      go_wp2_with fail
      refine (unhide CW _ (unhide HB1)).mono ?_
      rintro en w2 ⟨v2, rfl, o2, b2⟩
      obtain ⟨wa, wn, wc, rfl⟩ := own_slice o2
      have HO2 := hide o2
      have b2' : Below w.heap.size w w2 := (unhide HB1).trans (b2.mono (unhide HB1).size)
      have HB2 := hide b2'
      obtain ⟨g0, g6, g8, g9⟩ := unhide CE w2 b2'
      have hz2 := b2'.size
      clear b2 b2' o2 d0 d6 d8 d9
      go_wp2_with fail
      refine wp_loop_rounds 1 ?_
      rw [rounds_succ]
      go_wp2_with fail
      have HBR := HB2
      have HOR := HO2
      refine (unhide C1 _ _ _ (unhide HBR) (unhide HOR)).mono ?_
      rintro en w5 ⟨r5, rfl, m5, b5⟩
      have M5 := hide m5
      have HB5 := hide ((unhide HBR).trans (b5.mono (unhide HBR).size))
      clear m5 b5
      go_wp2_with fail
      refine (least_any _ _ _).mono ?_
      rintro en w6 ⟨rfl, rfl⟩
      go_wp2_with fail
      go_ret
      exact ⟨_, rfl, unhide FIN _ _ (unhide MX) (unhide M5), unhide HB5⟩
  · subst hv
    cases rc
    · go_enter Tryz.func175, Tryz.ntmps175
      go_wp2_with fail
      refine (unhide CT _ (Below.refl _ _)).mono ?_
      rintro en w1 ⟨rfl, b1⟩
      have HB1 := hide b1
      obtain ⟨d0, d6, d8, d9⟩ := unhide CE w1 b1
      obtain ⟨x0, hx0⟩ : ∃ x0, Th.hdI (Th.dups [] l) = x0 := ⟨_, rfl⟩
      rw [hx0] at HM ⊢
      clear b1 hx0 c0 c6 c8 c9
      go_wp2_with fail
      refine (unhide CW _ (unhide HB1)).mono ?_
      rintro en w2 ⟨v2, rfl, o2, b2⟩
      obtain ⟨wa, wn, wc, rfl⟩ := own_slice o2
      have HO2 := hide o2
      have b2' : Below w.heap.size w w2 := (unhide HB1).trans (b2.mono (unhide HB1).size)
      have HB2 := hide b2'
      obtain ⟨g0, g6, g8, g9⟩ := unhide CE w2 b2'
      have hz2 := b2'.size
      clear b2 b2' o2 d0 d6 d8 d9
      go_wp2_with fail
      go_loopg [5, 8] parts.length (fun gk atv iv wr => ∃ (x : Int) (k : Nat), atv = .int .i64 x ∧ iv = .int .i64 k ∧ k ≤ parts.length ∧ parts.length - k ≤ gk ∧ Th.IsMin x (Th.dups [] l ++ (parts.take k).flatMap (fun e => Th.wrongs n e ar)) ∧ Below w2.heap.size w2 wr)
      case atStart => exact ⟨_, 0, rfl, rfl, Nat.zero_le _, by omega, by simpa using unhide HM, Below.refl _ _⟩
      case round =>
        obtain ⟨x, k, rfl, rfl, hk, hgk, hmin, hb⟩ := hrel
        have MK := hide hmin
        have hbw := (unhide HB2).trans (hb.mono hz2)
        have HBR := hide hbw
        have HB := hide hb
        have HOR := hide ((unhide HO2).kept (gb_below none hb) (own_none _))
        obtain ⟨e0, e6, e8, e9⟩ := unhide CE wr hbw
        have hrow := unhide CROW wr hbw
        have hzr := hb.size
        clear hmin hb
        by_cases hlt : k < parts.length
        · obtain ⟨p, hp⟩ : ∃ p, parts[k]? = some p := ⟨parts[k], List.getElem?_eq_getElem hlt⟩
          obtain ⟨y, hy⟩ : ∃ y, pvs[k]? = some y := ⟨pvs[k]'(by rw [unhide HPL]; exact hlt), List.getElem?_eq_getElem (by rw [unhide HPL]; exact hlt)⟩
          have y0 := (hrow.cellAt k (by omega)).trans hy
          have hpg := (hrow.lt pg rfl).2
          obtain ⟨yp, rfl⟩ := unhide HPTR k y p hy hp
          have CPK : Hid (∀ (W : World), W = wr → Calls Tryz.prog 175 #[.pointer (some ⟨yp, 0, none⟩), .slice ka kn kc] W fun en w' => WrPost W (Th.wrongs n p ar) en w') := hide (by
            intro W e
            subst e
            refine unhide CP _ _ ar A k _ p (unhide HBR) hy hp ?_ (unhide HARL)
            rw [← unhide HAR]
            exact unhide CK _ (unhide HBR))
          have HT := hide (take_flat (f := fun e => Th.wrongs n e ar) hp)
          clear hrow hy hp hbw
          go_wp2_with fail
          refine (unhide CPK _ rfl).mono ?_
          rintro en w5 ⟨r5, rfl, m5, b5⟩
          have M5 := hide m5
          have b5' : Below w2.heap.size w2 w5 := (unhide HB).trans (b5.mono hzr)
          have HB5 := hide b5'
          clear m5 b5 b5'
          go_wp2_with fail
          refine (least_any _ _ _).mono ?_
          rintro en w6 ⟨rfl, rfl⟩
          go_wp2_with fail
          go_roundg (parts.length - (k + 1))
          case measure => omega
          case rel =>
            refine ⟨_, k + 1, rfl, by go_num, by omega, Nat.le_refl _, ?_, unhide HB5⟩
            rw [unhide HT, ← List.append_assoc]
            exact Th.IsMin.least (unhide MK) (unhide M5)
        · have hkl : k = parts.length := by omega
          have MX : Hid (Th.IsMin x (Th.dups [] l ++ parts.flatMap (fun e => Th.wrongs n e ar))) := hide (by
            have := unhide MK
            rw [hkl, List.take_of_length_le (Nat.le_refl _)] at this
            exact this)
          clear hrow hbw hkl
          go_wp2_with fail
          refine (unhide C1 _ _ _ (unhide HBR) (unhide HOR)).mono ?_
          rintro en w5 ⟨r5, rfl, m5, b5⟩
          have M5 := hide m5
          have HB5 := hide ((unhide HBR).trans (b5.mono (unhide HBR).size))
          clear m5 b5
          go_wp2_with fail
          refine (least_any _ _ _).mono ?_
          rintro en w6 ⟨rfl, rfl⟩
          go_wp2_with fail
          go_ret
          exact ⟨_, rfl, unhide FIN _ _ (unhide MX) (unhide M5), unhide HB5⟩
    · go_enter Tryz.func175, Tryz.ntmps175
      go_wp2_with fail
      refine (unhide CT _ (Below.refl _ _)).mono ?_
      rintro en w1 ⟨rfl, b1⟩
      have HB1 := hide b1
      obtain ⟨d0, d6, d8, d9⟩ := unhide CE w1 b1
      obtain ⟨x0, hx0⟩ : ∃ x0, Th.hdI (Th.dups [] l) = x0 := ⟨_, rfl⟩
      rw [hx0] at HM ⊢
      clear b1 hx0 c0 c6 c8 c9
      go_wp2_with fail
      refine (unhide CW _ (unhide HB1)).mono ?_
      rintro en w2 ⟨v2, rfl, o2, b2⟩
      obtain ⟨wa, wn, wc, rfl⟩ := own_slice o2
      have HO2 := hide o2
      have b2' : Below w.heap.size w w2 := (unhide HB1).trans (b2.mono (unhide HB1).size)
      have HB2 := hide b2'
      obtain ⟨g0, g6, g8, g9⟩ := unhide CE w2 b2'
      have hz2 := b2'.size
      clear b2 b2' o2 d0 d6 d8 d9
      go_wp2_with fail
      go_loopg [5, 8] parts.length (fun gk atv iv wr => ∃ (x : Int) (k : Nat), atv = .int .i64 x ∧ iv = .int .i64 k ∧ k ≤ parts.length ∧ parts.length - k ≤ gk ∧ Th.IsMin x (Th.dups [] l ++ (parts.take k).flatMap (fun e => Th.wrongs n e ar)) ∧ Below w2.heap.size w2 wr)
      case atStart => exact ⟨_, 0, rfl, rfl, Nat.zero_le _, by omega, by simpa using unhide HM, Below.refl _ _⟩
      case round =>
        obtain ⟨x, k, rfl, rfl, hk, hgk, hmin, hb⟩ := hrel
        have MK := hide hmin
        have hbw := (unhide HB2).trans (hb.mono hz2)
        have HBR := hide hbw
        have HB := hide hb
        have HOR := hide ((unhide HO2).kept (gb_below none hb) (own_none _))
        obtain ⟨e0, e6, e8, e9⟩ := unhide CE wr hbw
        have hrow := unhide CROW wr hbw
        have hzr := hb.size
        clear hmin hb
        by_cases hlt : k < parts.length
        · obtain ⟨p, hp⟩ : ∃ p, parts[k]? = some p := ⟨parts[k], List.getElem?_eq_getElem hlt⟩
          obtain ⟨y, hy⟩ : ∃ y, pvs[k]? = some y := ⟨pvs[k]'(by rw [unhide HPL]; exact hlt), List.getElem?_eq_getElem (by rw [unhide HPL]; exact hlt)⟩
          have y0 := (hrow.cellAt k (by omega)).trans hy
          have hpg := (hrow.lt pg rfl).2
          obtain ⟨yp, rfl⟩ := unhide HPTR k y p hy hp
          have CPK : Hid (∀ (W : World), W = wr → Calls Tryz.prog 175 #[.pointer (some ⟨yp, 0, none⟩), .slice wa wn wc] W fun en w' => WrPost W (Th.wrongs n p ar) en w') := hide (by
            intro W e
            subst e
            refine unhide CP _ _ ar (fun b => w1.heap.size ≤ b) k _ p (unhide HBR) hy hp ?_ (unhide HARL)
            rw [← unhide HAR]
            exact Row.of_own (unhide HOR))
          have HT := hide (take_flat (f := fun e => Th.wrongs n e ar) hp)
          clear hrow hy hp hbw
          go_wp2_with fail
          refine (unhide CPK _ rfl).mono ?_
          rintro en w5 ⟨r5, rfl, m5, b5⟩
          have M5 := hide m5
          have b5' : Below w2.heap.size w2 w5 := (unhide HB).trans (b5.mono hzr)
          have HB5 := hide b5'
          clear m5 b5 b5'
          go_wp2_with fail
          refine (least_any _ _ _).mono ?_
          rintro en w6 ⟨rfl, rfl⟩
          go_wp2_with fail
          go_roundg (parts.length - (k + 1))
          case measure => omega
          case rel =>
            refine ⟨_, k + 1, rfl, by go_num, by omega, Nat.le_refl _, ?_, unhide HB5⟩
            rw [unhide HT, ← List.append_assoc]
            exact Th.IsMin.least (unhide MK) (unhide M5)
        · have hkl : k = parts.length := by omega
          have MX : Hid (Th.IsMin x (Th.dups [] l ++ parts.flatMap (fun e => Th.wrongs n e ar))) := hide (by
            have := unhide MK
            rw [hkl, List.take_of_length_le (Nat.le_refl _)] at this
            exact this)
          clear hrow hbw hkl
          go_wp2_with fail
          refine (unhide C1 _ _ _ (unhide HBR) (unhide HOR)).mono ?_
          rintro en w5 ⟨r5, rfl, m5, b5⟩
          have M5 := hide m5
          have HB5 := hide ((unhide HBR).trans (b5.mono (unhide HBR).size))
          clear m5 b5
          go_wp2_with fail
          refine (least_any _ _ _).mono ?_
          rintro en w6 ⟨rfl, rfl⟩
          go_wp2_with fail
          go_ret
          exact ⟨_, rfl, unhide FIN _ _ (unhide MX) (unhide M5), unhide HB5⟩

end Go.Proofs.YtgahgkddaljmkaaGreatDoor
