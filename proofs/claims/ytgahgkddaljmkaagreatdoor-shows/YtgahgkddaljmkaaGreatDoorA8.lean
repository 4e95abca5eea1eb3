/- Package scope: let. Package scope: expr. Package scope: expr at a lambda, a let, a case. Package scope: FirstWrong. Package scope: HasMain. Package thunk: read and Check. -/
import Derived.Test.YtgahgkddaljmkaaGreatDoorA7
import Derived.Deep.DrawnRows
namespace Go.Proofs.YtgahgkddaljmkaaGreatDoor
open Go.RowKit
attribute [local go_sem ↓] Go.wp_at_zero Go.wp_at_succ

theorem wbinds_snoc (wr : Th.Ex → List (List UInt8) → List Nat) (ar : List (List UInt8)) : ∀ (seen : List (List UInt8)) (l : List Th.Tok) (es : List Th.Ex) (t : Th.Tok) (e : Th.Ex), l.length = es.length →
    Th.wbinds wr ar seen (l ++ [t]) (es ++ [e]) = Th.wbinds wr ar seen l es ++ ((if (seen ++ Th.texts l).contains t.s then [t.at_] else []) ++ wr e ar)
  | seen, [], [], t, e, _ => by simp [Th.wbinds, Th.texts]
  | seen, x :: l, y :: es, t, e, h => by
    simp only [List.cons_append, Th.wbinds]
    rw [wbinds_snoc wr ar (seen ++ [x.s]) l es t e (by simpa using h)]
    simp [Th.texts]
  | _, [], _ :: _, _, _, h => by simp at h
  | _, _ :: _, [], _, _, h => by simp at h

theorem InBinds_get {n : Nat} : ∀ {lo hi : Nat} {l : List Th.Tok} {es : List Th.Ex}, Th.InBinds (Th.In n) lo hi l es → ∀ (k : Nat) (p : Th.Ex), es[k]? = some p → ∃ lo' hi', Th.In n p lo' hi' ∧ l.length + (hi' - lo') ≤ hi - lo
  | lo, hi, [], [], _, k, p, hp => by simp at hp
  | lo, hi, t :: r, e :: es, h, 0, p, hp => by
    obtain ⟨h1, m, h2, h3⟩ := h
    simp only [List.getElem?_cons_zero, Option.some.injEq] at hp
    subst hp
    have := Th.InBinds.len h3
    have := Th.In.le h2
    exact ⟨_, _, h2, by simp; omega⟩
  | lo, hi, t :: r, e :: es, h, k + 1, p, hp => by
    obtain ⟨h1, m, h2, h3⟩ := h
    have := Th.InBinds.len h3
    have := Th.In.le h2
    obtain ⟨lo', hi', h4, h5⟩ := InBinds_get h3 k p (by simpa using hp)
    exact ⟨lo', hi', h4, by simp; omega⟩
  | _, _, [], _ :: _, h, _, _, _ => h.elim
  | _, _, _ :: _, [], h, _, _, _ => h.elim

set_option maxRecDepth 100000 in
set_option maxHeartbeats 8000000 in
theorem let_any {n : Nat} (hx : ScOK n) {w : World} {c : Nat} {o : Option Nat} {r : Bool} {sv bv av : Value} {l : List Th.Tok} {parts : List Th.Ex} {pvs : List Value} {b : Th.Ex} {around : List (List UInt8)} {S A : Nat → Prop} {m lo mid hi : Nat}
    (hc : Chk w c o) (h3 : parts.length = l.length) (h4 : pvs.length = l.length) (h5 : Row S w 312 3 sv l.length (bindCells l pvs)) (h6 : ∀ (i : Nat) (pv : Value) (p : Th.Ex), pvs[i]? = some pv → parts[i]? = some p → Rep S w m pv p) (h7 : Rep S w m bv b)
    (h1 : Th.InBinds (Th.In n) lo mid l parts) (h2 : Th.In n b mid hi) (ha : Row A w 9 1 av around.length (strCells around)) (hS : ¬ S c) (hA : ¬ A c) (hb : around.length + (hi - lo) ≤ 1000000) :
    Calls Tryz.prog 121 #[.pointer (some ⟨c, 0, none⟩), .agg #[.bool r, sv, bv], av] w fun en w' => en = .returned (.tuple #[]) ∧ Chk w' c (after o (Th.wbinds (Th.wrongs n) (if r then around ++ Th.texts l else around) [] l parts ++ Th.wrongs n b (around ++ Th.texts l))) ∧ w.grownBy w' (some c) := by
  have hl1 := h1.len
  have hl2 := h2.le
  have hcl := hc.lt
  have hll : l.length ≤ 1000000 := by omega
  have hal : around.length ≤ 1000000 := by omega
  have hone : ∀ (i : Nat) (pv : Value), pvs[i]? = some pv → pv.oneCell' = true := fun i pv hp => by
    have : i < parts.length := by rw [h3, ← h4]; exact (List.getElem?_eq_some_iff.1 hp).1
    exact (rep_one (h6 i pv parts[i] hp (List.getElem?_eq_getElem this))).one
  have HONE := hide hone
  obtain ⟨t, x, rfl⟩ := rep_iface h7
  obtain ⟨aa, an, ac, rfl⟩ := row_slice ha
  have hss := row_shape h5
  have HC := hide hc
  have H3 := hide h3
  have H4 := hide h4
  have H5 := hide h5
  have H6 := hide h6
  have H7 := hide h7
  have HA := hide ha
  have HI := hide (And.intro h1 (And.intro h2 (And.intro hS hA)))
  have HL : Hid ((around ++ Th.texts l).length + (hi - mid) ≤ 1000000 ∧ around.length + (mid - lo) ≤ 1000000) := hide (by simp [Th.texts]; omega)
  have HX := hide hx
  clear hc h3 h4 h5 h6 h7 ha h1 h2 hS hA hb hx hl1 hl2 hone
  obtain ⟨sa, sn, sc, hse⟩ : ∃ sa sn sc, sv = .slice sa sn sc := by
    rcases hss with h | ⟨g, cap, h⟩
    · exact ⟨_, _, _, h⟩
    · exact ⟨_, _, _, h⟩
  subst hse
  have hE := Blk.new w [.bool r, .slice sa sn sc, .iface t x] 178
  have hg0 := gb_alloc w (.cells #[.bool r, .slice sa sn sc, .iface t x] 178) (some c)
  have hbn := hide (bindNames_any (rb := r) (bt := t) (bx := x) ((unhide H5).gb hg0 (fun j hj => by cases hj; exact (unhide HI).2.2.1)) (unhide H4) (unhide HONE) hll)
  have HE := hide hE
  have HG0 := hide hg0
  clear hE hg0
  go_enter Tryz.func121, Tryz.ntmps121
  go_wp2_with fail
  refine (unhide hbn).mono ?_
  rintro en w1 ⟨tv, rfl, htv, hb1⟩
  obtain ⟨ta, tn, tc, rfl⟩ := row_slice (Row.of_own htv)
  have hsz1 : w.heap.size < w1.heap.size := by
    have := hb1.size
    have := (unhide HE).lt
    omega
  have HE1 := hide ((unhide HE).below hb1 (unhide HE).lt)
  have HG1 := hide (gb_trans (unhide HG0) (gb_below (some c) hb1))
  have HC1 := hide (((unhide HC).gb (gb_alloc _ _ none) (by simp)).below hb1)
  have HT : Hid (w1.ownsRow w.heap.size 9 1 (.slice ta tn tc) (Th.texts l).length (strCells (Th.texts l))) := hide (by
    refine own_base ?_ (gb_alloc w (.cells #[.bool r, .slice sa sn sc, .iface t x] 178) none).size
    simpa [Th.texts] using htv)
  have e0 := Blk.cell (unhide HE1) 0
  have e1 := Blk.cell (unhide HE1) 1
  have e2 := Blk.cell (unhide HE1) 2
  simp at e0 e1 e2
  clear htv hb1 hbn HC HE HG0
  go_wp2_with fail
  have hcc := concat_new ((unhide HA).gb (unhide HG1) (fun j hj => by cases hj; exact (unhide HI).2.2.2)) (Row.of_own (unhide HT)) hal (by simpa [Th.texts] using hll)
  refine hcc.mono ?_
  clear hcc e0 e1 e2
  rintro en w2 ⟨ka, kn, kc, rfl, hK, hb2⟩
  have HG2 := hide (gb_trans (unhide HG1) (gb_below (some c) hb2))
  have HC2 := hide ((unhide HC1).below hb2)
  have HT2 := hide ((unhide HT).kept (gb_below none hb2) (own_none _))
  have HE2 := hide ((unhide HE1).below hb2 (unhide HE1).lt)
  have HK := hide hK
  have hsz2 := hb2.size
  have e0 := Blk.cell (unhide HE2) 0
  have e1 := Blk.cell (unhide HE2) 1
  have e2 := Blk.cell (unhide HE2) 2
  simp at e0 e1 e2
  clear hK hb2 HG1 HC1 HT HE1
  have hKc : ¬ (w1.heap.size ≤ c) := by omega
  have HSEEN : Hid (∀ (sd : Bool) (q : Value), q = (if sd then .slice ka kn kc else .slice aa an ac) → ∃ B : Nat → Prop, Row B w2 9 1 q (if sd then around ++ Th.texts l else around).length (strCells (if sd then around ++ Th.texts l else around)) ∧ ¬ B c ∧ ∀ (k : Nat) (p : Th.Ex), parts[k]? = some p → ∃ lo' hi', Th.In n p lo' hi' ∧ (if sd then around ++ Th.texts l else around).length + (hi' - lo') ≤ 1000000) := hide (fun sd q hq => by
    subst hq
    cases sd
    · refine ⟨A, (unhide HA).gb (unhide HG2) (fun j hj => by cases hj; exact (unhide HI).2.2.2), (unhide HI).2.2.2, fun k p hp => ?_⟩
      obtain ⟨lo', hi', h8, h9⟩ := InBinds_get (unhide HI).1 k p hp
      have := (unhide HL).2
      exact ⟨lo', hi', h8, by show around.length + (hi' - lo') ≤ 1000000; omega⟩
    · refine ⟨_, unhide HK, hKc, fun k p hp => ?_⟩
      obtain ⟨lo', hi', h8, h9⟩ := InBinds_get (unhide HI).1 k p hp
      have := (unhide HL).2
      exact ⟨lo', hi', h8, by show (around ++ Th.texts l).length + (hi' - lo') ≤ 1000000; simp [Th.texts]; omega⟩)
  have hsn : Hid (sn = l.length) := hide (by
    rcases (unhide H5).1.2 with ⟨h, h0⟩ | ⟨_, _, _, h0, _⟩
    · cases h; exact h0.symm
    · cases h0; rfl)
  cases r
  · obtain ⟨B, hB1, hB2, hB3⟩ := unhide HSEEN false (.slice aa an ac) rfl
    have HB := hide (And.intro hB1 (And.intro hB2 hB3))
    clear hB1 hB2 hB3
    go_wp2_with fail
    have hsl := unhide hsn
    subst hsl
    go_loopg [24] l.length (fun gk i wr => ∃ k : Nat, i = .int .i64 k ∧ k ≤ l.length ∧ l.length - k ≤ gk ∧ Chk wr c (after o (Th.wbinds (Th.wrongs n) (if false then around ++ Th.texts l else around) [] (l.take k) (parts.take k))) ∧ w2.grownBy wr (some c))
    case atStart => exact ⟨0, rfl, Nat.zero_le _, by omega, by rw [List.take_zero, List.take_zero, show Th.wbinds (Th.wrongs n) (if false then around ++ Th.texts l else around) [] [] [] = [] from rfl, after_nil]; exact unhide HC2, gb_refl _ _⟩
    case round =>
      obtain ⟨k, rfl, hk, hgk, hch, hg⟩ := hrel
      have Hch := hide hch
      have Hg := hide hg
      have hsz := hg.size
      by_cases hlt : k < l.length
      · obtain ⟨g, hsa⟩ : ∃ g, sa = some ⟨g, 0, none⟩ := by
          rcases hss with h | ⟨g, cap, h⟩
          · have := (Value.slice.inj h).2.1
            omega
          · exact ⟨g, (Value.slice.inj h).1⟩
        subst hsa
        have hT0 := unhide HT2
        obtain ⟨g2, hta⟩ : ∃ g2, ta = some ⟨g2, 0, none⟩ ∧ tn = l.length := by
          rcases row_shape (Row.of_own hT0) with h | ⟨g2, cap, h⟩
          · rcases hT0.2 with ⟨_, h0⟩ | ⟨_, _, _, h0, _⟩
            · rw [show (Th.texts l).length = l.length by simp [Th.texts]] at h0
              omega
            · rw [h] at h0; cases h0
          · cases h; exact ⟨g2, rfl, by simp [Th.texts]⟩
        obtain ⟨rfl, rfl⟩ := hta
        obtain ⟨t, ht⟩ : ∃ t, l[k]? = some t := ⟨l[k], List.getElem?_eq_getElem hlt⟩
        obtain ⟨p, hp⟩ : ∃ p, parts[k]? = some p := ⟨_, List.getElem?_eq_getElem (by rw [unhide H3]; exact hlt)⟩
        obtain ⟨pv, hpv⟩ : ∃ pv, pvs[k]? = some pv := ⟨_, List.getElem?_eq_getElem (by rw [unhide H4]; exact hlt)⟩
        have hrep := ((unhide H6 k pv p hpv hp).gb (gb_trans (unhide HG2) hg) (fun j hj => by cases hj; exact (unhide HI).2.2.1))
        obtain ⟨pt, px, rfl⟩ := rep_iface hrep
        have hcs := bindCells_get l pvs k t _ ht hpv
        have hrow := ((unhide H5).gb (gb_trans (unhide HG2) hg) (fun j hj => by cases hj; exact (unhide HI).2.2.1)).1
        have c0 := (hrow.cellAt (k * 3) (by omega)).trans hcs.1
        have c1 := (hrow.cellAt (k * 3 + 1) (by omega)).trans hcs.2.1
        have c2 := (hrow.cellAt (k * 3 + 2) (by omega)).trans hcs.2.2
        have hgl := (hrow.lt g rfl).2
        have Ht := hide (take_snoc_get ht)
        have Hp := hide (take_snoc_get hp)
        have hk0 : (0 : Int) ≤ (k : Int) := Int.natCast_nonneg _
        have hcw2 : c < w2.heap.size := by omega
        have hT1 : wr.ownsRow w.heap.size 9 1 (.slice (some ⟨g2, 0, none⟩) l.length tc) l.length (strCells (Th.texts l)) := by
          have := hT0.kept hg (own_ne hT0 hcl)
          simpa [Th.texts] using this
        have hcap2 : l.length ≤ tc := by
          rcases hT1.2 with ⟨h0, _⟩ | ⟨_, _, _, h0, _, _, hn, _⟩
          · cases h0
          · cases h0; exact hn
        have hk1 : (k : Int) ≤ (tc : Int) := by omega
        have hT2 := own_take hT1 (i := k) (by omega)
        rw [strCells_take] at hT2
        have HT3 : Hid (wr.ownsRow w.heap.size 9 1 (.slice (some ⟨g2, 0, none⟩) k tc) (Th.texts (l.take k)).length (strCells (Th.texts (l.take k)))) := hide (by
          rw [show (Th.texts (l.take k)).length = k by simp [Th.texts]; omega]
          exact hT2)
        have CON := hide (fun (W : World) (hW : Chk W c (after o (Th.wbinds (Th.wrongs n) (if false then around ++ Th.texts l else around) [] (l.take k) (parts.take k)))) (hR : W.ownsRow w.heap.size 9 1 (.slice (some ⟨g2, 0, none⟩) k tc) (Th.texts (l.take k)).length (strCells (Th.texts (l.take k)))) => fresh_any hW ⟨t.s.toArray⟩ t.at_ hR (by simp [Th.texts]; omega))
        have Hd : Hid (Th.wbinds (Th.wrongs n) (if false then around ++ Th.texts l else around) [] (l.take (k + 1)) (parts.take (k + 1)) = Th.wbinds (Th.wrongs n) (if false then around ++ Th.texts l else around) [] (l.take k) (parts.take k) ++ ((if (Th.texts (l.take k)).contains t.s then [t.at_] else []) ++ Th.wrongs n p (if false then around ++ Th.texts l else around))) := hide (by
          rw [unhide Ht, unhide Hp, wbinds_snoc _ _ _ _ _ _ _ (by have := unhide H3; simp; omega)]
          simp)
        have HREP := hide hrep
        have HP := hide hp
        have hcr : Hid (c ≠ wr.heap.size) := hide (by omega)
        clear hch hg ht hp hpv hcs hrow hT0 hT1 hT2 hrep e0 e1 e2 hss hsn HSEEN
        go_wp2_with fail
        go_region_with (go_at_call 69; refine (unhide CON _ ?_ ?_).mono ?_; exact Blk.drew (Blk.alloc (unhide Hch) _); exact ((unhide HT3).alloc _).drew; rintro e w3 ⟨rfl, h3, hg3⟩; have H3' := hide h3; have HG3 := hide hg3; have p2 : w3.cell? ⟨wr.heap.size, 2, none⟩ = some (.iface pt px) := Blk.cell (Blk.grown (Blk.drew (Blk.new wr [.string ⟨t.s.toArray⟩, .int .i64 t.at_, .iface pt px] 312)) hg3 (by intro h; injection h with h; exact unhide hcr h.symm)) 2; clear h3 hg3)
        all_goals
          have HG4 := hide (gb_trans (gb_trans (gb_trans (unhide Hg) (gb_alloc _ _ _)) (gb_drew _ _)) (unhide HG3))
          obtain ⟨lo', hi', hin, hbd⟩ := (unhide HB).2.2 k p (unhide HP)
          have HX3 := hide (unhide HX w3 c _ _ p _ _ S B m lo' hi' (unhide H3') ((unhide HREP).gb (gb_trans (gb_trans (gb_alloc _ _ _) (gb_drew _ _)) (unhide HG3)) (fun j hj => by cases hj; exact (unhide HI).2.2.1)) hin ((unhide HB).1.gb (unhide HG4) (fun j hj => by cases hj; exact (unhide HB).2.1)) (unhide HI).2.2.1 (unhide HB).2.1 hbd)
          clear hin hbd
          go_wp2_with fail
          refine (unhide HX3).mono ?_
          rintro en w5 ⟨rfl, hc5, hg5⟩
          have H5' := hide (And.intro hc5 hg5)
          clear hc5 hg5 p2
          go_wp2_with fail
          go_roundg (l.length - (k + 1))
          case measure => omega
          case rel =>
            refine ⟨k + 1, by go_num, by omega, Nat.le_refl _, ?_, gb_trans (unhide HG4) (unhide H5').2⟩
            rw [unhide Hd, after_append, after_append]
            exact (unhide H5').1
      · have hk2 : k = l.length := by omega
        have Hk := hide hk2
        have hE3 := (unhide HE2).grown hg (by intro h; injection h with h; omega)
        have e3 := Blk.cell hE3 2
        simp at e3
        clear hch hg hk2 e0 e1 e2 hE3 HSEEN
        have HG4 := hide (gb_trans (unhide HG2) (unhide Hg))
        have HX3 := hide (unhide HX wr c _ _ b _ _ S _ m mid hi (unhide Hch) ((unhide H7).gb (unhide HG4) (fun j hj => by cases hj; exact (unhide HI).2.2.1)) (unhide HI).2.1 ((unhide HK).gb (unhide Hg) (fun j hj => by cases hj; exact hKc)) (unhide HI).2.2.1 hKc (unhide HL).1)
        go_wp2_with fail
        refine (unhide HX3).mono ?_
        rintro en w5 ⟨rfl, hc5, hg5⟩
        have H5' := hide (And.intro hc5 hg5)
        clear hc5 hg5
        go_wp2_with fail
        go_end0
        refine ⟨rfl, ?_, gb_trans (unhide HG4) (unhide H5').2⟩
        have ho := (unhide H5').1
        rw [unhide Hk, List.take_of_length_le (Nat.le_refl _), List.take_of_length_le (Nat.le_of_eq (unhide H3))] at ho
        rw [after_append]
        exact ho
  · obtain ⟨B, hB1, hB2, hB3⟩ := unhide HSEEN true (.slice ka kn kc) rfl
    have HB := hide (And.intro hB1 (And.intro hB2 hB3))
    clear hB1 hB2 hB3
    go_wp2_with fail
    have hsl := unhide hsn
    subst hsl
    go_loopg [24] l.length (fun gk i wr => ∃ k : Nat, i = .int .i64 k ∧ k ≤ l.length ∧ l.length - k ≤ gk ∧ Chk wr c (after o (Th.wbinds (Th.wrongs n) (if true then around ++ Th.texts l else around) [] (l.take k) (parts.take k))) ∧ w2.grownBy wr (some c))
    case atStart => exact ⟨0, rfl, Nat.zero_le _, by omega, by rw [List.take_zero, List.take_zero, show Th.wbinds (Th.wrongs n) (if true then around ++ Th.texts l else around) [] [] [] = [] from rfl, after_nil]; exact unhide HC2, gb_refl _ _⟩
    case round =>
      obtain ⟨k, rfl, hk, hgk, hch, hg⟩ := hrel
      have Hch := hide hch
      have Hg := hide hg
      have hsz := hg.size
      by_cases hlt : k < l.length
      · obtain ⟨g, hsa⟩ : ∃ g, sa = some ⟨g, 0, none⟩ := by
          rcases hss with h | ⟨g, cap, h⟩
          · have := (Value.slice.inj h).2.1
            omega
          · exact ⟨g, (Value.slice.inj h).1⟩
        subst hsa
        have hT0 := unhide HT2
        obtain ⟨g2, hta⟩ : ∃ g2, ta = some ⟨g2, 0, none⟩ ∧ tn = l.length := by
          rcases row_shape (Row.of_own hT0) with h | ⟨g2, cap, h⟩
          · rcases hT0.2 with ⟨_, h0⟩ | ⟨_, _, _, h0, _⟩
            · rw [show (Th.texts l).length = l.length by simp [Th.texts]] at h0
              omega
            · rw [h] at h0; cases h0
          · cases h; exact ⟨g2, rfl, by simp [Th.texts]⟩
        obtain ⟨rfl, rfl⟩ := hta
        obtain ⟨t, ht⟩ : ∃ t, l[k]? = some t := ⟨l[k], List.getElem?_eq_getElem hlt⟩
        obtain ⟨p, hp⟩ : ∃ p, parts[k]? = some p := ⟨_, List.getElem?_eq_getElem (by rw [unhide H3]; exact hlt)⟩
        obtain ⟨pv, hpv⟩ : ∃ pv, pvs[k]? = some pv := ⟨_, List.getElem?_eq_getElem (by rw [unhide H4]; exact hlt)⟩
        have hrep := ((unhide H6 k pv p hpv hp).gb (gb_trans (unhide HG2) hg) (fun j hj => by cases hj; exact (unhide HI).2.2.1))
        obtain ⟨pt, px, rfl⟩ := rep_iface hrep
        have hcs := bindCells_get l pvs k t _ ht hpv
        have hrow := ((unhide H5).gb (gb_trans (unhide HG2) hg) (fun j hj => by cases hj; exact (unhide HI).2.2.1)).1
        have c0 := (hrow.cellAt (k * 3) (by omega)).trans hcs.1
        have c1 := (hrow.cellAt (k * 3 + 1) (by omega)).trans hcs.2.1
        have c2 := (hrow.cellAt (k * 3 + 2) (by omega)).trans hcs.2.2
        have hgl := (hrow.lt g rfl).2
        have Ht := hide (take_snoc_get ht)
        have Hp := hide (take_snoc_get hp)
        have hk0 : (0 : Int) ≤ (k : Int) := Int.natCast_nonneg _
        have hcw2 : c < w2.heap.size := by omega
        have hT1 : wr.ownsRow w.heap.size 9 1 (.slice (some ⟨g2, 0, none⟩) l.length tc) l.length (strCells (Th.texts l)) := by
          have := hT0.kept hg (own_ne hT0 hcl)
          simpa [Th.texts] using this
        have hcap2 : l.length ≤ tc := by
          rcases hT1.2 with ⟨h0, _⟩ | ⟨_, _, _, h0, _, _, hn, _⟩
          · cases h0
          · cases h0; exact hn
        have hk1 : (k : Int) ≤ (tc : Int) := by omega
        have hT2 := own_take hT1 (i := k) (by omega)
        rw [strCells_take] at hT2
        have HT3 : Hid (wr.ownsRow w.heap.size 9 1 (.slice (some ⟨g2, 0, none⟩) k tc) (Th.texts (l.take k)).length (strCells (Th.texts (l.take k)))) := hide (by
          rw [show (Th.texts (l.take k)).length = k by simp [Th.texts]; omega]
          exact hT2)
        have CON := hide (fun (W : World) (hW : Chk W c (after o (Th.wbinds (Th.wrongs n) (if true then around ++ Th.texts l else around) [] (l.take k) (parts.take k)))) (hR : W.ownsRow w.heap.size 9 1 (.slice (some ⟨g2, 0, none⟩) k tc) (Th.texts (l.take k)).length (strCells (Th.texts (l.take k)))) => fresh_any hW ⟨t.s.toArray⟩ t.at_ hR (by simp [Th.texts]; omega))
        have Hd : Hid (Th.wbinds (Th.wrongs n) (if true then around ++ Th.texts l else around) [] (l.take (k + 1)) (parts.take (k + 1)) = Th.wbinds (Th.wrongs n) (if true then around ++ Th.texts l else around) [] (l.take k) (parts.take k) ++ ((if (Th.texts (l.take k)).contains t.s then [t.at_] else []) ++ Th.wrongs n p (if true then around ++ Th.texts l else around))) := hide (by
          rw [unhide Ht, unhide Hp, wbinds_snoc _ _ _ _ _ _ _ (by have := unhide H3; simp; omega)]
          simp)
        have HREP := hide hrep
        have HP := hide hp
        have hcr : Hid (c ≠ wr.heap.size) := hide (by omega)
        clear hch hg ht hp hpv hcs hrow hT0 hT1 hT2 hrep e0 e1 e2 hss hsn HSEEN
        go_wp2_with fail
        go_region_with (go_at_call 69; refine (unhide CON _ ?_ ?_).mono ?_; exact Blk.drew (Blk.alloc (unhide Hch) _); exact ((unhide HT3).alloc _).drew; rintro e w3 ⟨rfl, h3, hg3⟩; have H3' := hide h3; have HG3 := hide hg3; have p2 : w3.cell? ⟨wr.heap.size, 2, none⟩ = some (.iface pt px) := Blk.cell (Blk.grown (Blk.drew (Blk.new wr [.string ⟨t.s.toArray⟩, .int .i64 t.at_, .iface pt px] 312)) hg3 (by intro h; injection h with h; exact unhide hcr h.symm)) 2; clear h3 hg3)
        all_goals
          have HG4 := hide (gb_trans (gb_trans (gb_trans (unhide Hg) (gb_alloc _ _ _)) (gb_drew _ _)) (unhide HG3))
          obtain ⟨lo', hi', hin, hbd⟩ := (unhide HB).2.2 k p (unhide HP)
          have HX3 := hide (unhide HX w3 c _ _ p _ _ S B m lo' hi' (unhide H3') ((unhide HREP).gb (gb_trans (gb_trans (gb_alloc _ _ _) (gb_drew _ _)) (unhide HG3)) (fun j hj => by cases hj; exact (unhide HI).2.2.1)) hin ((unhide HB).1.gb (unhide HG4) (fun j hj => by cases hj; exact (unhide HB).2.1)) (unhide HI).2.2.1 (unhide HB).2.1 hbd)
          clear hin hbd
          go_wp2_with fail
          refine (unhide HX3).mono ?_
          rintro en w5 ⟨rfl, hc5, hg5⟩
          have H5' := hide (And.intro hc5 hg5)
          clear hc5 hg5 p2
          go_wp2_with fail
          go_roundg (l.length - (k + 1))
          case measure => omega
          case rel =>
            refine ⟨k + 1, by go_num, by omega, Nat.le_refl _, ?_, gb_trans (unhide HG4) (unhide H5').2⟩
            rw [unhide Hd, after_append, after_append]
            exact (unhide H5').1
      · have hk2 : k = l.length := by omega
        have Hk := hide hk2
        have hE3 := (unhide HE2).grown hg (by intro h; injection h with h; omega)
        have e3 := Blk.cell hE3 2
        simp at e3
        clear hch hg hk2 e0 e1 e2 hE3 HSEEN
        have HG4 := hide (gb_trans (unhide HG2) (unhide Hg))
        have HX3 := hide (unhide HX wr c _ _ b _ _ S _ m mid hi (unhide Hch) ((unhide H7).gb (unhide HG4) (fun j hj => by cases hj; exact (unhide HI).2.2.1)) (unhide HI).2.1 ((unhide HK).gb (unhide Hg) (fun j hj => by cases hj; exact hKc)) (unhide HI).2.2.1 hKc (unhide HL).1)
        go_wp2_with fail
        refine (unhide HX3).mono ?_
        rintro en w5 ⟨rfl, hc5, hg5⟩
        have H5' := hide (And.intro hc5 hg5)
        clear hc5 hg5
        go_wp2_with fail
        go_end0
        refine ⟨rfl, ?_, gb_trans (unhide HG4) (unhide H5').2⟩
        have ho := (unhide H5').1
        rw [unhide Hk, List.take_of_length_le (Nat.le_refl _), List.take_of_length_le (Nat.le_of_eq (unhide H3))] at ho
        rw [after_append]
        exact ho

end Go.Proofs.YtgahgkddaljmkaaGreatDoor

namespace Go.Proofs.YtgahgkddaljmkaaGreatDoor
open Go.RowKit

theorem wr_leaf {n : Nat} {e : Th.Ex} (h : e.kind = 1 ∨ e.kind = 3) (ar : List (List UInt8)) : Th.wrongs (n + 1) e ar = [] := by
  rcases h with h | h <;> simp [Th.wrongs, h]
theorem wr_use {n : Nat} {e : Th.Ex} (h : e.kind = 2) (ar : List (List UInt8)) : Th.wrongs (n + 1) e ar = if ar.contains e.tok.s then [] else [e.tok.at_] := by simp [Th.wrongs, h]
theorem wr_two {n : Nat} {e e1 e2 : Th.Ex} (h : e.kind = 5 ∨ e.kind = 6) (hk : e.kids = [e1, e2]) (ar : List (List UInt8)) : Th.wrongs (n + 1) e ar = Th.wrongs n e1 ar ++ Th.wrongs n e2 ar := by
  rcases h with h | h <;> simp [Th.wrongs, h, hk]
theorem wr_fun {n : Nat} {e b : Th.Ex} (h : e.kind = 4) (hk : e.kids = [b]) (ar : List (List UInt8)) : Th.wrongs (n + 1) e ar = Th.dups [] e.names ++ Th.wrongs n b (ar ++ Th.texts e.names) := by simp [Th.wrongs, h, hk]
theorem wr_let {n : Nat} {e b : Th.Ex} {ps : List Th.Ex} (h : e.kind = 7 ∨ e.kind = 8) (hk : e.kids = b :: ps) (ar : List (List UInt8)) : Th.wrongs (n + 1) e ar = Th.wbinds (Th.wrongs n) (if (e.kind == 8) then ar ++ Th.texts e.names else ar) [] e.names ps ++ Th.wrongs n b (ar ++ Th.texts e.names) := by
  rcases h with h | h <;> simp [Th.wrongs, h, hk]
theorem wr_case {n : Nat} {e b : Th.Ex} {ps : List Th.Ex} (h : e.kind = 9) (hk : e.kids = b :: ps) (ar : List (List UInt8)) : Th.wrongs (n + 1) e ar = Th.wrongs n b ar ++ Th.warms (Th.wrongs n) ar e.arms ps := by simp [Th.wrongs, h, hk]

theorem ta_Number_Use (x : Value) (w : World) : (Instr.typeAssert (.iface 217 x) 91 215 true).run Tryz.prog w = .ok (.tuple #[.agg #[.string ⟨#[]⟩, .int .i64 0], .bool false]) w := by kernel_rfl
theorem ta_Number_Call (x : Value) (w : World) : (Instr.typeAssert (.iface 217 x) 91 163 true).run Tryz.prog w = .ok (.tuple #[.agg #[.nilIface, .nilIface], .bool false]) w := by kernel_rfl
theorem ta_Number_Operation (x : Value) (w : World) : (Instr.typeAssert (.iface 217 x) 91 166 true).run Tryz.prog w = .ok (.tuple #[.agg #[.string ⟨#[]⟩, .nilIface, .nilIface], .bool false]) w := by kernel_rfl
theorem ta_Number_Let (x : Value) (w : World) : (Instr.typeAssert (.iface 217 x) 91 178 true).run Tryz.prog w = .ok (.tuple #[.agg #[.bool false, .slice none 0 0, .nilIface], .bool false]) w := by kernel_rfl
theorem ta_Number_Case (x : Value) (w : World) : (Instr.typeAssert (.iface 217 x) 91 173 true).run Tryz.prog w = .ok (.tuple #[.agg #[.nilIface, .slice none 0 0], .bool false]) w := by kernel_rfl
theorem ta_Number_Lambda (x : Value) (w : World) : (Instr.typeAssert (.iface 217 x) 91 226 true).run Tryz.prog w = .ok (.tuple #[.agg #[.slice none 0 0, .nilIface], .bool false]) w := by kernel_rfl
theorem ta_Maker_Use (x : Value) (w : World) : (Instr.typeAssert (.iface 219 x) 91 215 true).run Tryz.prog w = .ok (.tuple #[.agg #[.string ⟨#[]⟩, .int .i64 0], .bool false]) w := by kernel_rfl
theorem ta_Maker_Call (x : Value) (w : World) : (Instr.typeAssert (.iface 219 x) 91 163 true).run Tryz.prog w = .ok (.tuple #[.agg #[.nilIface, .nilIface], .bool false]) w := by kernel_rfl
theorem ta_Maker_Operation (x : Value) (w : World) : (Instr.typeAssert (.iface 219 x) 91 166 true).run Tryz.prog w = .ok (.tuple #[.agg #[.string ⟨#[]⟩, .nilIface, .nilIface], .bool false]) w := by kernel_rfl
theorem ta_Maker_Let (x : Value) (w : World) : (Instr.typeAssert (.iface 219 x) 91 178 true).run Tryz.prog w = .ok (.tuple #[.agg #[.bool false, .slice none 0 0, .nilIface], .bool false]) w := by kernel_rfl
theorem ta_Maker_Case (x : Value) (w : World) : (Instr.typeAssert (.iface 219 x) 91 173 true).run Tryz.prog w = .ok (.tuple #[.agg #[.nilIface, .slice none 0 0], .bool false]) w := by kernel_rfl
theorem ta_Maker_Lambda (x : Value) (w : World) : (Instr.typeAssert (.iface 219 x) 91 226 true).run Tryz.prog w = .ok (.tuple #[.agg #[.slice none 0 0, .nilIface], .bool false]) w := by kernel_rfl
theorem ta_Use_Use (x : Value) (w : World) : (Instr.typeAssert (.iface 215 x) 91 215 true).run Tryz.prog w = .ok (.tuple #[x, .bool true]) w := by kernel_rfl
theorem ta_Call_Use (x : Value) (w : World) : (Instr.typeAssert (.iface 163 x) 91 215 true).run Tryz.prog w = .ok (.tuple #[.agg #[.string ⟨#[]⟩, .int .i64 0], .bool false]) w := by kernel_rfl
theorem ta_Call_Call (x : Value) (w : World) : (Instr.typeAssert (.iface 163 x) 91 163 true).run Tryz.prog w = .ok (.tuple #[x, .bool true]) w := by kernel_rfl
theorem ta_Operation_Use (x : Value) (w : World) : (Instr.typeAssert (.iface 166 x) 91 215 true).run Tryz.prog w = .ok (.tuple #[.agg #[.string ⟨#[]⟩, .int .i64 0], .bool false]) w := by kernel_rfl
theorem ta_Operation_Call (x : Value) (w : World) : (Instr.typeAssert (.iface 166 x) 91 163 true).run Tryz.prog w = .ok (.tuple #[.agg #[.nilIface, .nilIface], .bool false]) w := by kernel_rfl
theorem ta_Operation_Operation (x : Value) (w : World) : (Instr.typeAssert (.iface 166 x) 91 166 true).run Tryz.prog w = .ok (.tuple #[x, .bool true]) w := by kernel_rfl
theorem ta_Let_Use (x : Value) (w : World) : (Instr.typeAssert (.iface 178 x) 91 215 true).run Tryz.prog w = .ok (.tuple #[.agg #[.string ⟨#[]⟩, .int .i64 0], .bool false]) w := by kernel_rfl
theorem ta_Let_Call (x : Value) (w : World) : (Instr.typeAssert (.iface 178 x) 91 163 true).run Tryz.prog w = .ok (.tuple #[.agg #[.nilIface, .nilIface], .bool false]) w := by kernel_rfl
theorem ta_Let_Operation (x : Value) (w : World) : (Instr.typeAssert (.iface 178 x) 91 166 true).run Tryz.prog w = .ok (.tuple #[.agg #[.string ⟨#[]⟩, .nilIface, .nilIface], .bool false]) w := by kernel_rfl
theorem ta_Let_Let (x : Value) (w : World) : (Instr.typeAssert (.iface 178 x) 91 178 true).run Tryz.prog w = .ok (.tuple #[x, .bool true]) w := by kernel_rfl
theorem ta_Case_Use (x : Value) (w : World) : (Instr.typeAssert (.iface 173 x) 91 215 true).run Tryz.prog w = .ok (.tuple #[.agg #[.string ⟨#[]⟩, .int .i64 0], .bool false]) w := by kernel_rfl
theorem ta_Case_Call (x : Value) (w : World) : (Instr.typeAssert (.iface 173 x) 91 163 true).run Tryz.prog w = .ok (.tuple #[.agg #[.nilIface, .nilIface], .bool false]) w := by kernel_rfl
theorem ta_Case_Operation (x : Value) (w : World) : (Instr.typeAssert (.iface 173 x) 91 166 true).run Tryz.prog w = .ok (.tuple #[.agg #[.string ⟨#[]⟩, .nilIface, .nilIface], .bool false]) w := by kernel_rfl
theorem ta_Case_Let (x : Value) (w : World) : (Instr.typeAssert (.iface 173 x) 91 178 true).run Tryz.prog w = .ok (.tuple #[.agg #[.bool false, .slice none 0 0, .nilIface], .bool false]) w := by kernel_rfl
theorem ta_Case_Case (x : Value) (w : World) : (Instr.typeAssert (.iface 173 x) 91 173 true).run Tryz.prog w = .ok (.tuple #[x, .bool true]) w := by kernel_rfl
theorem ta_Lambda_Use (x : Value) (w : World) : (Instr.typeAssert (.iface 226 x) 91 215 true).run Tryz.prog w = .ok (.tuple #[.agg #[.string ⟨#[]⟩, .int .i64 0], .bool false]) w := by kernel_rfl
theorem ta_Lambda_Call (x : Value) (w : World) : (Instr.typeAssert (.iface 226 x) 91 163 true).run Tryz.prog w = .ok (.tuple #[.agg #[.nilIface, .nilIface], .bool false]) w := by kernel_rfl
theorem ta_Lambda_Operation (x : Value) (w : World) : (Instr.typeAssert (.iface 226 x) 91 166 true).run Tryz.prog w = .ok (.tuple #[.agg #[.string ⟨#[]⟩, .nilIface, .nilIface], .bool false]) w := by kernel_rfl
theorem ta_Lambda_Let (x : Value) (w : World) : (Instr.typeAssert (.iface 226 x) 91 178 true).run Tryz.prog w = .ok (.tuple #[.agg #[.bool false, .slice none 0 0, .nilIface], .bool false]) w := by kernel_rfl
theorem ta_Lambda_Case (x : Value) (w : World) : (Instr.typeAssert (.iface 226 x) 91 173 true).run Tryz.prog w = .ok (.tuple #[.agg #[.nilIface, .slice none 0 0], .bool false]) w := by kernel_rfl
theorem ta_Lambda_Lambda (x : Value) (w : World) : (Instr.typeAssert (.iface 226 x) 91 226 true).run Tryz.prog w = .ok (.tuple #[x, .bool true]) w := by kernel_rfl

set_option maxRecDepth 100000 in
set_option maxHeartbeats 4000000 in
theorem expr_leaf {w : World} {c : Nat} {o : Option Nat} {av : Value} {around : List (List UInt8)} {A : Nat → Prop} (hc : Chk w c o) (ha : Row A w 9 1 av around.length (strCells around)) {v : Value} (hv : (∃ n : Int, v = .iface 217 (.agg #[.int .i64 n])) ∨ ∃ a b : Int, v = .iface 219 (.agg #[.int .i64 a, .int .i64 b])) :
    Calls Tryz.prog 71 #[.pointer (some ⟨c, 0, none⟩), v, av] w fun en w' => en = .returned (.tuple #[]) ∧ Chk w' c o ∧ w.grownBy w' (some c) := by
  obtain ⟨aa, an, ac, rfl⟩ := row_slice ha
  have HC := hide hc
  clear hc ha
  rcases hv with ⟨n, rfl⟩ | ⟨a, b, rfl⟩
  · have h1 := ta_Number_Use
    have h2 := ta_Number_Call
    have h3 := ta_Number_Operation
    have h4 := ta_Number_Let
    have h5 := ta_Number_Case
    have h6 := ta_Number_Lambda
    go_enter Tryz.func71, Tryz.ntmps71
    go_wp2_with fail
    go_end0
    exact ⟨rfl, unhide HC, gb_refl _ _⟩
  · have h1 := ta_Maker_Use
    have h2 := ta_Maker_Call
    have h3 := ta_Maker_Operation
    have h4 := ta_Maker_Let
    have h5 := ta_Maker_Case
    have h6 := ta_Maker_Lambda
    go_enter Tryz.func71, Tryz.ntmps71
    go_wp2_with fail
    go_end0
    exact ⟨rfl, unhide HC, gb_refl _ _⟩

set_option maxRecDepth 100000 in
set_option maxHeartbeats 4000000 in
theorem expr_use {w : World} {c : Nat} {o : Option Nat} {av : Value} {around : List (List UInt8)} {A : Nat → Prop} (hc : Chk w c o) (ha : Row A w 9 1 av around.length (strCells around)) (hl : around.length ≤ 1000000) (s : ByteArray) (p : Nat) :
    Calls Tryz.prog 71 #[.pointer (some ⟨c, 0, none⟩), .iface 215 (.agg #[.string s, .int .i64 p]), av] w fun en w' => en = .returned (.tuple #[]) ∧ Chk w' c (after o (if around.contains s.data.toList then [] else [p])) ∧ w.grownBy w' (some c) := by
  obtain ⟨aa, an, ac, rfl⟩ := row_slice ha
  have HC := hide hc
  have HA := hide ha
  clear hc ha
  have h1 := ta_Use_Use
  cases hcn : around.contains s.data.toList
  · have HCN := hide hcn
    clear hcn
    go_enter Tryz.func71, Tryz.ntmps71
    go_wp2_with fail
    refine (contains_any ((unhide HA).1.alloc _) hl s).mono ?_
    rintro e w1 ⟨rfl, rfl⟩
    rw [unhide HCN]
    go_wp2_with fail
    refine (blame_any (Blk.alloc (unhide HC) _) s p).mono ?_
    rintro e w2 ⟨rfl, h2, hg2⟩
    have H2 := hide (And.intro h2 (gb_trans (gb_alloc _ _ _) hg2))
    clear h2 hg2
    go_wp2_with fail
    go_end0
    exact ⟨rfl, (unhide H2).1, (unhide H2).2⟩
  · have HCN := hide hcn
    clear hcn
    go_enter Tryz.func71, Tryz.ntmps71
    go_wp2_with fail
    refine (contains_any ((unhide HA).1.alloc _) hl s).mono ?_
    rintro e w1 ⟨rfl, rfl⟩
    rw [unhide HCN]
    go_wp2_with fail
    go_end0
    refine ⟨rfl, ?_, gb_alloc _ _ _⟩
    rw [after_nil]
    exact Blk.alloc (unhide HC) _

set_option maxRecDepth 100000 in
set_option maxHeartbeats 4000000 in
theorem expr_call {n : Nat} (hx : ScOK n) {w : World} {c : Nat} {o : Option Nat} {v1 v2 av : Value} {e1 e2 : Th.Ex} {around : List (List UInt8)} {S A : Nat → Prop} {m lo mid hi : Nat} 
    (hc : Chk w c o) (hr1 : Rep S w m v1 e1) (hr2 : Rep S w m v2 e2) (h1 : Th.In n e1 lo mid) (h2 : Th.In n e2 mid hi) (ha : Row A w 9 1 av around.length (strCells around)) (hS : ¬ S c) (hA : ¬ A c) (hb : around.length + (hi - lo) ≤ 1000000) :
    Calls Tryz.prog 71 #[.pointer (some ⟨c, 0, none⟩), .iface 163 (.agg #[ v1, v2]), av] w fun en w' => en = .returned (.tuple #[]) ∧ Chk w' c (after o (Th.wrongs n e1 around ++ Th.wrongs n e2 around)) ∧ w.grownBy w' (some c) := by
  obtain ⟨aa, an, ac, rfl⟩ := row_slice ha
  obtain ⟨t1, x1, rfl⟩ := rep_iface hr1
  obtain ⟨t2, x2, rfl⟩ := rep_iface hr2
  have hl1 := h1.le
  have hl2 := h2.le
  have hcl := hc.lt
  have g1 := ta_Call_Use
  have g2 := ta_Call_Call
  have g3 := ta_Operation_Operation
  have hg0 := gb_alloc w (.cells #[ .iface t1 x1, .iface t2 x2] 163) (some c)
  have hE := Blk.new w [ .iface t1 x1, .iface t2 x2] 163
  have CON1 := hide (hx _ c o _ e1 _ around S A m lo mid (hc.gb (gb_alloc w (.cells #[ .iface t1 x1, .iface t2 x2] 163) none) (by simp)) (hr1.gb hg0 (fun j hj => by cases hj; exact hS)) h1 (ha.gb hg0 (fun j hj => by cases hj; exact hA)) hS hA (by omega))
  have CON2 := hide (fun (W : World) (o' : Option Nat) (hW : Chk W c o') (hg : w.grownBy W (some c)) => hx W c o' _ e2 _ around S A m mid hi hW (hr2.gb hg (fun j hj => by cases hj; exact hS)) h2 (ha.gb hg (fun j hj => by cases hj; exact hA)) hS hA (by omega))
  have HG0 := hide hg0
  have HE := hide hE
  clear hc hr1 hr2 h1 h2 ha hS hA hx hl1 hl2 hb hg0 hE
  go_enter Tryz.func71, Tryz.ntmps71
  go_wp2_with fail
  refine (unhide CON1).mono ?_
  rintro en w1 ⟨rfl, hc1, hg1⟩
  have e1' := Blk.cell (Blk.grown (unhide HE) hg1 (by intro h; injection h with h; omega)) 1
  simp at e1'
  have CON3 := hide (unhide CON2 w1 _ hc1 (gb_trans (unhide HG0) hg1))
  have HG1 := hide (gb_trans (unhide HG0) hg1)
  clear hc1 hg1 CON1 CON2
  go_wp2_with fail
  refine (unhide CON3).mono ?_
  rintro en w2 ⟨rfl, hc2, hg2⟩
  have H2 := hide (And.intro hc2 hg2)
  clear hc2 hg2
  go_wp2_with fail
  go_end0
  exact ⟨rfl, by rw [after_append]; exact (unhide H2).1, gb_trans (unhide HG1) (unhide H2).2⟩

set_option maxRecDepth 100000 in
set_option maxHeartbeats 4000000 in
theorem expr_op {n : Nat} (hx : ScOK n) {w : World} {c : Nat} {o : Option Nat} {v1 v2 av : Value} {e1 e2 : Th.Ex} {around : List (List UInt8)} {S A : Nat → Prop} {m lo mid hi : Nat} (s : ByteArray)
    (hc : Chk w c o) (hr1 : Rep S w m v1 e1) (hr2 : Rep S w m v2 e2) (h1 : Th.In n e1 lo mid) (h2 : Th.In n e2 mid hi) (ha : Row A w 9 1 av around.length (strCells around)) (hS : ¬ S c) (hA : ¬ A c) (hb : around.length + (hi - lo) ≤ 1000000) :
    Calls Tryz.prog 71 #[.pointer (some ⟨c, 0, none⟩), .iface 166 (.agg #[.string s , v1, v2]), av] w fun en w' => en = .returned (.tuple #[]) ∧ Chk w' c (after o (Th.wrongs n e1 around ++ Th.wrongs n e2 around)) ∧ w.grownBy w' (some c) := by
  obtain ⟨aa, an, ac, rfl⟩ := row_slice ha
  obtain ⟨t1, x1, rfl⟩ := rep_iface hr1
  obtain ⟨t2, x2, rfl⟩ := rep_iface hr2
  have hl1 := h1.le
  have hl2 := h2.le
  have hcl := hc.lt
  have g1 := ta_Operation_Use
  have g2 := ta_Operation_Call
  have g3 := ta_Operation_Operation
  have hg0 := gb_alloc w (.cells #[.string s , .iface t1 x1, .iface t2 x2] 166) (some c)
  have hE := Blk.new w [.string s , .iface t1 x1, .iface t2 x2] 166
  have CON1 := hide (hx _ c o _ e1 _ around S A m lo mid (hc.gb (gb_alloc w (.cells #[.string s , .iface t1 x1, .iface t2 x2] 166) none) (by simp)) (hr1.gb hg0 (fun j hj => by cases hj; exact hS)) h1 (ha.gb hg0 (fun j hj => by cases hj; exact hA)) hS hA (by omega))
  have CON2 := hide (fun (W : World) (o' : Option Nat) (hW : Chk W c o') (hg : w.grownBy W (some c)) => hx W c o' _ e2 _ around S A m mid hi hW (hr2.gb hg (fun j hj => by cases hj; exact hS)) h2 (ha.gb hg (fun j hj => by cases hj; exact hA)) hS hA (by omega))
  have HG0 := hide hg0
  have HE := hide hE
  clear hc hr1 hr2 h1 h2 ha hS hA hx hl1 hl2 hb hg0 hE
  go_enter Tryz.func71, Tryz.ntmps71
  go_wp2_with fail
  refine (unhide CON1).mono ?_
  rintro en w1 ⟨rfl, hc1, hg1⟩
  have e1' := Blk.cell (Blk.grown (unhide HE) hg1 (by intro h; injection h with h; omega)) 2
  simp at e1'
  have CON3 := hide (unhide CON2 w1 _ hc1 (gb_trans (unhide HG0) hg1))
  have HG1 := hide (gb_trans (unhide HG0) hg1)
  clear hc1 hg1 CON1 CON2
  go_wp2_with fail
  refine (unhide CON3).mono ?_
  rintro en w2 ⟨rfl, hc2, hg2⟩
  have H2 := hide (And.intro hc2 hg2)
  clear hc2 hg2
  go_wp2_with fail
  go_end0
  exact ⟨rfl, by rw [after_append]; exact (unhide H2).1, gb_trans (unhide HG1) (unhide H2).2⟩

end Go.Proofs.YtgahgkddaljmkaaGreatDoor

namespace Go.Proofs.YtgahgkddaljmkaaGreatDoor
open Go.RowKit
attribute [local go_sem ↓] Go.wp_at_zero Go.wp_at_succ

set_option maxRecDepth 100000 in
set_option maxHeartbeats 4000000 in
theorem expr_fun {n : Nat} (hx : ScOK n) {w : World} {c : Nat} {o : Option Nat} {nv v av : Value} {l : List Th.Tok} {e : Th.Ex} {around : List (List UInt8)} {S A : Nat → Prop} {m lo mid hi : Nat}
    (hc : Chk w c o) (hn : Row S w 88 2 nv l.length (namesCells l)) (hr : Rep S w m v e) (h1 : Th.Rise lo mid l) (h2 : Th.In n e mid hi) (ha : Row A w 9 1 av around.length (strCells around)) (hS : ¬ S c) (hA : ¬ A c) (hb : around.length + (hi - lo) ≤ 1000000) :
    Calls Tryz.prog 71 #[.pointer (some ⟨c, 0, none⟩), .iface 226 (.agg #[nv, v]), av] w fun en w' => en = .returned (.tuple #[]) ∧ Chk w' c (after o (Th.dups [] l ++ Th.wrongs n e (around ++ Th.texts l))) ∧ w.grownBy w' (some c) := by
  obtain ⟨aa, an, ac, rfl⟩ := row_slice ha
  obtain ⟨na, nn, nc, rfl⟩ := row_slice hn
  obtain ⟨t, x, rfl⟩ := rep_iface hr
  have g1 := ta_Lambda_Use
  have g2 := ta_Lambda_Call
  have g3 := ta_Lambda_Operation
  have g4 := ta_Lambda_Let
  have g5 := ta_Lambda_Case
  have g6 := ta_Lambda_Lambda
  have hg0 := gb_alloc w (.cells #[.slice na nn nc, .iface t x] 226) (some c)
  have CON := hide (inside_any hx (hc.gb (gb_alloc w (.cells #[.slice na nn nc, .iface t x] 226) none) (by simp)) (hn.gb hg0 (fun j hj => by cases hj; exact hS)) (hr.gb hg0 (fun j hj => by cases hj; exact hS)) h1 h2 (ha.gb hg0 (fun j hj => by cases hj; exact hA)) hS hA hb)
  have HG0 := hide hg0
  clear hc hn hr h1 h2 ha hS hA hx hb hg0
  go_enter Tryz.func71, Tryz.ntmps71
  go_wp2_with fail
  refine (unhide CON).mono ?_
  rintro en w2 ⟨rfl, hc2, hg2⟩
  have H2 := hide (And.intro hc2 hg2)
  clear hc2 hg2
  go_wp2_with fail
  go_end0
  exact ⟨rfl, (unhide H2).1, gb_trans (unhide HG0) (unhide H2).2⟩

set_option maxRecDepth 100000 in
set_option maxHeartbeats 4000000 in
theorem expr_let {n : Nat} (hx : ScOK n) {w : World} {c : Nat} {o : Option Nat} {r : Bool} {sv bv av : Value} {l : List Th.Tok} {parts : List Th.Ex} {pvs : List Value} {b : Th.Ex} {around : List (List UInt8)} {S A : Nat → Prop} {m lo mid hi : Nat}
    (hc : Chk w c o) (h3 : parts.length = l.length) (h4 : pvs.length = l.length) (h5 : Row S w 312 3 sv l.length (bindCells l pvs)) (h6 : ∀ (i : Nat) (pv : Value) (p : Th.Ex), pvs[i]? = some pv → parts[i]? = some p → Rep S w m pv p) (h7 : Rep S w m bv b)
    (h1 : Th.InBinds (Th.In n) lo mid l parts) (h2 : Th.In n b mid hi) (ha : Row A w 9 1 av around.length (strCells around)) (hS : ¬ S c) (hA : ¬ A c) (hb : around.length + (hi - lo) ≤ 1000000) :
    Calls Tryz.prog 71 #[.pointer (some ⟨c, 0, none⟩), .iface 178 (.agg #[.bool r, sv, bv]), av] w fun en w' => en = .returned (.tuple #[]) ∧ Chk w' c (after o (Th.wbinds (Th.wrongs n) (if r then around ++ Th.texts l else around) [] l parts ++ Th.wrongs n b (around ++ Th.texts l))) ∧ w.grownBy w' (some c) := by
  obtain ⟨aa, an, ac, rfl⟩ := row_slice ha
  obtain ⟨na, nn, nc, rfl⟩ := row_slice h5
  obtain ⟨t, x, rfl⟩ := rep_iface h7
  have g1 := ta_Let_Use
  have g2 := ta_Let_Call
  have g3 := ta_Let_Operation
  have g4 := ta_Let_Let
  have hg0 := gb_alloc w (.cells #[.bool r, .slice na nn nc, .iface t x] 178) (some c)
  have CON := hide (let_any (r := r) hx (hc.gb (gb_alloc w (.cells #[.bool r, .slice na nn nc, .iface t x] 178) none) (by simp)) h3 h4 (h5.gb hg0 (fun j hj => by cases hj; exact hS)) (fun i pv p hp hq => (h6 i pv p hp hq).gb hg0 (fun j hj => by cases hj; exact hS)) (h7.gb hg0 (fun j hj => by cases hj; exact hS)) h1 h2 (ha.gb hg0 (fun j hj => by cases hj; exact hA)) hS hA hb)
  have HG0 := hide hg0
  clear hc h3 h4 h5 h6 h7 h1 h2 ha hS hA hx hb hg0
  generalize (Th.wbinds (Th.wrongs n) (if r then around ++ Th.texts l else around) [] l parts ++ Th.wrongs n b (around ++ Th.texts l)) = L at CON ⊢
  go_enter Tryz.func71, Tryz.ntmps71
  go_wp2_with fail
  refine (unhide CON).mono ?_
  rintro en w2 ⟨rfl, hc2, hg2⟩
  have H2 := hide (And.intro hc2 hg2)
  clear hc2 hg2
  go_wp2_with fail
  go_end0
  exact ⟨rfl, (unhide H2).1, gb_trans (unhide HG0) (unhide H2).2⟩

theorem warms_snoc (wr : Th.Ex → List (List UInt8) → List Nat) (ar : List (List UInt8)) : ∀ (l : List (Nat × List Th.Tok)) (es : List Th.Ex) (a : Nat × List Th.Tok) (e : Th.Ex), l.length = es.length →
    Th.warms wr ar (l ++ [a]) (es ++ [e]) = Th.warms wr ar l es ++ (Th.dups [] a.2 ++ wr e (ar ++ Th.texts a.2))
  | [], [], a, e, _ => by simp [Th.warms]
  | x :: l, y :: es, a, e, h => by
    simp only [List.cons_append, Th.warms]
    rw [warms_snoc wr ar l es a e (by simpa using h)]
    simp
  | [], _ :: _, _, _, h => by simp at h
  | _ :: _, [], _, _, h => by simp at h

theorem InArms_get {n : Nat} : ∀ {lo hi : Nat} {l : List (Nat × List Th.Tok)} {es : List Th.Ex}, Th.InArms (Th.In n) lo hi l es → ∀ (k : Nat) (a : Nat × List Th.Tok) (p : Th.Ex), l[k]? = some a → es[k]? = some p → ∃ lo' m' hi', Th.Rise lo' m' a.2 ∧ Th.In n p m' hi' ∧ hi' - lo' ≤ hi - lo
  | lo, hi, [], [], _, k, a, p, ha, hp => by simp at hp
  | lo, hi, t :: r, e :: es, h, 0, a, p, ha, hp => by
    obtain ⟨m1, m2, h1, h2, h3⟩ := h
    simp only [List.getElem?_cons_zero, Option.some.injEq] at ha hp
    subst ha hp
    have := Th.InArms.len h3
    have := Th.In.le h2
    exact ⟨_, _, _, h1, h2, by omega⟩
  | lo, hi, t :: r, e :: es, h, k + 1, a, p, ha, hp => by
    obtain ⟨m1, m2, h1, h2, h3⟩ := h
    have := Th.InArms.len h3
    have := Th.In.le h2
    have := Th.Rise.len h1
    obtain ⟨lo', m', hi', h4, h5, h6⟩ := InArms_get h3 k a p (by simpa using ha) (by simpa using hp)
    exact ⟨lo', m', hi', h4, h5, by omega⟩
  | _, _, [], _ :: _, h, _, _, _, _, _ => h.elim
  | _, _, _ :: _, [], h, _, _, _, _, _ => h.elim

set_option maxRecDepth 100000 in
set_option maxHeartbeats 8000000 in
theorem expr_case {n : Nat} (hx : ScOK n) {w : World} {c : Nat} {o : Option Nat} {cv sv av : Value} {arms : List (Nat × List Th.Tok)} {bodies : List Th.Ex} {nvs bvs : List Value} {b : Th.Ex} {around : List (List UInt8)} {S A : Nat → Prop} {m lo mid hi : Nat}
    (hc : Chk w c o) (h3 : bodies.length = arms.length) (h4 : nvs.length = arms.length) (h5 : bvs.length = arms.length) (h6 : Row S w 240 3 sv arms.length (armCells arms nvs bvs)) (h7 : ∀ (i : Nat) (a : Nat × List Th.Tok) (nv : Value), arms[i]? = some a → nvs[i]? = some nv → Row S w 88 2 nv a.2.length (namesCells a.2))
    (h8 : ∀ (i : Nat) (bv : Value) (p : Th.Ex), bvs[i]? = some bv → bodies[i]? = some p → Rep S w m bv p) (h9 : Rep S w m cv b)
    (h1 : Th.In n b lo mid) (h2 : Th.InArms (Th.In n) mid hi arms bodies) (ha : Row A w 9 1 av around.length (strCells around)) (hS : ¬ S c) (hA : ¬ A c) (hb : around.length + (hi - lo) ≤ 1000000) :
    Calls Tryz.prog 71 #[.pointer (some ⟨c, 0, none⟩), .iface 173 (.agg #[cv, sv]), av] w fun en w' => en = .returned (.tuple #[]) ∧ Chk w' c (after o (Th.wrongs n b around ++ Th.warms (Th.wrongs n) around arms bodies)) ∧ w.grownBy w' (some c) := by
  have hl1 := h1.le
  have hl2 := h2.len
  have hal : arms.length ≤ 1000000 := by omega
  have hcl := hc.lt
  obtain ⟨aa, an, ac, rfl⟩ := row_slice ha
  have hss := row_shape h6
  obtain ⟨sa, sn, sc, rfl⟩ := row_slice h6
  obtain ⟨t, x, rfl⟩ := rep_iface h9
  have hsn : Hid (sn = arms.length) := hide (by
    rcases h6.1.2 with ⟨h, h0⟩ | ⟨_, _, _, h0, _⟩
    · cases h; exact h0.symm
    · cases h0; rfl)
  have g1 := ta_Case_Use
  have g2 := ta_Case_Call
  have g3 := ta_Case_Operation
  have g4 := ta_Case_Let
  have g5 := ta_Case_Case
  have hg0 := gb_alloc w (.cells #[.iface t x, .slice sa sn sc] 173) (some c)
  have HE := hide (Blk.new w [.iface t x, .slice sa sn sc] 173)
  have CON1 := hide (hx _ c o _ b _ around S A m lo mid (hc.gb (gb_alloc w (.cells #[.iface t x, .slice sa sn sc] 173) none) (by simp)) (h9.gb hg0 (fun j hj => by cases hj; exact hS)) h1 (ha.gb hg0 (fun j hj => by cases hj; exact hA)) hS hA (by omega))
  have HG0 := hide hg0
  have H3 := hide h3
  have H4 := hide h4
  have H5 := hide h5
  have H6 := hide h6
  have H7 := hide h7
  have H8 := hide h8
  have HA := hide ha
  have HI := hide (And.intro h2 (And.intro hS hA))
  have HL : Hid (around.length + (hi - mid) ≤ 1000000) := hide (by omega)
  have HX := hide hx
  clear hc h3 h4 h5 h6 h7 h8 h9 h1 h2 ha hS hA hx hb hg0 hl1 hl2
  go_enter Tryz.func71, Tryz.ntmps71
  go_wp2_with fail
  refine (unhide CON1).mono ?_
  rintro en w1 ⟨rfl, hc1, hg1⟩
  have e1 := Blk.cell (Blk.grown (unhide HE) hg1 (by intro h; injection h with h; omega)) 1
  simp at e1
  have HG1 := hide (gb_trans (unhide HG0) hg1)
  have HC1 := hide hc1
  have hsz := (gb_trans (unhide HG0) hg1).size
  clear hc1 hg1 CON1 HE HG0
  go_wp2_with fail
  have hsl := unhide hsn
  subst hsl
  go_loopg [72] arms.length (fun gk i wr => ∃ k : Nat, i = .int .i64 k ∧ k ≤ arms.length ∧ arms.length - k ≤ gk ∧ Chk wr c (after (after o (Th.wrongs n b around)) (Th.warms (Th.wrongs n) around (arms.take k) (bodies.take k))) ∧ w1.grownBy wr (some c))
  case atStart => exact ⟨0, rfl, Nat.zero_le _, by omega, by rw [List.take_zero, List.take_zero, show Th.warms (Th.wrongs n) around [] [] = [] from rfl, after_nil]; exact unhide HC1, gb_refl _ _⟩
  case round =>
    obtain ⟨k, rfl, hk, hgk, hch, hg⟩ := hrel
    have Hch := hide hch
    have Hg := hide hg
    have hsz := hg.size
    by_cases hlt : k < arms.length
    · obtain ⟨g, hsa⟩ : ∃ g, sa = some ⟨g, 0, none⟩ := by
        rcases hss with h | ⟨g, cap, h⟩
        · have := (Value.slice.inj h).2.1
          omega
        · exact ⟨g, (Value.slice.inj h).1⟩
      subst hsa
      obtain ⟨a, hak⟩ : ∃ a, arms[k]? = some a := ⟨arms[k], List.getElem?_eq_getElem hlt⟩
      obtain ⟨p, hp⟩ : ∃ p, bodies[k]? = some p := ⟨_, List.getElem?_eq_getElem (by rw [unhide H3]; exact hlt)⟩
      obtain ⟨nv, hnv⟩ : ∃ nv, nvs[k]? = some nv := ⟨_, List.getElem?_eq_getElem (by rw [unhide H4]; exact hlt)⟩
      obtain ⟨bv, hbv⟩ : ∃ bv, bvs[k]? = some bv := ⟨_, List.getElem?_eq_getElem (by rw [unhide H5]; exact hlt)⟩
      have hgw := gb_trans (unhide HG1) hg
      have hrep := (unhide H8 k bv p hbv hp).gb hgw (fun j hj => by cases hj; exact (unhide HI).2.1)
      have hnam := (unhide H7 k a nv hak hnv).gb hgw (fun j hj => by cases hj; exact (unhide HI).2.1)
      obtain ⟨pt, px, rfl⟩ := rep_iface hrep
      obtain ⟨na, nn, nc, rfl⟩ := row_slice hnam
      have hcs := armCells_get arms nvs bvs k a _ _ hak hnv hbv
      have hrow := ((unhide H6).gb hgw (fun j hj => by cases hj; exact (unhide HI).2.1)).1
      have c0 := (hrow.cellAt (k * 3) (by omega)).trans hcs.1
      have c1 := (hrow.cellAt (k * 3 + 1) (by omega)).trans hcs.2.1
      have c2 := (hrow.cellAt (k * 3 + 2) (by omega)).trans hcs.2.2
      have hgl := (hrow.lt g rfl).2
      obtain ⟨lo', m', hi', hri, hin, hbd⟩ := InArms_get (unhide HI).1 k a p hak hp
      have hg5 := gb_alloc wr (.cells #[.int .i64 a.1, .slice na nn nc, .iface pt px] 240) (some c)
      have CON := hide (inside_any (unhide HX) (hch.gb (gb_alloc wr (.cells #[.int .i64 a.1, .slice na nn nc, .iface pt px] 240) none) (by simp)) (hnam.gb hg5 (fun j hj => by cases hj; exact (unhide HI).2.1)) (hrep.gb hg5 (fun j hj => by cases hj; exact (unhide HI).2.1)) hri hin ((unhide HA).gb (gb_trans hgw hg5) (fun j hj => by cases hj; exact (unhide HI).2.2)) (unhide HI).2.1 (unhide HI).2.2 (by have := unhide HL; omega))
      have HG5 := hide (gb_trans hg hg5)
      have Ht := hide (take_snoc_get hak)
      have Hp := hide (take_snoc_get hp)
      have Hd : Hid (Th.warms (Th.wrongs n) around (arms.take (k + 1)) (bodies.take (k + 1)) = Th.warms (Th.wrongs n) around (arms.take k) (bodies.take k) ++ (Th.dups [] a.2 ++ Th.wrongs n p (around ++ Th.texts a.2))) := hide (by
        rw [unhide Ht, unhide Hp, warms_snoc _ _ _ _ _ _ (by have := unhide H3; simp; omega)])
      clear hch hg hak hp hnv hbv hgw hrep hnam hcs hrow hri hin hbd hg5 e1 hss hsn
      go_wp2_with fail
      refine (unhide CON).mono ?_
      rintro en w5 ⟨rfl, hc5, hg5⟩
      have H5' := hide (And.intro hc5 hg5)
      clear hc5 hg5
      go_wp2_with fail
      go_roundg (arms.length - (k + 1))
      case measure => omega
      case rel =>
        refine ⟨k + 1, by go_num, by omega, Nat.le_refl _, ?_, gb_trans (unhide HG5) (unhide H5').2⟩
        rw [unhide Hd, after_append]
        exact (unhide H5').1
    · have hk2 : k = arms.length := by omega
      have Hk := hide hk2
      clear hch hg hk2
      go_wp2_with fail
      go_end0
      refine ⟨rfl, ?_, gb_trans (unhide HG1) (unhide Hg)⟩
      have ho := unhide Hch
      rw [unhide Hk, List.take_of_length_le (Nat.le_refl _), List.take_of_length_le (Nat.le_of_eq (unhide H3))] at ho
      rw [after_append]
      exact ho

theorem expr_all : ∀ (n : Nat), ScOK n
  | 0 => fun _ _ _ _ _ _ _ _ _ _ _ _ _ _ h => h.elim
  | n + 1 => fun w c o v e av around S A m lo hi hc hr hin ha hS hA hb => by
    have ih := expr_all n
    rcases m with _ | m
    · exact hr.elim
    obtain ⟨hle, hin⟩ := hin
    rcases hr with ⟨hk, rfl⟩ | ⟨hk, rfl⟩ | ⟨hk, rfl⟩ | ⟨hk, sv, bv, b, h1, rfl, h3, h4⟩ | ⟨hk, v1, v2, e1, e2, h1, rfl, h3, h4⟩ | ⟨hk, v1, v2, e1, e2, h1, rfl, h3, h4⟩ | ⟨hk, sv, bv, b, parts, pvs, h1, rfl, h3, h4, h5, h6, h7⟩ | ⟨hk, cv, sv, b, bodies, nvs, bvs, h1, rfl, h3, h4, h5, h6, h7, h8, h9⟩
    · rw [wr_leaf (.inl hk), after_nil]
      exact expr_leaf hc ha (.inl ⟨_, rfl⟩)
    · rw [wr_use hk]
      exact expr_use hc ha (by omega) ⟨e.tok.s.toArray⟩ e.tok.at_
    · rw [wr_leaf (.inr hk), after_nil]
      exact expr_leaf hc ha (.inr ⟨_, _, rfl⟩)
    · rw [wr_fun hk h1]
      rcases hin with h | h | ⟨_, b', mid, i1, i2, i3⟩ | ⟨h, _⟩ | ⟨h, _⟩ | ⟨h, _⟩
      · omega
      · omega
      · rw [h1] at i1
        cases i1
        exact expr_fun ih hc h3 h4 i2 i3 ha hS hA hb
      · omega
      · omega
      · omega
    · rw [wr_two (.inl hk) h1]
      rcases hin with h | h | ⟨h, _⟩ | ⟨_, a1, a2, mid, i1, i2, i3⟩ | ⟨h, _⟩ | ⟨h, _⟩
      · omega
      · omega
      · omega
      · rw [h1] at i1
        cases i1
        exact expr_call ih hc h3 h4 i2 i3 ha hS hA hb
      · omega
      · omega
    · rw [wr_two (.inr hk) h1]
      rcases hin with h | h | ⟨h, _⟩ | ⟨_, a1, a2, mid, i1, i2, i3⟩ | ⟨h, _⟩ | ⟨h, _⟩
      · omega
      · omega
      · omega
      · rw [h1] at i1
        cases i1
        exact expr_op ih _ hc h3 h4 i2 i3 ha hS hA hb
      · omega
      · omega
    · rw [wr_let hk h1]
      rcases hin with h | h | ⟨h, _⟩ | ⟨h, _⟩ | ⟨_, b', ps, mid, i1, i2, i3⟩ | ⟨h, _⟩
      · omega
      · omega
      · omega
      · omega
      · rw [h1] at i1
        cases i1
        exact expr_let ih hc h3 h4 h5 h6 h7 i2 i3 ha hS hA hb
      · omega
    · rw [wr_case hk h1]
      rcases hin with h | h | ⟨h, _⟩ | ⟨h, _⟩ | ⟨h, _⟩ | ⟨_, b', ps, mid, i1, i2, i3⟩
      · omega
      · omega
      · omega
      · omega
      · omega
      · rw [h1] at i1
        cases i1
        exact expr_case ih hc h3 h4 h5 h6 h7 h8 h9 i2 i3 ha hS hA hb

end Go.Proofs.YtgahgkddaljmkaaGreatDoor

namespace Go.Proofs.YtgahgkddaljmkaaGreatDoor
open Go.RowKit
attribute [local go_sem ↓] Go.wp_at_zero Go.wp_at_succ

/-- The names of lines stand in the order of the source. -/
def Th.InLines (n : Nat) : Nat → Nat → List Th.Line → Prop
  | lo, hi, [] => lo ≤ hi
  | lo, hi, x :: r => lo ≤ x.name.at_ ∧ ∃ m1 m2, Th.Rise (x.name.at_ + 1) m1 x.params ∧ Th.In n x.e m1 m2 ∧ Th.InLines n m2 hi r

theorem InLines_len {n : Nat} : ∀ {lo hi : Nat} {l : List Th.Line}, Th.InLines n lo hi l → lo + l.length ≤ hi
  | lo, hi, [], h => h
  | lo, hi, x :: r, h => by
    obtain ⟨h0, m1, m2, h1, h2, h3⟩ := h
    have := InLines_len h3
    have := Th.In.le h2
    have := Th.Rise.len h1
    simp
    omega

theorem InLines_get {n : Nat} : ∀ {lo hi : Nat} {l : List Th.Line}, Th.InLines n lo hi l → ∀ (k : Nat) (x : Th.Line), l[k]? = some x → ∃ m0 m1 m2, Th.Rise m0 m1 x.params ∧ Th.In n x.e m1 m2 ∧ m2 - m0 ≤ hi - lo
  | lo, hi, [], _, k, x, hx => by simp at hx
  | lo, hi, y :: r, h, 0, x, hx => by
    obtain ⟨h0, m1, m2, h1, h2, h3⟩ := h
    simp only [List.getElem?_cons_zero, Option.some.injEq] at hx
    subst hx
    have := InLines_len h3
    have := Th.In.le h2
    have := Th.Rise.len h1
    exact ⟨_, _, _, h1, h2, by omega⟩
  | lo, hi, y :: r, h, k + 1, x, hx => by
    obtain ⟨h0, m1, m2, h1, h2, h3⟩ := h
    have := Th.In.le h2
    have := Th.Rise.len h1
    obtain ⟨a, b, c, i1, i2, i3⟩ := InLines_get h3 k x (by simpa using hx)
    exact ⟨a, b, c, i1, i2, by omega⟩

theorem wlines_snoc (n : Nat) (all : List (List UInt8)) : ∀ (seen : List (List UInt8)) (l : List Th.Line) (x : Th.Line), Th.wlines n all seen (l ++ [x]) = Th.wlines n all seen l ++ ((if (seen ++ Th.fnames l).contains x.name.s then [x.name.at_] else []) ++ Th.dups [] x.params ++ Th.wrongs n x.e (all ++ Th.texts x.params))
  | seen, [], x => by simp [Th.wlines, Th.fnames]
  | seen, y :: l, x => by
    simp only [List.cons_append, Th.wlines]
    rw [wlines_snoc n all (seen ++ [y.name.s]) l x]
    simp [Th.fnames]

theorem below_new {w w' : World} {o : Obj} (h : (w.alloc o).grownBy w' (some w.heap.size)) : Below w.heap.size w w' :=
  ⟨h.os, h.tape, h.output, Nat.le_trans (gb_alloc w o none).size h.size, fun k hk => (h.block k (Nat.lt_of_lt_of_le hk (gb_alloc w o none).size) (by intro e; injection e with e; omega)).trans ((gb_alloc w o none).block k hk (by simp))⟩

set_option maxRecDepth 100000 in
set_option maxHeartbeats 8000000 in
theorem firstWrong_any {n : Nat} {w : World} {pv : Value} {l : List Th.Line} {nvs bvs : List Value} {S1 S2 : Nat → Prop} {m lo hi : Nat}
    (hr : Row S1 w 93 4 pv l.length (lineCells l nvs bvs)) (h1 : nvs.length = l.length) (h2 : bvs.length = l.length) (hrep : LinesRep S2 w m l nvs bvs) (hin : Th.InLines n lo hi l) (hb : hi - lo ≤ 100000) :
    Calls Tryz.prog 42 #[pv] w fun e w' => e = .returned (.tuple #[.int .i64 ((Th.wlines n (Th.fnames l) [] l).head?.getD 0), .bool (Th.wlines n (Th.fnames l) [] l).head?.isSome]) ∧ Below w.heap.size w w' := by
  have hl1 := InLines_len hin
  have hll : l.length ≤ 100000 := by omega
  have hr' : Row (fun b => b < w.heap.size) w 93 4 pv l.length (lineCells l nvs bvs) := hr.mono (fun k hk _ => hk)
  have hrep' : LinesRep (fun b => b < w.heap.size) w m l nvs bvs := fun i x nv bv a b c => ⟨(hrep i x nv bv a b c).1.mono (fun k hk _ => hk), (hrep i x nv bv a b c).2.mono (fun k hk _ => hk)⟩
  have hone : ∀ (i : Nat) (nv bv : Value), nvs[i]? = some nv → bvs[i]? = some bv → nv.oneCell' = true ∧ bv.oneCell' = true := fun i nv bv hp hq => by
    have : i < l.length := by rw [← h1]; exact (List.getElem?_eq_some_iff.1 hp).1
    have hh := hrep i l[i] nv bv (List.getElem?_eq_getElem this) hp hq
    refine ⟨?_, (rep_one hh.2).one⟩
    obtain ⟨_, _, _, rfl⟩ := row_slice hh.1
    rfl
  have hC : Chk (w.alloc (.cells #[.bool false, .int .i64 0] 140)) w.heap.size none := Blk.new w [.bool false, .int .i64 0] _
  have hg0 := gb_alloc w (.cells #[.bool false, .int .i64 0] 140) none
  have hfn := hide (functionNames_any (hr'.gb hg0 (by simp)) h1 h2 hone (by omega))
  have hss := row_shape hr
  obtain ⟨sa, sn, sc, rfl⟩ := row_slice hr
  have hsn : Hid (sn = l.length) := hide (by
    rcases hr.1.2 with ⟨h, h0⟩ | ⟨_, _, _, h0, _⟩
    · cases h; exact h0.symm
    · cases h0; rfl)
  have HC := hide hC
  have HR := hide hr'
  have HREP := hide hrep'
  have H1 := hide h1
  have H2 := hide h2
  have HIN := hide hin
  clear hr hr' hrep hrep' h1 h2 hin hone hC hg0 hl1
  go_enter Tryz.func42, Tryz.ntmps42
  go_wp2_with fail
  refine (unhide hfn).mono ?_
  rintro en w1 ⟨tv, rfl, htv, hb1⟩
  obtain ⟨ta, tn, tc, rfl⟩ := row_slice (Row.of_own htv)
  have hz : w.heap.size < w1.heap.size := Nat.lt_of_lt_of_le (unhide HC).lt hb1.size
  have HC1 := hide ((unhide HC).below hb1)
  have HG1 := hide (gb_trans (gb_alloc w (.cells #[.bool false, .int .i64 0] 140) (some w.heap.size)) (gb_below (some w.heap.size) hb1))
  have HG10 := hide (gb_below (some w.heap.size) hb1)
  have HT : Hid (w1.ownsRow (w.heap.size + 1) 9 1 (.slice ta tn tc) l.length (strCells (Th.fnames l))) := hide (by
    have := htv
    rw [show (w.alloc (.cells #[.bool false, .int .i64 0] 140)).heap.size = w.heap.size + 1 by simp] at this
    exact this)
  clear htv hb1 hfn HC
  go_wp2_with fail
  have hsl := unhide hsn
  subst hsl
  go_loopg [14] l.length (fun gk i wr => ∃ k : Nat, i = .int .i64 k ∧ k ≤ l.length ∧ l.length - k ≤ gk ∧ Chk wr w.heap.size (Th.wlines n (Th.fnames l) [] (l.take k)).head? ∧ w1.grownBy wr (some w.heap.size))
  case atStart => exact ⟨0, rfl, Nat.zero_le _, by omega, unhide HC1, gb_refl _ _⟩
  case round =>
    obtain ⟨k, rfl, hk, hgk, hch, hg⟩ := hrel
    have Hch := hide hch
    have Hg := hide hg
    have hsz := hg.size
    by_cases hlt : k < l.length
    · obtain ⟨g, hsa⟩ : ∃ g, sa = some ⟨g, 0, none⟩ := by
        rcases hss with h | ⟨g, cap, h⟩
        · have := (Value.slice.inj h).2.1
          omega
        · exact ⟨g, (Value.slice.inj h).1⟩
      subst hsa
      have hT0 := unhide HT
      obtain ⟨g2, hta⟩ : ∃ g2, ta = some ⟨g2, 0, none⟩ ∧ tn = l.length := by
        rcases row_shape (Row.of_own hT0) with h | ⟨g2, cap, h⟩
        · rcases hT0.2 with ⟨_, h0⟩ | ⟨_, _, _, h0, _⟩
          · omega
          · rw [h] at h0; cases h0
        · cases h; exact ⟨g2, rfl, rfl⟩
      obtain ⟨rfl, rfl⟩ := hta
      have hgw := gb_trans (unhide HG1) hg
      have hSc : ¬ ((fun b => b < w.heap.size) w.heap.size) := Nat.lt_irrefl _
      obtain ⟨x, hxk⟩ : ∃ x, l[k]? = some x := ⟨l[k], List.getElem?_eq_getElem hlt⟩
      obtain ⟨nv, hnv⟩ : ∃ nv, nvs[k]? = some nv := ⟨_, List.getElem?_eq_getElem (by rw [unhide H1]; exact hlt)⟩
      obtain ⟨bv, hbv⟩ : ∃ bv, bvs[k]? = some bv := ⟨_, List.getElem?_eq_getElem (by rw [unhide H2]; exact hlt)⟩
      have hnam := (unhide HREP k x nv bv hxk hnv hbv).1.gb hgw (fun j hj => by cases hj; exact hSc)
      have hrep := (unhide HREP k x nv bv hxk hnv hbv).2.gb hgw (fun j hj => by cases hj; exact hSc)
      obtain ⟨pt, px, rfl⟩ := rep_iface hrep
      obtain ⟨na, nn, nc, rfl⟩ := row_slice hnam
      have hcs := lineCells_get l nvs bvs k x _ _ hxk hnv hbv
      have hrow := ((unhide HR).gb hgw (fun j hj => by cases hj; exact hSc)).1
      have c0 := (hrow.cellAt (k * 4) (by omega)).trans hcs.1
      have c1 := (hrow.cellAt (k * 4 + 1) (by omega)).trans hcs.2.1
      have c2 := (hrow.cellAt (k * 4 + 2) (by omega)).trans hcs.2.2.1
      have c3 := (hrow.cellAt (k * 4 + 3) (by omega)).trans hcs.2.2.2
      have hgl := (hrow.lt g rfl).2
      obtain ⟨m0, m1, m2, hri, hin, hbd⟩ := InLines_get (unhide HIN) k x hxk
      have hcap2 : l.length ≤ tc := by
        rcases hT0.2 with ⟨h0, _⟩ | ⟨_, _, _, h0, _, _, hn, _⟩
        · cases h0
        · cases h0; exact hn
      have hk0 : (0 : Int) ≤ (k : Int) := Int.natCast_nonneg _
      have hk1 : (k : Int) ≤ (tc : Int) := by omega
      have hT1 := hT0.kept hg (own_ne hT0 (Nat.lt_succ_self _))
      have hT2 := own_take hT1 (i := k) (by omega)
      rw [show (strCells (Th.fnames l)).take k = strCells (Th.fnames (l.take k)) by simp [strCells, Th.fnames]] at hT2
      have HT3 : Hid (wr.ownsRow (w.heap.size + 1) 9 1 (.slice (some ⟨g2, 0, none⟩) k tc) (Th.fnames (l.take k)).length (strCells (Th.fnames (l.take k)))) := hide (by
        rw [show (Th.fnames (l.take k)).length = k by simp [Th.fnames]; omega]
        exact hT2)
      have HT1 : Hid (Row (fun b => w.heap.size + 1 ≤ b) wr 9 1 (.slice (some ⟨g2, 0, none⟩) l.length tc) (Th.fnames l).length (strCells (Th.fnames l))) := hide (by
        rw [show (Th.fnames l).length = l.length by simp [Th.fnames]]
        exact Row.of_own hT1)
      have CON := hide (fun (W : World) (hW : Chk W w.heap.size (Th.wlines n (Th.fnames l) [] (l.take k)).head?) (hR : W.ownsRow (w.heap.size + 1) 9 1 (.slice (some ⟨g2, 0, none⟩) k tc) (Th.fnames (l.take k)).length (strCells (Th.fnames (l.take k)))) => fresh_any hW ⟨x.name.s.toArray⟩ x.name.at_ hR (by simp [Th.fnames]; omega))
      have Ht := hide (take_snoc_get hxk)
      have Hd : Hid ((Th.wlines n (Th.fnames l) [] (l.take (k + 1))).head? = after (after (after (Th.wlines n (Th.fnames l) [] (l.take k)).head? (if (Th.fnames (l.take k)).contains x.name.s then [x.name.at_] else [])) (Th.dups [] x.params)) (Th.wrongs n x.e (Th.fnames l ++ Th.texts x.params))) := hide (by
        rw [unhide Ht, wlines_snoc, ← after_append, ← after_append]
        simp only [List.nil_append, List.append_assoc]
        cases Th.wlines n (Th.fnames l) [] (l.take k) <;> rfl)
      have hxp : x.params.length ≤ 100000 := by have := hri.len; have := hin.le; omega
      have HX := hide (fun (W : World) (o : Option Nat) (av : Value) (B : Nat → Prop) (hW : Chk W w.heap.size o) (hgW : wr.grownBy W (some w.heap.size)) (hB : Row B W 9 1 av (Th.fnames l ++ Th.texts x.params).length (strCells (Th.fnames l ++ Th.texts x.params))) (hBc : ¬ B w.heap.size) => expr_all n W w.heap.size o _ x.e av _ _ B m m1 m2 hW (hrep.gb hgW (fun j hj => by cases hj; exact hSc)) hin hB hSc hBc (by have := hri.len; simp [Th.fnames, Th.texts]; omega))
      have HD := hide (fun (W : World) (o : Option Nat) (hW : Chk W w.heap.size o) (hgW : wr.grownBy W (some w.heap.size)) => distinct_any hW (hnam.gb hgW (fun j hj => by cases hj; exact hSc)) hSc (by omega))
      have HTX := hide (fun (W : World) (hgW : wr.grownBy W (some w.heap.size)) => texts_any (hnam.gb hgW (fun j hj => by cases hj; exact hSc)) (by omega))
      have hcr : Hid (w.heap.size ≠ wr.heap.size) := hide (by omega)
      have HF := hide (Blk.new wr [.string ⟨x.name.s.toArray⟩, .int .i64 x.name.at_, .slice na nn nc, .iface pt px] 93)
      clear hch hg hxk hnv hbv hgw hrep hnam hcs hrow hri hin hbd hT0 hT1 hT2 hss hsn
      go_wp2_with fail
      go_region_with (go_at_call 69; refine (unhide CON _ ?_ ?_).mono ?_; exact Blk.drew (Blk.alloc (unhide Hch) _); exact ((unhide HT3).alloc _).drew; rintro e w3 ⟨rfl, h3, hg3⟩; have H3 := hide h3; have HG3 := hide (gb_trans (gb_trans (gb_alloc wr (.cells #[.string ⟨x.name.s.toArray⟩, .int .i64 x.name.at_, .slice na nn nc, .iface pt px] 93) _) (gb_drew _ _)) hg3); have HF3 := hide (Blk.grown (Blk.drew (unhide HF)) hg3 (by intro h; injection h with h; exact unhide hcr h.symm)); clear h3 hg3)
      all_goals
        have p2 := Blk.cell (unhide HF3) 2
        simp at p2
        go_wp2_with fail
        refine (unhide HD w3 _ (unhide H3) (unhide HG3)).mono ?_
        rintro en w4 ⟨rfl, hc4, hg4⟩
        have HG4 := hide (gb_trans (unhide HG3) hg4)
        have HF4 := hide (Blk.grown (unhide HF3) hg4 (by intro h; injection h with h; exact unhide hcr h.symm))
        have HC4 := hide hc4
        have q2 := Blk.cell (unhide HF4) 2
        have q3 := Blk.cell (unhide HF4) 3
        have hs4 := (unhide HF4).lt
        simp at q2 q3
        clear hc4 hg4 p2 H3 HG3 HF3 HD c0 c1 c2 c3
        go_wp2_with fail
        go_region_with (first
          | (go_at_call 52; refine (unhide HTX _ ?_).mono ?_; exact gb_trans (unhide HG4) (gb_drew _ _); rintro en5 w5 ⟨tv5, rfl, h5, b5⟩; obtain ⟨xa, xn, xc, rfl⟩ := row_slice (Row.of_own h5); have HG5 := hide (gb_trans (gb_trans (unhide HG4) (gb_drew _ _)) (gb_below (some w.heap.size) b5)); have HC5 := hide ((Blk.drew (unhide HC4)).below b5 (unhide HC4).lt); have HF5 := hide ((Blk.drew (unhide HF4)).below b5 hs4); have r3 := Blk.cell (unhide HF5) 3; have hs5 : w4.heap.size ≤ w5.heap.size := b5.size; have hl5 : wr.heap.size < w5.heap.size := Nat.lt_of_lt_of_le hs4 hs5; have HT5 : Hid (w5.ownsRow w4.heap.size 9 1 (.slice xa xn xc) (Th.texts x.params).length (strCells (Th.texts x.params))) := hide (by simpa [Th.texts] using h5); simp at r3; clear h5 b5)
          | (go_at_call 72; refine (concat_new ((unhide HT1).gb (unhide HG5) (fun j hj => by cases hj; exact Nat.not_succ_le_self _)) (Row.of_own (unhide HT5)) (by simp [Th.fnames]; omega) (by simp [Th.texts]; omega)).mono ?_; rintro en6 w6 ⟨ka, kn, kc, rfl, h6, b6⟩; have HG6 := hide (gb_trans (unhide HG5) (gb_below (some w.heap.size) b6)); have HC6 := hide ((unhide HC5).below b6 (unhide HC5).lt); have HK6 := hide h6; have s3 := Blk.cell ((unhide HF5).below b6 (unhide HF5).lt) 3; simp at s3; clear h6 b6)
          | (go_at_call 71; refine (unhide HX w6 _ _ _ (unhide HC6) (unhide HG6) (unhide HK6) ?_).mono ?_; exact fun (h : w5.heap.size ≤ w.heap.size) => absurd h (by omega); rintro en7 w7 ⟨rfl, h7, g7⟩; have HC7 := hide h7; have HG7 := hide (gb_trans (unhide HG6) g7); clear h7 g7))
        all_goals
          go_wp2_with fail
          go_roundg (l.length - (k + 1))
          case measure => omega
          case rel =>
            refine ⟨k + 1, by go_num, by omega, Nat.le_refl _, ?_, gb_trans (unhide Hg) (unhide HG7)⟩
            rw [unhide Hd]
            exact unhide HC7
    · have hk2 : k = l.length := by omega
      have Hk := hide hk2
      have c0 := Blk.cell hch 0
      have c1 := Blk.cell hch 1
      simp at c0 c1
      have HG9 := hide (below_new (o := .cells #[.bool false, .int .i64 0] 140) (gb_trans (unhide HG10) hg))
      rw [hk2, List.take_of_length_le (Nat.le_refl _)] at c0 c1
      obtain ⟨hd, hhd⟩ : ∃ hd, (Th.wlines n (Th.fnames l) [] l).head? = hd := ⟨_, rfl⟩
      rw [hhd] at c0 c1
      have HHD := hide hhd
      clear hhd
      clear hch hg hk2 Hch
      cases hd
      all_goals
        simp at c0 c1
        go_wp2_with fail
        go_region_with fail
        all_goals
          go_wp2_with fail
          go_ret2
          refine ⟨by rw [unhide HHD]; kernel_rfl, below_gb (gb_trans (gb_below none (unhide HG9)) (gb_drew _ _))⟩

end Go.Proofs.YtgahgkddaljmkaaGreatDoor

namespace Go.Proofs.YtgahgkddaljmkaaGreatDoor
open Go.RowKit
attribute [local go_sem ↓] Go.wp_at_zero Go.wp_at_succ

/-- The first main has no parameters. -/
def Th.firstMain : List Th.Line → Bool
  | [] => false
  | x :: r => if x.name.s == Th.sMain then x.params.isEmpty else Th.firstMain r

theorem firstMain_at : ∀ (l : List Th.Line) (k : Nat) (x : Th.Line), (∀ y ∈ l.take k, y.name.s ≠ Th.sMain) → l[k]? = some x → x.name.s = Th.sMain → Th.firstMain l = x.params.isEmpty
  | [], k, x, _, h, _ => by simp at h
  | y :: l, 0, x, _, h, hx => by
    simp only [List.getElem?_cons_zero, Option.some.injEq] at h
    subst h
    simp [Th.firstMain, hx]
  | y :: l, k + 1, x, hn, h, hx => by
    have h1 : y.name.s ≠ Th.sMain := hn y (by simp)
    simp only [Th.firstMain]
    rw [if_neg (by simpa using h1)]
    exact firstMain_at l k x (fun z hz => hn z (by simp [hz])) (by simpa using h) hx

theorem firstMain_none : ∀ (l : List Th.Line), (∀ y ∈ l, y.name.s ≠ Th.sMain) → Th.firstMain l = false
  | [], _ => rfl
  | y :: l, hn => by
    have h1 : y.name.s ≠ Th.sMain := hn y (by simp)
    simp only [Th.firstMain]
    rw [if_neg (by simpa using h1)]
    exact firstMain_none l (fun z hz => hn z (by simp [hz]))

set_option maxRecDepth 100000 in
set_option maxHeartbeats 8000000 in
theorem hasMain_any {w : World} {pv : Value} {l : List Th.Line} {nvs bvs : List Value} {S1 S2 : Nat → Prop} {m : Nat}
    (hr : Row S1 w 93 4 pv l.length (lineCells l nvs bvs)) (h1 : nvs.length = l.length) (h2 : bvs.length = l.length) (hrep : LinesRep S2 w m l nvs bvs) (hll : l.length ≤ 100000) :
    Calls Tryz.prog 43 #[pv] w fun e w' => e = .returned (.bool (Th.firstMain l)) ∧ Below w.heap.size w w' := by
  have hss := row_shape hr
  obtain ⟨sa, sn, sc, rfl⟩ := row_slice hr
  have hsn : Hid (sn = l.length) := hide (by
    rcases hr.1.2 with ⟨h, h0⟩ | ⟨_, _, _, h0, _⟩
    · cases h; exact h0.symm
    · cases h0; rfl)
  have HR := hide hr
  have HREP := hide hrep
  have H1 := hide h1
  have H2 := hide h2
  clear hr hrep h1 h2
  go_enter Tryz.func43, Tryz.ntmps43
  go_wp2_with fail
  have hsl := unhide hsn
  subst hsl
  go_loopg [7] l.length (fun gk i wr => ∃ k : Nat, i = .int .i64 k ∧ k ≤ l.length ∧ l.length - k ≤ gk ∧ (∀ y ∈ l.take k, y.name.s ≠ Th.sMain) ∧ Below w.heap.size w wr)
  case atStart => exact ⟨0, rfl, Nat.zero_le _, by omega, by simp, Below.refl _ _⟩
  case round =>
    obtain ⟨k, rfl, hk, hgk, hnm, hg⟩ := hrel
    have Hg := hide hg
    have HNM := hide hnm
    have hsz := hg.size
    by_cases hlt : k < l.length
    · obtain ⟨g, hsa⟩ : ∃ g, sa = some ⟨g, 0, none⟩ := by
        rcases hss with h | ⟨g, cap, h⟩
        · have := (Value.slice.inj h).2.1
          omega
        · exact ⟨g, (Value.slice.inj h).1⟩
      subst hsa
      obtain ⟨x, hxk⟩ : ∃ x, l[k]? = some x := ⟨l[k], List.getElem?_eq_getElem hlt⟩
      obtain ⟨nv, hnv⟩ : ∃ nv, nvs[k]? = some nv := ⟨_, List.getElem?_eq_getElem (by rw [unhide H1]; exact hlt)⟩
      obtain ⟨bv, hbv⟩ : ∃ bv, bvs[k]? = some bv := ⟨_, List.getElem?_eq_getElem (by rw [unhide H2]; exact hlt)⟩
      have hgw := gb_below none hg
      have hnam := (unhide HREP k x nv bv hxk hnv hbv).1.gb hgw (by simp)
      have hrep := (unhide HREP k x nv bv hxk hnv hbv).2.gb hgw (by simp)
      obtain ⟨pt, px, rfl⟩ := rep_iface hrep
      obtain ⟨na, nn, nc, rfl⟩ := row_slice hnam
      have hnn : nn = x.params.length := by
        rcases hnam.1.2 with ⟨h, h0⟩ | ⟨_, _, _, h0, _⟩
        · cases h; exact h0.symm
        · cases h0; rfl
      have hcs := lineCells_get l nvs bvs k x _ _ hxk hnv hbv
      have hrow := ((unhide HR).gb hgw (by simp)).1
      have c0 := (hrow.cellAt (k * 4) (by omega)).trans hcs.1
      have c1 := (hrow.cellAt (k * 4 + 1) (by omega)).trans hcs.2.1
      have c2 := (hrow.cellAt (k * 4 + 2) (by omega)).trans hcs.2.2.1
      have c3 := (hrow.cellAt (k * 4 + 3) (by omega)).trans hcs.2.2.2
      have hgl := (hrow.lt g rfl).2
      have HXK := hide hxk
      by_cases hx : x.name.s = Th.sMain
      · have HX := hide hx
        have hpe : Hid (x.params.isEmpty = decide (nn = 0)) := hide (by rw [hnn]; cases x.params <;> rfl)
        rw [show (x.name.s.toArray) = #[109, 97, 105, 110] by rw [hx]; rfl] at c0
        clear hnm hg hxk hnv hbv hgw hrep hnam hcs hrow hss hsn hx hnn
        go_wp2_with fail
        go_ret
        refine ⟨?_, below_gb (gb_trans (gb_below none (unhide Hg)) (gb_alloc _ _ _))⟩
        rw [firstMain_at l k x (unhide HNM) (unhide HXK) (unhide HX), unhide hpe]
        show Ending.returned (.bool ((nn : Int) == 0)) = Ending.returned (.bool (decide (nn = 0)))
        congr 2
        rw [Bool.eq_iff_iff]
        simp
      · have HX := hide hx
        have hne : (x.name.s == [109, 97, 105, 110]) = false := by
          rw [beq_eq_false_iff_ne]
          exact hx
        have Ht := hide (take_snoc_get hxk)
        clear hnm hg hxk hnv hbv hgw hrep hnam hcs hrow hss hsn hx hnn
        go_wp2_with fail
        go_roundg (l.length - (k + 1))
        case measure => omega
        case rel =>
          refine ⟨k + 1, by go_num, by omega, Nat.le_refl _, ?_, below_gb (gb_trans (gb_below none (unhide Hg)) (gb_alloc _ _ _))⟩
          rw [unhide Ht]
          intro y hy
          rcases List.mem_append.1 hy with hy | hy
          · exact unhide HNM y hy
          · rw [List.mem_singleton.1 hy]
            exact unhide HX
    · have hk2 : k = l.length := by omega
      have Hk := hide hk2
      clear hnm hg hk2
      go_wp2_with fail
      go_ret
      refine ⟨?_, unhide Hg⟩
      have ho := unhide HNM
      rw [unhide Hk, List.take_of_length_le (Nat.le_refl _)] at ho
      rw [firstMain_none l ho]
      rfl

end Go.Proofs.YtgahgkddaljmkaaGreatDoor

namespace Go.Proofs.YtgahgkddaljmkaaGreatDoor
open Go.RowKit

/-- What is known of a source, by plain reasoning. -/
structure Plain (s : ByteArray) (q : List Th.Line × Th.St) (N : Nat) : Prop where
  good : Good (theToks s)
  ne : theToks s ≠ []
  lines : ∃ n k, n ≤ 1000000 ∧ k ≤ 1000000 ∧ Th.plines (Th.pexpr n) k [] ⟨theToks s, none⟩ = some q
  within : q.2.bad = none → ∃ lo hi, Th.InLines N lo hi q.1 ∧ hi - lo ≤ 100000

/-- What read answers to a source of at most 600 bytes: the error's number, and the place. -/
def answer (size : Nat) (q : List Th.Line × Th.St) (N : Nat) : Nat × Nat :=
  match q.2.bad with
  | some p => (2, p)
  | none => match (Th.wlines N (Th.fnames q.1) [] q.1).head? with
    | some p => (3, p)
    | none => if Th.firstMain q.1 then (0, 0) else (4, size)

def ReadPost (s : ByteArray) (q : List Th.Line × Th.St) (N : Nat) (w : World) (e : Ending) (w' : World) : Prop :=
  Below w.heap.size w w' ∧ ∃ pv, e = .returned (.tuple #[pv, .int .i64 (answer s.size q N).1, .int .i64 (answer s.size q N).2]) ∧ (∃ a k c, pv = .slice a k c) ∧ ((answer s.size q N).1 = 0 → ProgRep (Since w) w' pv q.1)

set_option maxRecDepth 100000 in
set_option maxHeartbeats 8000000 in
theorem read_long {s : ByteArray} (h : 600 < s.size) (w : World) :
    Calls Tryz.prog 33 #[.string s] w fun e w' => e = .returned (.tuple #[.slice none 0 0, .int .i64 1, .int .i64 0]) ∧ w' = w := by
  have hz : (600 : Int) < (s.size : Int) := by omega
  go_enter Tryz.func33, Tryz.ntmps33
  go_wp2_with fail
  go_ret3
  exact ⟨rfl, rfl⟩

set_option maxRecDepth 100000 in
set_option maxHeartbeats 8000000 in
theorem read_any {s : ByteArray} {q : List Th.Line × Th.St} {N : Nat} (hs : s.size ≤ 600) (hp : Plain s q N) (w : World) :
    Calls Tryz.prog 33 #[.string s] w fun e w' => ReadPost s q N w e w' := by
  have hz : ¬ ((600 : Int) < (s.size : Int)) := by omega
  obtain ⟨n, k, hn, hk, hq⟩ := hp.lines
  have CON := hide (program_any collect_ok s w hs hp.good hp.ne n k hn hk q hq)
  have HP := hide hp
  clear hp hq
  go_enter Tryz.func33, Tryz.ntmps33
  go_wp2_with fail
  refine (unhide CON).mono ?_
  rintro e w1 ⟨hb, hh⟩
  have Hb := hide hb
  clear hb CON
  rcases hh with ⟨p, hbad, rfl⟩ | ⟨hbad, pv, rfl, hrep⟩
  · have HB := hide hbad
    clear hbad
    go_wp2_with fail
    go_ret3
    refine ⟨unhide Hb, .slice none 0 0, ?_, ⟨_, _, _, rfl⟩, fun h => ?_⟩
    · simp only [answer, unhide HB]
      rfl
    · simp only [answer, unhide HB] at h
      cases h
  · have HB := hide hbad
    obtain ⟨lo, hi, hin, hbd⟩ := (unhide HP).within hbad
    obtain ⟨nvs, bvs, m, h1, h2, hrow, hlr⟩ := hrep
    obtain ⟨pa, pk, pc, rfl⟩ := row_slice hrow
    have CON1 := hide (firstWrong_any hrow h1 h2 hlr hin hbd)
    have hll : q.1.length ≤ 100000 := by have := InLines_len hin; omega
    have CON2 := hide (fun (W : World) (hW : Below w1.heap.size w1 W) => hasMain_any (hrow.gb (gb_below none hW) (by simp)) h1 h2 (fun i x nv bv a b c => ⟨(hlr i x nv bv a b c).1.gb (gb_below none hW) (by simp), (hlr i x nv bv a b c).2.gb (gb_below none hW) (by simp)⟩) hll)
    have REP := hide (fun (W : World) (hW : Below w1.heap.size w1 W) => (⟨nvs, bvs, m, h1, h2, hrow.gb (gb_below none hW) (by simp), fun i x nv bv a b c => ⟨(hlr i x nv bv a b c).1.gb (gb_below none hW) (by simp), (hlr i x nv bv a b c).2.gb (gb_below none hW) (by simp)⟩⟩ : ProgRep (Since w) W (.slice pa pk pc) q.1))
    clear hbad hin hbd hrow h1 h2 hlr hll
    go_wp2_with fail
    refine (unhide CON1).mono ?_
    rintro e w2 ⟨rfl, hb2⟩
    have Hb2 := hide hb2
    have CON3 := hide (unhide CON2 w2 hb2)
    clear hb2 CON1 CON2
    obtain ⟨hd, hhd⟩ : ∃ hd, (Th.wlines N (Th.fnames q.1) [] q.1).head? = hd := ⟨_, rfl⟩
    rw [hhd]
    have HHD := hide hhd
    clear hhd
    have HBB : Hid (Below w.heap.size w w2) := hide (below_gb (gb_trans (gb_below none (unhide Hb)) (gb_below none (unhide Hb2))))
    cases hd with
    | some p =>
      simp only [Option.getD_some, Option.isSome_some]
      go_wp2_with fail
      go_ret3
      refine ⟨unhide HBB, .slice none 0 0, ?_, ⟨_, _, _, rfl⟩, fun h => ?_⟩
      · simp only [answer, unhide HB, unhide HHD]
        rfl
      · simp only [answer, unhide HB, unhide HHD] at h
        cases h
    | none =>
      simp only [Option.getD_none, Option.isSome_none]
      go_wp2_with fail
      refine (unhide CON3).mono ?_
      rintro e w3 ⟨rfl, hb3⟩
      have HB3 : Hid (Below w.heap.size w w3) := hide (below_gb (gb_trans (gb_below none (unhide HBB)) (gb_below none hb3)))
      have HR3 := hide (unhide REP w3 (below_gb (gb_trans (gb_below none (unhide Hb2)) (gb_below none hb3))))
      clear hb3 CON3
      cases hm : Th.firstMain q.1
      · have HM := hide hm
        clear hm
        go_wp2_with fail
        go_ret3
        refine ⟨unhide HB3, .slice none 0 0, ?_, ⟨_, _, _, rfl⟩, fun h => ?_⟩
        · simp only [answer, unhide HB, unhide HHD, unhide HM]
          rfl
        · simp only [answer, unhide HB, unhide HHD, unhide HM] at h
          cases h
      · have HM := hide hm
        clear hm
        go_wp2_with fail
        go_ret3
        refine ⟨unhide HB3, .slice pa pk pc, ?_, ⟨_, _, _, rfl⟩, fun _ => unhide HR3⟩
        simp only [answer, unhide HB, unhide HHD, unhide HM]
        rfl

set_option maxRecDepth 100000 in
theorem check_long {s : ByteArray} (h : 600 < s.size) (w : World) :
    Calls Tryz.prog 28 #[.string s] w fun e w' => e = .returned (.tuple #[.int .i64 1, .int .i64 0]) ∧ Below w.heap.size w w' := by
  go_enter Tryz.func28, Tryz.ntmps28
  go_wp2_with fail
  refine (read_long h w).mono ?_
  rintro e w1 ⟨rfl, rfl⟩
  go_wp2_with fail
  go_ret2
  exact ⟨rfl, Below.refl _ _⟩

set_option maxRecDepth 100000 in
theorem check_any {s : ByteArray} {q : List Th.Line × Th.St} {N : Nat} (hs : s.size ≤ 600) (hp : Plain s q N) (w : World) :
    Calls Tryz.prog 28 #[.string s] w fun e w' => e = .returned (.tuple #[.int .i64 (answer s.size q N).1, .int .i64 (answer s.size q N).2]) ∧ Below w.heap.size w w' := by
  have CON := hide (read_any hs hp w)
  clear hp hs
  go_enter Tryz.func28, Tryz.ntmps28
  go_wp2_with fail
  refine (unhide CON).mono ?_
  rintro e w1 ⟨hb, pv, rfl, ⟨a, k, c, rfl⟩, _⟩
  have Hb := hide hb
  clear hb CON
  go_wp2_with fail
  go_ret2
  exact ⟨rfl, unhide Hb⟩

end Go.Proofs.YtgahgkddaljmkaaGreatDoor
