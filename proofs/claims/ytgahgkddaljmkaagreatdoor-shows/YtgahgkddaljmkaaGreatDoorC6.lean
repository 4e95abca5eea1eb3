/- The document's names: what is wrong in a case. -/
import Derived.Test.YtgahgkddaljmkaaGreatDoorC5
namespace Go.Proofs.YtgahgkddaljmkaaGreatDoor
open Go.RowKit
attribute [local go_sem ↓] Go.wp_at_zero Go.wp_at_succ

theorem inarms_len {n : Nat} : ∀ {lo hi : Nat} {l : List (Nat × List Th.Tok)} {es : List Th.Ex}, Th.InArms (Th.In n) lo hi l es → l.length = es.length
  | _, _, [], [], _ => rfl
  | lo, hi, t :: r, e :: es, h => by
    obtain ⟨m1, m2, h1, h2, h3⟩ := h
    simp [inarms_len h3]
  | _, _, [], _ :: _, h => h.elim
  | _, _, _ :: _, [], h => h.elim

set_option maxRecDepth 100000 in
set_option maxHeartbeats 8000000 in
theorem wrong_case {n : Nat} (hx : WrOK n) {w : World} {S A : Nat → Prop} {a : Nat} {kv lv av : Value} {around : List (List UInt8)} {arms : List (Nat × List Th.Tok)} {b : Th.Ex} {bodies : List Th.Ex} {nvs bvs : List Value} {m lo mid hi : Nat} {vs : List Value} (hb : Blk w a vs 195) (hk : vs[0]? = some (.int .i64 9)) (h6 : vs[6]? = some lv) (h10 : vs[10]? = some av)
    (d1 : DRep S w m lv b) (hp : Row S w 304 3 av arms.length (armCells arms nvs bvs)) (hn1 : nvs.length = arms.length) (hn2 : bvs.length = arms.length) (dn : ∀ (i : Nat) (a : Nat × List Th.Tok) (x : Value), arms[i]? = some a → nvs[i]? = some x → Row S w 108 4 x a.2.length (dnsCells a.2)) (dp : ∀ (i : Nat) (x : Value) (p : Th.Ex), bvs[i]? = some x → bodies[i]? = some p → DRep S w m x p)
    (hr : Row A w 9 1 kv around.length (strCells around)) (i1 : Th.In n b lo mid) (i2 : Th.InArms (Th.In n) mid hi arms bodies) (hl : around.length + (hi - lo) ≤ 1000000) :
    Calls Tryz.prog 175 #[.pointer (some ⟨a, 0, none⟩), kv] w fun en w' => WrPost w (Th.wrongs n b around ++ Th.warms (Th.wrongs n) around arms bodies) en w' := by
  have c0 := (hb.cell 0).trans hk
  have c6 := (hb.cell 6).trans h6
  have c10 := (hb.cell 10).trans h10
  have ha := hb.lt
  have hll := inarms_len i2
  have hle1 := i1.le
  have hle2 := i2.len
  obtain ⟨x1, rfl⟩ := drep_ptr d1
  obtain ⟨ka, kn, kc, rfl⟩ := row_slice hr
  have hpsh := row_shape hp
  rw [Th.warms_flat]
  obtain ⟨z, hz⟩ : ∃ z, arms.zip bodies = z := ⟨_, rfl⟩
  rw [hz]
  have hzl : z.length = arms.length := by rw [← hz, List.length_zip, ← hll]; omega
  have HZ : Hid (∀ (k : Nat) (t : Nat × List Th.Tok) (p : Th.Ex), arms[k]? = some t → bodies[k]? = some p → z[k]? = some (t, p)) := hide (fun k t p h1 h2 => by rw [← hz, List.getElem?_zip_eq_some]; exact ⟨h1, h2⟩)
  have C1 := hide (fun (W : World) (hW : Below w.heap.size w W) => hx W S A _ _ _ around _ _ _ (d1.gb (gb_below none hW) (by simp)) (hr.gb (gb_below none hW) (by simp)) i1 (by omega))
  have CA : Hid (∀ (k : Nat) (t : Nat × List Th.Tok) (p : Th.Ex) (x y : Value), arms[k]? = some t → bodies[k]? = some p → nvs[k]? = some x → bvs[k]? = some y → (∃ xa xn xc, x = .slice xa xn xc) ∧ (∃ yp, y = .pointer (some ⟨yp, 0, none⟩)) ∧ Th.IsMin (Th.hdI (Th.dups [] t.2)) (Th.dups [] t.2) ∧
      (∀ W : World, Below w.heap.size w W → Calls Tryz.prog 173 #[x] W fun e w' => e = .returned (.int .i64 (Th.hdI (Th.dups [] t.2))) ∧ Below W.heap.size W w') ∧
      (∀ W : World, Below w.heap.size w W → Calls Tryz.prog 172 #[.slice ka kn kc, x] W fun e w' => ∃ v, e = .returned v ∧ w'.ownsRow W.heap.size 9 1 v (around ++ Th.texts t.2).length (strCells (around ++ Th.texts t.2)) ∧ Below W.heap.size W w') ∧
      (∀ (W : World) (kv' : Value) (B : Nat), Below w.heap.size w W → W.ownsRow B 9 1 kv' (around ++ Th.texts t.2).length (strCells (around ++ Th.texts t.2)) → Calls Tryz.prog 175 #[y, kv'] W fun en w' => WrPost W (Th.wrongs n p (around ++ Th.texts t.2)) en w')) := hide (by
    intro k t p x y h1 h2 h3 h4
    obtain ⟨lo', m', hi', g1, g2, g3⟩ := InArms_get i2 k t p h1 h2
    have g1l := Th.Rise.len g1
    have g2l := g2.le
    have rn := dn k t x h1 h3
    refine ⟨row_slice rn, drep_ptr (dp k y p h4 h2), hdI_min g1, fun W hW => twice_any (rn.gb (gb_below none hW) (by simp)) (by omega), fun W hW => with_any W A S _ _ around t.2 (hr.gb (gb_below none hW) (by simp)) (rn.gb (gb_below none hW) (by simp)) (by omega) (by omega), fun W kv' B hW ho => hx W S _ _ _ kv' _ _ _ _ ((dp k y p h4 h2).gb (gb_below none hW) (by simp)) (Row.of_own ho) g2 (by simp [Th.texts]; omega)⟩)
  have CE := hide (fun (W : World) (hW : Below w.heap.size w W) => And.intro (cell_gb (gb_below none hW) c0 (by simp)) (And.intro (cell_gb (gb_below none hW) c6 (by simp)) (cell_gb (gb_below none hW) c10 (by simp))))
  have CROW := hide (fun (W : World) (hW : Below w.heap.size w W) => hp.1.kept (gb_below none hW) (own_none _))
  have HN := hide (And.intro hn1 (And.intro hn2 hll))
  have HPN : Hid (av = .slice none 0 0 → arms.length = 0) := hide (fun e => by
    rcases hp.1.2 with ⟨_, h0⟩ | ⟨_, _, _, h0, _⟩
    · exact h0
    · rw [e] at h0; cases h0)
  have hal : arms.length ≤ 1000000 := by omega
  clear d1 hr i1 i2 hb hk h6 h10 hx dp hp hn1 hn2 dn hz hll
  rcases hpsh with hv | ⟨pg, pc, hv⟩
  · have hl0 := unhide HPN hv
    have hz0 : z = [] := List.length_eq_zero_iff.1 (by omega)
    subst hv hz0
    go_enter Tryz.func175, Tryz.ntmps175
    go_wp2_with fail
    refine (unhide C1 _ (Below.refl _ _)).mono ?_
    rintro en w1 ⟨r1, rfl, m1, b1⟩
    have M1 := hide m1
    have HB1 := hide b1
    obtain ⟨e0, e6, e10⟩ := unhide CE w1 b1
    clear m1 b1 c0 c6 c10
    go_wp2_with fail
    refine wp_loop_rounds 1 ?_
    rw [rounds_succ]
    go_wp2_with fail
    go_ret
    exact ⟨_, rfl, by simpa using unhide M1, unhide HB1⟩
  · subst hv
    go_enter Tryz.func175, Tryz.ntmps175
    go_wp2_with fail
    refine (unhide C1 _ (Below.refl _ _)).mono ?_
    rintro en w1 ⟨r1, rfl, m1, b1⟩
    have M1 := hide m1
    have HB1 := hide b1
    clear m1 b1 c0 c6 c10
    go_wp2_with fail
    go_loopg [5, 10] arms.length (fun gk atv iv wr => ∃ (x : Int) (k : Nat), atv = .int .i64 x ∧ iv = .int .i64 k ∧ k ≤ arms.length ∧ arms.length - k ≤ gk ∧ Th.IsMin x (Th.wrongs n b around ++ (z.take k).flatMap (fun a => Th.dups [] a.1.2 ++ Th.wrongs n a.2 (around ++ Th.texts a.1.2))) ∧ Below w.heap.size w wr)
    case atStart => exact ⟨_, 0, rfl, rfl, Nat.zero_le _, by omega, by simpa using unhide M1, unhide HB1⟩
    case round =>
      obtain ⟨x, k, rfl, rfl, hk, hgk, hmin, hb⟩ := hrel
      have MK := hide hmin
      have HB := hide hb
      obtain ⟨e0, e6, e10⟩ := unhide CE wr hb
      have hrow := unhide CROW wr hb
      have hzr := hb.size
      clear hmin
      by_cases hlt : k < arms.length
      · obtain ⟨t, ht⟩ : ∃ t, arms[k]? = some t := ⟨arms[k], List.getElem?_eq_getElem hlt⟩
        obtain ⟨p, hp⟩ : ∃ p, bodies[k]? = some p := ⟨bodies[k]'(by rw [← (unhide HN).2.2]; exact hlt), List.getElem?_eq_getElem (by rw [← (unhide HN).2.2]; exact hlt)⟩
        obtain ⟨xx, hxx⟩ : ∃ y, nvs[k]? = some y := ⟨nvs[k]'(by rw [(unhide HN).1]; exact hlt), List.getElem?_eq_getElem (by rw [(unhide HN).1]; exact hlt)⟩
        obtain ⟨yy, hyy⟩ : ∃ y, bvs[k]? = some y := ⟨bvs[k]'(by rw [(unhide HN).2.1]; exact hlt), List.getElem?_eq_getElem (by rw [(unhide HN).2.1]; exact hlt)⟩
        have hc := armCells_get arms nvs bvs k t xx yy ht hxx hyy
        have y0 := (hrow.cellAt (k * 3) (by omega)).trans hc.1
        have y1 := (hrow.cellAt (k * 3 + 1) (by omega)).trans hc.2.1
        have y2 := (hrow.cellAt (k * 3 + 2) (by omega)).trans hc.2.2
        have hpg := (hrow.lt pg rfl).2
        obtain ⟨⟨xa, xn, xc, rfl⟩, ⟨yp, rfl⟩, hmn, ct, cw, cr⟩ := unhide CA k t p xx yy ht hp hxx hyy
        have HMN := hide hmn
        have CT := hide ct
        have CW := hide cw
        have CR := hide cr
        have HT := hide (take_flat (f := fun a => Th.dups [] a.1.2 ++ Th.wrongs n a.2 (around ++ Th.texts a.1.2)) (unhide HZ k t p ht hp))
        obtain ⟨x0, hx0⟩ : ∃ x0, Th.hdI (Th.dups [] t.2) = x0 := ⟨_, rfl⟩
        rw [hx0] at HMN CT
        clear hrow ht hp hxx hyy hc hmn ct cw cr hb hx0
        go_wp2_with fail
        have HBa := hide ((unhide HB).trans ((below_alloc wr (.cells #[.int .i64 t.1, .slice xa xn xc, .pointer (some ⟨yp, 0, none⟩)] 304)).mono hzr))
        have HA := hide (Blk.new wr [.int .i64 t.1, .slice xa xn xc, .pointer (some ⟨yp, 0, none⟩)] 304)
        have ACELL : Hid (∀ W : World, Below (wr.alloc (.cells #[.int .i64 t.1, .slice xa xn xc, .pointer (some ⟨yp, 0, none⟩)] 304)).heap.size (wr.alloc (.cells #[.int .i64 t.1, .slice xa xn xc, .pointer (some ⟨yp, 0, none⟩)] 304)) W → W.cell? ⟨wr.heap.size, 1, none⟩ = some (.slice xa xn xc) ∧ W.cell? ⟨wr.heap.size, 2, none⟩ = some (.pointer (some ⟨yp, 0, none⟩))) := hide (fun W hW => ⟨by simpa using ((unhide HA).below hW (by simp)).cell 1, by simpa using ((unhide HA).below hW (by simp)).cell 2⟩)
        clear e0 e6 e10 y0 y1 y2
        go_region_with (first
          | (go_at_call 173; refine (unhide CT _ ?_).mono ?_; exact (unhide HBa).drew; rintro en w3 ⟨rfl, b3⟩; have q3 := (Below.refl (wr.alloc (.cells #[.int .i64 t.1, .slice xa xn xc, .pointer (some ⟨yp, 0, none⟩)] 304)).heap.size (wr.alloc (.cells #[.int .i64 t.1, .slice xa xn xc, .pointer (some ⟨yp, 0, none⟩)] 304))).drew.trans (b3.mono (Nat.le_refl _)); have HQ3 := hide q3; have b3' : Below w.heap.size w w3 := (unhide HBa).drew.trans (b3.mono (unhide HBa).size); have HB3 := hide b3'; have hs3 := b3'.size; have a31 := (unhide ACELL w3 q3).1; have a32 := (unhide ACELL w3 q3).2; clear b3 b3' q3)
          | (go_at_call 172; refine (unhide CW _ ?_).mono ?_; exact unhide HB3; rintro en w4 ⟨v4, rfl, o4, b4⟩; obtain ⟨wa, wn, wc, rfl⟩ := own_slice o4; have HO4 := hide o4; have q4 := (unhide HQ3).trans (b4.mono (unhide HQ3).size); have b4' : Below w.heap.size w w4 := (unhide HB3).trans (b4.mono hs3); have HB4 := hide b4'; have hs4 := b4'.size; have a42 := (unhide ACELL w4 q4).2; clear b4 b4' o4 q4)
          | (go_at_call 175; refine (unhide CR _ _ _ ?_ (unhide HO4)).mono ?_; exact unhide HB4; rintro en w5 ⟨r5, rfl, m5, b5⟩; have M5 := hide m5; have HB5 := hide ((unhide HB4).trans (b5.mono hs4)); clear m5 b5)
          | (go_at_call 174; refine (least_any _ _ _).mono ?_; rintro en w6 ⟨rfl, rfl⟩))
        all_goals
          go_wp2_with fail
          go_roundg (arms.length - (k + 1))
          case measure => omega
          case rel =>
            refine ⟨_, k + 1, rfl, by go_num, by omega, Nat.le_refl _, ?_, unhide HB5⟩
            rw [unhide HT, ← List.append_assoc]
            exact Th.IsMin.least (unhide MK) (Th.IsMin.least (unhide HMN) (unhide M5))
      · have hkl : k = z.length := by omega
        have MX : Hid (Th.IsMin x (Th.wrongs n b around ++ z.flatMap (fun a => Th.dups [] a.1.2 ++ Th.wrongs n a.2 (around ++ Th.texts a.1.2)))) := hide (by
          have := unhide MK
          rw [hkl, List.take_of_length_le (Nat.le_refl _)] at this
          exact this)
        clear hrow hkl hb
        go_wp2_with fail
        go_ret
        exact ⟨_, rfl, unhide MX, unhide HB⟩

end Go.Proofs.YtgahgkddaljmkaaGreatDoor
