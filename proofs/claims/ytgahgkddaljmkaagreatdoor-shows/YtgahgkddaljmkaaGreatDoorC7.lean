/- The document's names: what is wrong in any expression. The document's names: those of a program. -/
import Derived.Test.YtgahgkddaljmkaaGreatDoorC6
import Derived.Test.YtgahgkddaljmkaaGreatDoorC1
namespace Go.Proofs.YtgahgkddaljmkaaGreatDoor
open Go.RowKit

theorem wrong_ok : ∀ n, WrOK n
  | 0 => fun _ _ _ _ _ _ _ _ _ _ _ _ h _ => h.elim
  | n + 1 => by
    intro w S A v e kv around m lo hi hd hr hin hl
    have ih := wrong_ok n
    cases m with
    | zero => exact hd.elim
    | succ m =>
      obtain ⟨a, lv, rv, nv, pv, av, rfl, hS, hB, hd⟩ := hd
      obtain ⟨hlo, h | ⟨hk, h1, h2⟩ | ⟨hk, b, mid, h1, h2, h3⟩ | ⟨hk, e1, e2, mid, h1, h2, h3⟩ | ⟨hk, b, parts, mid, h1, h2, h3⟩ | ⟨hk, b, bodies, mid, h1, h2, h3⟩⟩ := hin
      · have e0 : Th.wrongs (n + 1) e around = [] := by
          rw [Th.wrongs]
          rcases h with h | h <;> simp [h]
        rw [e0]
        exact wrong_leaf (kd := e.kind) hB rfl h
      · have e0 : Th.wrongs (n + 1) e around = if around.contains e.tok.s then [] else [e.tok.at_] := by
          rw [Th.wrongs, if_pos hk]
        rw [e0]
        have c0 := hB.cell 0
        have c1 := hB.cell 1
        have c2 := hB.cell 2
        simp only [exCells, hk] at c0 c1 c2
        exact wrong_name (by simpa using c0) (by simpa using c1) (by simpa using c2) hr (by omega)
      · have e0 : Th.wrongs (n + 1) e around = Th.dups [] e.names ++ Th.wrongs n b (around ++ Th.texts e.names) := by
          rw [Th.wrongs]
          simp [hk, h1]
        rw [e0]
        rcases hd with hd | ⟨_, b', g1, g2, g3⟩ | ⟨g, _⟩ | ⟨g, _⟩ | ⟨g, _⟩
        · omega
        · rw [h1] at g1
          cases g1
          exact wrong_fun ih hB (by simp [exCells, hk]) rfl rfl g3 g2 hr h2 h3 hl
        · omega
        · omega
        · omega
      · have e0 : Th.wrongs (n + 1) e around = Th.wrongs n e1 around ++ Th.wrongs n e2 around := by
          rw [Th.wrongs]
          rcases hk with hk | hk <;> simp [hk, h1]
        rw [e0]
        rcases hd with hd | ⟨g, _⟩ | ⟨_, e1', e2', g1, g2, g3⟩ | ⟨g, _⟩ | ⟨g, _⟩
        · omega
        · omega
        · rw [h1] at g1
          cases g1
          exact wrong_two ih (kd := e.kind) hB rfl hk rfl rfl g2 g3 hr h2 h3 hl
        · omega
        · omega
      · rcases hd with hd | ⟨g, _⟩ | ⟨g, _⟩ | ⟨_, b', parts', pvs, g1, g2, g3, g4, g5, g6, g7⟩ | ⟨g, _⟩
        · omega
        · omega
        · omega
        · rw [h1] at g1
          cases g1
          rcases hk with hk | hk
          · have e0 : Th.wrongs (n + 1) e around = Th.wbinds (Th.wrongs n) (if (false : Bool) then around ++ Th.texts e.names else around) [] e.names parts ++ Th.wrongs n b (around ++ Th.texts e.names) := by
              rw [Th.wrongs]
              simp [hk, h1]
            rw [e0]
            exact wrong_let ih (rc := false) hB (by simp [exCells, hk]) rfl rfl rfl g7 g4 g5 g3 g6 hr h2 h3 hl
          · have e0 : Th.wrongs (n + 1) e around = Th.wbinds (Th.wrongs n) (if (true : Bool) then around ++ Th.texts e.names else around) [] e.names parts ++ Th.wrongs n b (around ++ Th.texts e.names) := by
              rw [Th.wrongs]
              simp [hk, h1]
            rw [e0]
            exact wrong_let ih (rc := true) hB (by simp [exCells, hk]) rfl rfl rfl g7 g4 g5 g3 g6 hr h2 h3 hl
        · omega
      · have e0 : Th.wrongs (n + 1) e around = Th.wrongs n b around ++ Th.warms (Th.wrongs n) around e.arms bodies := by
          rw [Th.wrongs]
          simp [hk, h1]
        rw [e0]
        rcases hd with hd | ⟨g, _⟩ | ⟨g, _⟩ | ⟨g, _⟩ | ⟨_, b', bodies', nvs, bvs, g1, g2, g3, g4, g5, g6, g7, g8⟩
        · omega
        · omega
        · omega
        · omega
        · rw [h1] at g1
          cases g1
          exact wrong_case ih hB (by simp [exCells, hk]) rfl rfl g8 g5 g3 g4 g6 g7 hr h2 h3 hl

end Go.Proofs.YtgahgkddaljmkaaGreatDoor

namespace Go.Proofs.YtgahgkddaljmkaaGreatDoor
open Go.RowKit
attribute [local go_sem ↓] Go.wp_at_zero Go.wp_at_succ

theorem dlineCells_get : ∀ (l : List Th.Line) (ns vs : List Value) (i : Nat) (x : Th.Line) (n v : Value), l[i]? = some x → ns[i]? = some n → vs[i]? = some v →
    (dlineCells l ns vs)[i * 6]? = some (.string ⟨x.name.s.toArray⟩) ∧ (dlineCells l ns vs)[i * 6 + 1]? = some (.int .i64 x.name.at_) ∧ (dlineCells l ns vs)[i * 6 + 2]? = some (.int .u8 (if x.name.k = 2 then 97 else 0 : Nat)) ∧ (dlineCells l ns vs)[i * 6 + 3]? = some (.int .i64 0) ∧ (dlineCells l ns vs)[i * 6 + 4]? = some n ∧ (dlineCells l ns vs)[i * 6 + 5]? = some v
  | [], _, _, i, _, _, _, h, _, _ => by simp at h
  | _ :: _, [], _, i, _, _, _, _, h, _ => by simp at h
  | _ :: _, _ :: _, [], i, _, _, _, _, _, h => by simp at h
  | y :: l, m :: ns, z :: vs, 0, x, n, v, h, h2, h3 => by
    simp only [List.getElem?_cons_zero, Option.some.injEq] at h h2 h3
    subst h h2 h3
    exact ⟨rfl, rfl, rfl, rfl, rfl, rfl⟩
  | y :: l, m :: ns, z :: vs, i + 1, x, n, v, h, h2, h3 => by
    have ih := dlineCells_get l ns vs i x n v (by simpa using h) (by simpa using h2) (by simpa using h3)
    have e : ∀ c, (dlineCells (y :: l) (m :: ns) (z :: vs))[(i + 1) * 6 + c]? = (dlineCells l ns vs)[i * 6 + c]? := by
      intro c
      rw [dlineCells, List.getElem?_append_right (by simp [dnCells]; omega)]
      congr 1
      simp [dnCells]
      omega
    refine ⟨?_, ?_, ?_, ?_, ?_, ?_⟩
    · have := e 0; simp only [Nat.add_zero] at this; rw [this]; exact ih.1
    · rw [e 1]; exact ih.2.1
    · rw [e 2]; exact ih.2.2.1
    · rw [e 3]; exact ih.2.2.2.1
    · rw [e 4]; exact ih.2.2.2.2.1
    · rw [e 5]; exact ih.2.2.2.2.2

theorem fnames_texts (l : List Th.Line) : Th.fnames l = Th.texts (l.map (·.name)) := by simp [Th.fnames, Th.texts]

set_option maxRecDepth 100000 in
set_option maxHeartbeats 8000000 in
theorem named_any {N : Nat} {w : World} {S : Nat → Prop} {pv : Value} {l : List Th.Line} {lo hi : Nat} (hp : DProgRep S w pv l) (hin : Th.InLines N lo hi l) (hsz : hi - lo ≤ 100000) :
    Calls Tryz.prog 99 #[pv] w fun en w' => WrPost w (Th.wlines N (Th.fnames l) [] l) en w' := by
  obtain ⟨i0, hi0, hz0, hz1, hz2⟩ := info_parts infoDTok
  have HI := hide hi0; clear hi0
  have HZ := hide (And.intro hz0 (And.intro hz1 hz2)); clear hz0 hz1 hz2
  obtain ⟨nvs, bvs, m, hn1, hn2, hrow, hrep⟩ := hp
  have hll := InLines_len hin
  have hlen : l.length ≤ 100000 := by omega
  have HNAM := hide (hdI_min (Th.lines_names_rise hin))
  have HMEM := hide (fun x => Th.wlines_mem (N := N) (all := Th.fnames l) l [] x)
  have FIN : Hid (∀ x : Int, Th.IsMin x (Th.dups [] (l.map (·.name)) ++ l.flatMap (fun y => Th.dups [] y.params ++ Th.wrongs N y.e (Th.fnames l ++ Th.texts y.params))) → Th.IsMin x (Th.wlines N (Th.fnames l) [] l)) := hide (fun x h => h.same (fun y => (unhide HMEM y).symm))
  have CL : Hid (∀ (k : Nat) (y : Th.Line), l[k]? = some y → ∃ nv bv, nvs[k]? = some nv ∧ bvs[k]? = some bv ∧ (∃ xa xn xc, nv = .slice xa xn xc) ∧ (∃ yp, bv = .pointer (some ⟨yp, 0, none⟩)) ∧ Th.IsMin (Th.hdI (Th.dups [] y.params)) (Th.dups [] y.params) ∧
      (∀ W : World, Below w.heap.size w W → Calls Tryz.prog 173 #[nv] W fun e w' => e = .returned (.int .i64 (Th.hdI (Th.dups [] y.params))) ∧ Below W.heap.size W w') ∧
      (∀ (W : World) (kv : Value) (B : Nat), Below w.heap.size w W → W.ownsRow B 9 1 kv (Th.fnames l).length (strCells (Th.fnames l)) → Calls Tryz.prog 172 #[kv, nv] W fun e w' => ∃ v, e = .returned v ∧ w'.ownsRow W.heap.size 9 1 v (Th.fnames l ++ Th.texts y.params).length (strCells (Th.fnames l ++ Th.texts y.params)) ∧ Below W.heap.size W w') ∧
      (∀ (W : World) (kv' : Value) (B : Nat), Below w.heap.size w W → W.ownsRow B 9 1 kv' (Th.fnames l ++ Th.texts y.params).length (strCells (Th.fnames l ++ Th.texts y.params)) → Calls Tryz.prog 175 #[bv, kv'] W fun en w' => WrPost W (Th.wrongs N y.e (Th.fnames l ++ Th.texts y.params)) en w')) := hide (by
    intro k y hy
    have hk : k < l.length := (List.getElem?_eq_some_iff.1 hy).1
    have e1 : nvs[k]? = some (nvs[k]'(by omega)) := List.getElem?_eq_getElem _
    have e2 : bvs[k]? = some (bvs[k]'(by omega)) := List.getElem?_eq_getElem _
    obtain ⟨r1, r2⟩ := hrep k y _ _ hy e1 e2
    obtain ⟨m0, m1, m2, g1, g2, g3⟩ := InLines_get hin k y hy
    have g1l := Th.Rise.len g1
    have g2l := g2.le
    have hfl : (Th.fnames l).length ≤ 100000 := by simpa [Th.fnames] using hlen
    refine ⟨_, _, e1, e2, row_slice r1, drep_ptr r2, hdI_min g1, fun W hW => twice_any (r1.gb (gb_below none hW) (by simp)) (by omega), fun W kv B hW ho => with_any W _ S _ _ _ y.params (Row.of_own ho) (r1.gb (gb_below none hW) (by simp)) (by omega) (by omega), fun W kv' B hW ho => wrong_ok N W S _ _ _ kv' _ _ _ _ (r2.gb (gb_below none hW) (by simp)) (Row.of_own ho) g2 (by simp [Th.texts]; omega)⟩)
  have CROW := hide (fun (W : World) (hW : Below w.heap.size w W) => hrow.1.kept (gb_below none hW) (own_none _))
  have hpsh := row_shape hrow
  have HPN : Hid (pv = .slice none 0 0 → l = []) := hide (fun e => by
    rcases hrow.1.2 with ⟨_, h0⟩ | ⟨_, _, _, h0, _⟩
    · exact List.length_eq_zero_iff.1 h0
    · rw [e] at h0; cases h0)
  have CT0 : Hid (∀ (W : World) (v : Value) (B : Nat), W.ownsRow B 108 4 v (l.map (·.name)).length (dnsCells (l.map (·.name))) → Calls Tryz.prog 173 #[v] W fun e w' => e = .returned (.int .i64 (Th.hdI (Th.dups [] (l.map (·.name))))) ∧ Below W.heap.size W w') := hide (fun W v B ho => twice_any (Row.of_own ho) (by simp; omega))
  have CW0 : Hid (∀ (W : World) (v : Value) (B : Nat), W.ownsRow B 108 4 v (l.map (·.name)).length (dnsCells (l.map (·.name))) → Calls Tryz.prog 172 #[.slice none 0 0, v] W fun e w' => ∃ v, e = .returned v ∧ w'.ownsRow W.heap.size 9 1 v (Th.fnames l).length (strCells (Th.fnames l)) ∧ Below W.heap.size W w') := hide (fun W v B ho => by
    have := with_any W _ _ _ _ [] (l.map (·.name)) (Row.of_own (World.ownsRow_nil W 0 9 1)) (Row.of_own ho) (by simp) (by simp; omega)
    simp only [List.nil_append, ← fnames_texts] at this
    exact this)
  obtain ⟨x0, hx0⟩ : ∃ x0, Th.hdI (Th.dups [] (l.map (·.name))) = x0 := ⟨_, rfl⟩
  rw [hx0] at HNAM CT0
  clear hrow hrep hin HMEM hx0
  rcases hpsh with hv | ⟨pg, pc, hv⟩
  · have hl0 := unhide HPN hv
    subst hv hl0
    go_enter Tryz.func99, Tryz.ntmps99
    go_wp2_with fail
    refine wp_loop_rounds 1 ?_
    rw [rounds_succ]
    go_wp2_with fail
    refine (unhide CW0 _ _ 0 (World.ownsRow_nil _ _ _ _)).mono ?_
    rintro en w2 ⟨v2, rfl, o2, b2⟩
    obtain ⟨wa, wn, wc, rfl⟩ := own_slice o2
    have HB2 := hide b2
    clear b2 o2
    go_wp2_with fail
    refine (unhide CT0 _ _ 0 (World.ownsRow_nil _ _ _ _)).mono ?_
    rintro en w3 ⟨rfl, b3⟩
    have HB3 := hide ((unhide HB2).trans (b3.mono (unhide HB2).size))
    clear b3
    go_wp2_with fail
    refine wp_loop_rounds 1 ?_
    rw [rounds_succ]
    go_wp2_with fail
    go_ret
    exact ⟨_, rfl, unhide FIN _ (by simpa using unhide HNAM), unhide HB3⟩
  · subst hv
    go_enter Tryz.func99, Tryz.ntmps99
    go_wp2_with fail
    go_loopg [3, 4] l.length (fun gk v iv wr => ∃ k : Nat, iv = .int .i64 k ∧ k ≤ l.length ∧ l.length - k ≤ gk ∧ wr.ownsRow w.heap.size 108 4 v k (dnsCells ((l.map (·.name)).take k)) ∧ Below w.heap.size w wr)
    case atStart => exact ⟨0, rfl, Nat.zero_le _, by omega, World.ownsRow_nil _ _ _ _, Below.refl _ _⟩
    case round =>
      obtain ⟨k, rfl, hk, hgk, hown, hb⟩ := hrel
      have HO := hide hown
      have HB := hide hb
      have hzr := hb.size
      have hrow := unhide CROW wr hb
      by_cases hlt : k < l.length
      · obtain ⟨y, hy⟩ : ∃ y, l[k]? = some y := ⟨l[k], List.getElem?_eq_getElem hlt⟩
        obtain ⟨nv, bv, f1, f2, -⟩ := unhide CL k y hy
        have hc := dlineCells_get l nvs bvs k y nv bv hy f1 f2
        obtain ⟨kn, hkn⟩ : ∃ kn : Nat, (if y.name.k = 2 then 97 else 0) = kn := ⟨_, rfl⟩
        rw [hkn] at hc
        have y0 := (hrow.cellAt (k * 6) (by omega)).trans hc.1
        have y1 := (hrow.cellAt (k * 6 + 1) (by omega)).trans hc.2.1
        have y2 := (hrow.cellAt (k * 6 + 2) (by omega)).trans hc.2.2.1
        have y3 := (hrow.cellAt (k * 6 + 3) (by omega)).trans hc.2.2.2.1
        have hpg := (hrow.lt pg rfl).2
        have HKN : Hid (dnCells y.name = [.string ⟨y.name.s.toArray⟩, .int .i64 y.name.at_, .int .u8 kn, .int .i64 0]) := hide (by rw [← hkn]; rfl)
        have HT : Hid ((l.map (·.name)).take (k + 1) = (l.map (·.name)).take k ++ [y.name]) := hide (take_snoc_get (by rw [List.getElem?_map, hy]; rfl))
        have hown2 := hown.alloc (.cells #[.string ⟨y.name.s.toArray⟩, .int .i64 y.name.at_, .int .u8 kn, .int .i64 0] 108)
        clear hown hb hrow hy f1 f2 hc hkn
        go_wp2_with (at_builtin; refine wpList_append_own _ rfl _ _ 109 rfl w.heap.size 108 i0 _ 4 40 Tryz.underlying109 (unhide HI) (unhide HZ).1 (unhide HZ).2.1 (unhide HZ).2.2 rfl (by decide) _ _ _ rfl hown2 ⟨wr.heap.size, 0, none⟩ 1 1 [.string ⟨y.name.s.toArray⟩, .int .i64 y.name.at_, .int .u8 kn, .int .i64 0] rfl rfl (World.news_of_block (cs := #[.string ⟨y.name.s.toArray⟩, .int .i64 y.name.at_, .int .u8 kn, .int .i64 0]) (t := 108) (fr := (0, 0)) (heap_alloc_new wr _)) four_one (by unfold maxLen; omega) (by omega) (by simp; omega) ?_; intro v' w3 hown' hgrow _)
        go_roundg (l.length - (k + 1))
        case measure => omega
        case rel =>
          refine ⟨k + 1, by go_num, by omega, Nat.le_refl _, ?_, below_gb (gb_own (gb_trans (gb_below none (unhide HB)) (gb_alloc _ _ _)) hown2 hgrow)⟩
          rw [unhide HT, dnsCells_snoc, unhide HKN]
          exact hown'
      · have hkl : k = (l.map (·.name)).length := by simp; omega
        have hall : wr.ownsRow w.heap.size 108 4 u3 (l.map (·.name)).length (dnsCells (l.map (·.name))) := by
          have := hown
          rw [hkl, List.take_of_length_le (Nat.le_refl _)] at this
          exact this
        obtain ⟨aa, an, ac, ha⟩ := own_slice hall
        subst ha
        have HALL := hide hall
        clear hown hb hrow hkl hall HO
        go_wp2_with fail
        refine (unhide CW0 _ _ _ (unhide HALL)).mono ?_
        rintro en w2 ⟨v2, rfl, o2, b2⟩
        obtain ⟨wa, wn, wc, rfl⟩ := own_slice o2
        have HO2 := hide (own_base o2 (Nat.zero_le _))
        have HALL2 := hide ((unhide HALL).kept (gb_below none b2) (own_none _))
        have HB2 := hide ((unhide HB).trans (b2.mono hzr))
        have hz2 := (unhide HB2).size
        clear b2 o2
        go_wp2_with fail
        refine (unhide CT0 _ _ _ (unhide HALL2)).mono ?_
        rintro en w3 ⟨rfl, b3⟩
        have HB3 := hide b3
        clear b3
        go_wp2_with fail
        go_loopg [6, 7] l.length (fun gk2 atv iv wr2 => ∃ (x : Int) (j : Nat), atv = .int .i64 x ∧ iv = .int .i64 j ∧ j ≤ l.length ∧ l.length - j ≤ gk2 ∧ Th.IsMin x (Th.dups [] (l.map (·.name)) ++ (l.take j).flatMap (fun y => Th.dups [] y.params ++ Th.wrongs N y.e (Th.fnames l ++ Th.texts y.params))) ∧ Below w2.heap.size w2 wr2)
        case atStart => exact ⟨_, 0, rfl, rfl, Nat.zero_le _, by omega, by simpa using unhide HNAM, unhide HB3⟩
        case round =>
          obtain ⟨x, j, rfl, rfl, hj, hgj, hmin, hb⟩ := hrel
          have MK := hide hmin
          have HBB := hide hb
          have hbw := (unhide HB2).trans (hb.mono hz2)
          have HBW := hide hbw
          have HOK := hide ((unhide HO2).kept (gb_below none hb) (own_none _))
          have hrow := unhide CROW wr hbw
          have hzq := hb.size
          clear hmin
          by_cases hlt2 : j < l.length
          · obtain ⟨y, hy⟩ : ∃ y, l[j]? = some y := ⟨l[j], List.getElem?_eq_getElem hlt2⟩
            obtain ⟨nv, bv, f1, f2, ⟨xa, xn, xc, rfl⟩, ⟨yp, rfl⟩, hmn, ct, cw, cr⟩ := unhide CL j y hy
            have hc := dlineCells_get l nvs bvs j y _ _ hy f1 f2
            have y4 := (hrow.cellAt (j * 6 + 4) (by omega)).trans hc.2.2.2.2.1
            have y5 := (hrow.cellAt (j * 6 + 5) (by omega)).trans hc.2.2.2.2.2
            have hpg := (hrow.lt pg rfl).2
            have CELLS : Hid (∀ W : World, Below w.heap.size w W → W.cell? ⟨pg, j * 6 + 4, none⟩ = some (.slice xa xn xc) ∧ W.cell? ⟨pg, j * 6 + 5, none⟩ = some (.pointer (some ⟨yp, 0, none⟩)) ∧ pg < W.heap.size) := hide (fun W hW => by
              have hrw := unhide CROW W hW
              exact ⟨(hrw.cellAt (j * 6 + 4) (by omega)).trans hc.2.2.2.2.1, (hrw.cellAt (j * 6 + 5) (by omega)).trans hc.2.2.2.2.2, (hrw.lt pg rfl).2⟩)
            have HMN := hide hmn
            have CT := hide ct
            have CW := hide cw
            have CR := hide cr
            have HT := hide (take_flat (f := fun y => Th.dups [] y.params ++ Th.wrongs N y.e (Th.fnames l ++ Th.texts y.params)) hy)
            obtain ⟨x1, hx1⟩ : ∃ x1, Th.hdI (Th.dups [] y.params) = x1 := ⟨_, rfl⟩
            rw [hx1] at HMN CT
            clear hrow hy f1 f2 hc hmn ct cw cr hb hbw hx1
            go_wp2_with fail
            refine (unhide CT _ (unhide HBW)).mono ?_
            rintro en w4 ⟨rfl, b4⟩
            have b4w := (unhide HBW).trans (b4.mono (unhide HBW).size)
            have HB4 := hide b4w
            have HQ4 := hide ((unhide HBB).trans (b4.mono hzq))
            have hz4 := b4w.size
            have HOK4 := hide ((unhide HOK).kept (gb_below none b4) (own_none _))
            obtain ⟨z4, z5, zg⟩ := unhide CELLS w4 b4w
            clear b4 b4w y4 y5
            go_wp2_with fail
            refine (least_any _ _ _).mono ?_
            rintro en w5 ⟨rfl, rfl⟩
            go_wp2_with fail
            go_region_with (first
              | (go_at_call 172; refine (unhide CW _ _ 0 ?_ ?_).mono ?_; exact (unhide HB4).drew; exact (unhide HOK4).drew; rintro en w6 ⟨v6, rfl, o6, b6⟩; obtain ⟨va, vn, vc, rfl⟩ := own_slice o6; have HO6 := hide o6; have b6w : Below w.heap.size w w6 := (unhide HB4).drew.trans (b6.mono hz4); have HB6 := hide b6w; have HQ6 := hide ((unhide HQ4).drew.trans (b6.mono (unhide HQ4).size)); have hz6 := b6w.size; have t5 := (unhide CELLS w6 b6w).2.1; have tg := (unhide CELLS w6 b6w).2.2; clear o6 b6 b6w)
              | (go_at_call 175; refine (unhide CR _ _ _ ?_ (unhide HO6)).mono ?_; exact unhide HB6; rintro en w7 ⟨r7, rfl, m7, b7⟩; have M7 := hide m7; have HB7 := hide ((unhide HQ6).trans (b7.mono (unhide HQ6).size)); clear m7 b7)
              | (go_at_call 174; refine (least_any _ _ _).mono ?_; rintro en w8 ⟨rfl, rfl⟩))
            all_goals
              go_wp2_with fail
              go_roundg (l.length - (j + 1))
              case measure => omega
              case rel =>
                refine ⟨_, j + 1, rfl, by go_num, by omega, Nat.le_refl _, ?_, unhide HB7⟩
                rw [unhide HT, ← List.append_assoc, ← List.append_assoc]
                exact Th.IsMin.least (Th.IsMin.least (unhide MK) (unhide HMN)) (unhide M7)
          · have hjl : j = l.length := by omega
            have MX : Hid (Th.IsMin x (Th.dups [] (l.map (·.name)) ++ l.flatMap (fun y => Th.dups [] y.params ++ Th.wrongs N y.e (Th.fnames l ++ Th.texts y.params)))) := hide (by
              have := unhide MK
              rw [hjl, List.take_of_length_le (Nat.le_refl _)] at this
              exact this)
            clear hrow hjl hb hbw
            go_wp2_with fail
            go_ret
            exact ⟨_, rfl, unhide FIN _ (unhide MX), unhide HBW⟩

end Go.Proofs.YtgahgkddaljmkaaGreatDoor
