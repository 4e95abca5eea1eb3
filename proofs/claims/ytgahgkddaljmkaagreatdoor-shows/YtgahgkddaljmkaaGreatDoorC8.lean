/- The document's reading of a source. Check, of the program and of the document: the same answer to every source. The law Checks: its steps. -/
import Derived.Test.YtgahgkddaljmkaaGreatDoorC7
import Derived.Test.YtgahgkddaljmkaaGreatDoorB2
namespace Go.Proofs.YtgahgkddaljmkaaGreatDoor
open Go.RowKit
attribute [local go_sem ↓] Go.wp_at_zero Go.wp_at_succ

theorem dpsCells_get : ∀ (l : List Th.DP) (i : Nat) (d : Th.DP), l[i]? = some d → (dpsCells l)[i * 4]? = some (.string ⟨d.s.toArray⟩) ∧ (dpsCells l)[i * 4 + 1]? = some (.int .i64 d.at_) ∧ (dpsCells l)[i * 4 + 2]? = some (.int .u8 d.k) ∧ (dpsCells l)[i * 4 + 3]? = some (.int .i64 d.n)
  | [], i, t, h => by simp at h
  | x :: l, 0, t, h => by
    simp only [List.getElem?_cons_zero, Option.some.injEq] at h
    subst h
    exact ⟨rfl, rfl, rfl, rfl⟩
  | x :: l, i + 1, t, h => by
    have ih := dpsCells_get l i t (by simpa using h)
    have e : ∀ c, (dpsCells (x :: l))[(i + 1) * 4 + c]? = (dpsCells l)[i * 4 + c]? := by
      intro c
      rw [show dpsCells (x :: l) = dpCells x ++ dpsCells l from rfl, List.getElem?_append_right (by simp [dpCells]; omega)]
      congr 1
      simp [dpCells]
      omega
    refine ⟨?_, ?_, ?_, ?_⟩
    · have := e 0; simp only [Nat.add_zero] at this; rw [this]; exact ih.1
    · rw [e 1]; exact ih.2.1
    · rw [e 2]; exact ih.2.2.1
    · rw [e 3]; exact ih.2.2.2

theorem DS.failed {w : World} {r tb : Nat} {L : List Th.DP} {st : Th.St} (h : DS w r tb L st) : ∃ b : Int, w.cell? ⟨r, 2, none⟩ = some (.int .i64 b) ∧ (st.bad = none → b = -1) ∧ ∀ p, st.bad = some p → b = (p : Int) := by
  obtain ⟨cap, i, b, h, ha⟩ := h
  refine ⟨b, by simpa using h.blk.cell 2, ?_, ?_⟩
  · intro hb
    rcases ha with ⟨h1, _⟩ | ⟨p, _, _, rfl⟩
    · exact h1
    · simp at hb
  · intro p hb
    rcases ha with ⟨_, rfl⟩ | ⟨p', h1, _, rfl⟩
    · simp [Th.stAt] at hb
    · simp at hb
      subst hb
      exact h1

theorem dtoks_ne_nil (s : ByteArray) : theDToks s ≠ [] := Th.dtoks_ne _ _ _
theorem dtoks_goodS (s : ByteArray) (h : s.size ≤ 600) : Th.DGood (theDToks s) := Th.dtoks_good _ _ _ (by rw [Array.length_toList]; have : s.data.size = s.size := rfl; omega)
theorem dtoks_state (s : ByteArray) : Th.stAt (theDToks s) 0 = ⟨theToks s, none⟩ := by
  have hz : s.data.toList.length = s.size := by rw [Array.length_toList]; rfl
  rw [Th.stAt, List.drop_zero, theDToks, Th.cut_toks _ _ _ (s.size + 1) (by omega) (by omega)]
  rfl

/-- What the document's Read does, with an answer. -/
def DRP (ans : Nat × Nat) (q : List Th.Line × Th.St) (w : World) (e : Ending) (w' : World) : Prop :=
  Below w.heap.size w w' ∧ ∃ pv, e = .returned (.tuple #[pv, .int .i64 ans.1, .int .i64 ans.2]) ∧ (∃ a k c, pv = .slice a k c) ∧ (ans.1 = 0 → DProgRep (Since w) w' pv q.1) ∧ (ans.1 ≠ 0 → pv = .slice none 0 0)

theorem drp_no {ans : Nat × Nat} {q : List Th.Line × Th.St} {w w' : World} (h : Below w.heap.size w w') (h0 : ans.1 ≠ 0) : DRP ans q w (.returned (.tuple #[.slice none 0 0, .int .i64 ans.1, .int .i64 ans.2])) w' :=
  ⟨h, _, rfl, ⟨_, _, _, rfl⟩, fun e => absurd e h0, fun _ => rfl⟩

set_option maxRecDepth 100000 in
set_option maxHeartbeats 8000000 in
theorem dread_long {s : ByteArray} (h : 600 < s.size) (w : World) :
    Calls Tryz.prog 56 #[.string s] w fun e w' => e = .returned (.tuple #[.slice none 0 0, .int .i64 1, .int .i64 0]) ∧ w' = w := by
  have hz : (600 : Int) < (s.size : Int) := by omega
  go_enter Tryz.func56, Tryz.ntmps56
  go_wp2_with fail
  go_ret3
  exact ⟨rfl, rfl⟩

theorem row_len {S : Nat → Prop} {w : World} {e : TypeId} {size n : Nat} {a : Option Addr} {k c : Nat} {xs : List Value} (h : Row S w e size (.slice a k c) n xs) : k = n := by
  rcases h.1.2 with ⟨h, h0⟩ | ⟨_, _, _, h0, _⟩
  · cases h; exact h0.symm
  · cases h0; rfl

set_option maxRecDepth 100000 in
set_option maxHeartbeats 8000000 in
theorem dread_any {s : ByteArray} {q : List Th.Line × Th.St} {N : Nat} (hs : s.size ≤ 600) (hp : Plain s q N) (w : World) :
    Calls Tryz.prog 56 #[.string s] w fun e w' => DRP (answer s.size q N) q w e w' := by
  have hs' : ¬ ((600 : Int) < (s.size : Int)) := by omega
  obtain ⟨n, k, hn, hk, hq⟩ := hp.lines
  have HW := hide hp.within
  have HG := hide (dtoks_goodS s hs)
  have HST := hide (dtoks_state s)
  have CTK := hide (fun W => dtokens_any (fun s p hp hm w => dtoken_any s p hp hm w) s hs W)
  obtain ⟨L, hL⟩ : ∃ L, theDToks s = L := ⟨_, rfl⟩
  have hne : L ≠ [] := by rw [← hL]; exact dtoks_ne_nil s
  rw [hL] at HG HST CTK
  have CPR : Hid (∀ (W : World) (r tb : Nat), DS W r tb L ⟨theToks s, none⟩ → Calls Tryz.prog 98 #[.pointer (some ⟨r, 0, none⟩)] W fun e w' => ∃ pv, e = .returned pv ∧ (∃ a k c, pv = .slice a k c) ∧ DS w' r tb L q.2 ∧ W.grownBy w' (some r) ∧ (q.2.bad = none → DProgRep (Since W) w' pv q.1)) := hide (fun W r tb h => dprogram_any n k hn hk q hq h)
  clear hp hq hL
  obtain ⟨ans, hans⟩ : ∃ a, answer s.size q N = a := ⟨_, rfl⟩
  have HANS := hide hans
  rw [hans]
  clear hans
  go_enter Tryz.func56, Tryz.ntmps56
  go_wp2_with fail
  refine (unhide CTK _).mono ?_
  rintro e w1 ⟨v, rfl, hrow, hb1⟩
  obtain ⟨tb, cap, rfl⟩ := own_some hrow (List.length_pos_iff.2 hne)
  have htb := hrow.lt tb rfl
  have hDI : DI (w1.alloc (.cells #[.slice (some ⟨tb, 0, none⟩) L.length cap, .int .i64 0, .int .i64 (-1)] 189)) w1.heap.size tb cap L 0 (-1) := by
    refine ⟨Blk.new w1 [.slice (some ⟨tb, 0, none⟩) L.length cap, .int .i64 0, .int .i64 (-1)] 189, ?_, by omega, List.length_pos_iff.2 hne, unhide HG, ?_⟩
    · intro i d hd
      have hlt : i < L.length := (List.getElem?_eq_some_iff.1 hd).1
      have hc := dpsCells_get L i d hd
      have hrow2 := hrow.alloc (.cells #[.slice (some ⟨tb, 0, none⟩) L.length cap, .int .i64 0, .int .i64 (-1)] 189)
      refine ⟨?_, ?_, ?_, ?_⟩
      · rw [hrow2.cellAt _ (by omega)]; exact hc.1
      · rw [hrow2.cellAt _ (by omega)]; exact hc.2.1
      · rw [hrow2.cellAt _ (by omega)]; exact hc.2.2.1
      · rw [hrow2.cellAt _ (by omega)]; exact hc.2.2.2
    · rcases hrow.2 with ⟨h, _⟩ | ⟨g, c, cur, h, _, _, hle, _⟩
      · cases h
      · cases h; exact hle
  have hDS : DS (w1.alloc (.cells #[.slice (some ⟨tb, 0, none⟩) L.length cap, .int .i64 0, .int .i64 (-1)] 189)) w1.heap.size tb L ⟨theToks s, none⟩ := ⟨cap, 0, -1, hDI, .inl ⟨rfl, (unhide HST).symm⟩⟩
  have HDS := hide hDS
  have hz1 := hb1.size
  have HB1 := hide ((hb1.trans ((below_alloc w1 _).mono hz1)) : Below w.heap.size w (w1.alloc (.cells #[.slice (some ⟨tb, 0, none⟩) L.length cap, .int .i64 0, .int .i64 (-1)] 189)))
  clear hDI hDS hrow hb1
  go_wp2_with fail
  refine (unhide CPR _ _ _ (unhide HDS)).mono ?_
  rintro e w2 ⟨pv, rfl, ⟨pa, pn, pc, rfl⟩, hs2, hg2, hrep⟩
  have HB2 : Hid (Below w.heap.size w w2) := hide (by
    have hb := unhide HB1
    exact ⟨hg2.os.trans hb.os, hg2.tape.trans hb.tape, hg2.output.trans hb.output, Nat.le_trans hb.size hg2.size, fun k hk => (hg2.block k (Nat.lt_of_lt_of_le hk hb.size) (by simp; omega)).trans (hb.block k hk)⟩)
  obtain ⟨b, c2, hbn, hbs⟩ := hs2.failed
  have hrl2 := hs2.lt
  cases hbad : q.2.bad with
  | some p =>
    have e1 := hbs p hbad
    subst e1
    have eb : ((0 : Int) ≤ (p : Int)) = True := eq_true (by omega)
    have ea : ans = (2, p) := by rw [← unhide HANS]; unfold answer; rw [hbad]
    subst ea
    clear hbn hbs hs2 hg2 hrep hbad
    go_wp2_with fail
    go_quiet (fail)
    go_wp2_with fail
    go_ret3
    exact drp_no (ans := (2, p)) (below_drewN (unhide HB2) _) (by simp)
  | none =>
    have e1 := hbn hbad
    subst e1
    obtain ⟨lo, hi, hin, hsz⟩ := unhide HW hbad
    have hzw : w.heap.size ≤ (w1.alloc (.cells #[.slice (some ⟨tb, 0, none⟩) L.length cap, .int .i64 0, .int .i64 (-1)] 189)).heap.size := (unhide HB1).size
    have hrep' := hrep hbad
    have HREP := hide hrep'
    have HZW := hide hzw
    have HNM := hide (named_any hrep' hin hsz)
    have hql : q.1.length ≤ 100000 := by have := InLines_len hin; omega
    have HRISE := hide (Th.wlines_rise (all := Th.fnames q.1) (seen := []) hin)
    have ea : ans = match (Th.wlines N (Th.fnames q.1) [] q.1).head? with | some p => (3, p) | none => if Th.firstMain q.1 then (0, 0) else (4, s.size) := by
      rw [← unhide HANS]; unfold answer; rw [hbad]; rfl
    have HEA := hide ea
    clear hbn hbs hs2 hg2 hrep hbad hin hsz hrep' hzw ea
    go_wp2_with fail
    refine (unhide HNM).mono ?_
    rintro e w3 ⟨x, rfl, hmin, hb3⟩
    have hx := hmin.head (unhide HRISE)
    have HB3 := hide ((unhide HB2).trans (hb3.mono (unhide HB2).size))
    cases hw : Th.wlines N (Th.fnames q.1) [] q.1 with
    | cons p rest =>
      rw [hw] at hx
      simp only [List.head?_cons] at hx
      have ea := unhide HEA
      rw [hw] at ea
      simp only [List.head?_cons] at ea
      subst hx ea
      have eb : ((0 : Int) ≤ (p : Int)) = True := eq_true (by omega)
      clear hmin hb3 hw
      go_wp2_with fail
      go_ret3
      exact drp_no (ans := (3, p)) (unhide HB3) (by simp)
    | nil =>
      rw [hw] at hx
      simp only [List.head?_nil] at hx
      have ea := unhide HEA
      rw [hw] at ea
      simp only [List.head?_nil] at ea
      rw [(Th.main_any q.1 [] hw).2] at ea
      have HEA2 := hide ea
      subst hx
      have HBL := hide hb3
      obtain ⟨nvs, bvs, m, hn1, hn2, hrow, hlr⟩ := unhide HREP
      have CROW := hide (fun (W : World) (hW : Below w2.heap.size w2 W) => hrow.1.kept (gb_below none hW) (own_none _))
      have hpn := row_len hrow
      subst hpn
      have PARAMS : Hid (∀ (j : Nat) (y : Th.Line), q.1[j]? = some y → ∃ nv bv xa xc, nvs[j]? = some nv ∧ bvs[j]? = some bv ∧ nv = .slice xa y.params.length xc) := hide (by
        intro j y hy
        have hj : j < q.1.length := (List.getElem?_eq_some_iff.1 hy).1
        have e1 : nvs[j]? = some (nvs[j]'(by omega)) := List.getElem?_eq_getElem _
        have e2 : bvs[j]? = some (bvs[j]'(by omega)) := List.getElem?_eq_getElem _
        obtain ⟨r1, _⟩ := hlr j y _ _ hy e1 e2
        obtain ⟨xa, xk, xc, hx⟩ := row_slice r1
        rw [hx] at r1
        have := row_len r1
        subst this
        exact ⟨_, _, xa, xc, e1, e2, hx⟩)
      have DONE : Hid (∀ W : World, Below w2.heap.size w2 W → DProgRep (Since w) W (.slice pa q.1.length pc) q.1) := hide (by
        intro W hW
        refine ⟨nvs, bvs, m, hn1, hn2, (hrow.gb (gb_below none hW) (by simp)).mono (fun k _ hk => Nat.le_trans (unhide HZW) hk), fun i y nv bv a b c => ?_⟩
        have := hlr i y nv bv a b c
        exact ⟨(this.1.gb (gb_below none hW) (by simp)).mono (fun k _ hk => Nat.le_trans (unhide HZW) hk), (this.2.gb (gb_below none hW) (by simp)).mono (fun k _ hk => Nat.le_trans (unhide HZW) hk)⟩)
      have hpsh := row_shape hrow
      clear hmin hb3 hw ea hrow hlr hn1 hn2 HREP HNM c2
      have NO : Hid (Th.hasMain q.1 = false → ans = (4, s.size)) := hide (fun h => by rw [unhide HEA2, h]; rfl)
      have YES : Hid (Th.hasMain q.1 = true → ans = (0, 0)) := hide (fun h => by rw [unhide HEA2, h]; rfl)
      rcases hpsh with hv | ⟨pg, pcc, hv⟩
      · have hq0 : q.1 = [] := by
          have := congrArg (fun v => match v with | Value.slice _ k _ => k | _ => 0) hv
          exact List.length_eq_zero_iff.1 this
        have hle : q.1.length = 0 := by rw [hq0]; rfl
        rw [hle] at hv
        rw [hle]
        cases hv
        have ea : ans = (4, s.size) := unhide NO (by rw [hq0]; rfl)
        subst ea
        go_wp2_with fail
        refine wp_loop_rounds 1 ?_
        rw [rounds_succ]
        go_wp2_with fail
        go_ret3
        exact drp_no (ans := (4, s.size)) (unhide HB3) (by simp)
      · cases hv
        go_wp2_with fail
        go_loopg [8] q.1.length (fun gk iv wr => ∃ j : Nat, iv = .int .i64 j ∧ j ≤ q.1.length ∧ q.1.length - j ≤ gk ∧ (∀ (x : Nat) (y : Th.Line), x < j → q.1[x]? = some y → (y.name.s == Th.sMain && y.params.isEmpty) = false) ∧ Below w2.heap.size w2 wr)
        case atStart => exact ⟨0, rfl, Nat.zero_le _, by omega, fun x y hx => absurd hx (Nat.not_lt_zero _), unhide HBL⟩
        case round =>
          obtain ⟨j, rfl, hj, hgj, hno, hb⟩ := hrel
          have HNO := hide hno
          have HB := hide hb
          have HBW := hide ((unhide HB2).trans (hb.mono (unhide HB2).size))
          have hrow := unhide CROW wr hb
          clear hno
          by_cases hlt : j < q.1.length
          · obtain ⟨y, hy⟩ : ∃ y, q.1[j]? = some y := ⟨q.1[j], List.getElem?_eq_getElem hlt⟩
            obtain ⟨nv, bv, xa, xc, f1, f2, rfl⟩ := unhide PARAMS j y hy
            have hc := dlineCells_get q.1 nvs bvs j y _ _ hy f1 f2
            have y0 := (hrow.cellAt (j * 6) (by omega)).trans hc.1
            have y4 := (hrow.cellAt (j * 6 + 4) (by omega)).trans hc.2.2.2.2.1
            have hpg := (hrow.lt pg rfl).2
            have Hy := hide hy
            clear hrow hy f1 f2 hc hb
            cases hm : (y.name.s == Th.sMain)
            · have hm' : (y.name.s == [109, 97, 105, 110]) = false := hm
              have HM := hide hm
              clear hm
              go_wp2_with fail
              go_roundg (q.1.length - (j + 1))
              case measure => omega
              case rel =>
                refine ⟨j + 1, by go_num, by omega, Nat.le_refl _, fun x z hx hz => ?_, unhide HB⟩
                by_cases hxj : x = j
                · subst hxj
                  rw [unhide Hy] at hz
                  cases hz
                  rw [unhide HM]
                  rfl
                · exact unhide HNO x z (by omega) hz
            · have hm' : (y.name.s == [109, 97, 105, 110]) = true := hm
              have HM := hide hm
              clear hm
              cases hpe : y.params.isEmpty
              · have hl0 : ((y.params.length : Int) == 0) = false := by
                  have : y.params.length ≠ 0 := fun e => by rw [List.length_eq_zero_iff.1 e] at hpe; simp at hpe
                  rw [beq_eq_false_iff_ne]
                  omega
                have HP := hide hpe
                clear hpe
                go_wp2_with fail
                go_roundg (q.1.length - (j + 1))
                case measure => omega
                case rel =>
                  refine ⟨j + 1, by go_num, by omega, Nat.le_refl _, fun x z hx hz => ?_, unhide HB⟩
                  by_cases hxj : x = j
                  · subst hxj
                    rw [unhide Hy] at hz
                    cases hz
                    rw [unhide HP]
                    simp
                  · exact unhide HNO x z (by omega) hz
              · have hl0 : ((y.params.length : Int) == 0) = true := by
                  have : y.params = [] := List.isEmpty_iff.1 hpe
                  rw [this]
                  rfl
                have ea : ans = (0, 0) := unhide YES (by
                  rw [Th.hasMain, List.any_eq_true]
                  exact ⟨y, List.mem_of_getElem? (unhide Hy), by rw [unhide HM, hpe]; rfl⟩)
                subst ea
                clear hpe
                go_wp2_with fail
                go_ret3
                exact ⟨unhide HBW, _, rfl, ⟨_, _, _, rfl⟩, fun _ => unhide DONE _ (unhide HB), fun e => absurd rfl e⟩
          · have ea : ans = (4, s.size) := unhide NO (by
              rw [Th.hasMain, List.any_eq_false]
              intro y hy
              obtain ⟨x, hx⟩ := List.mem_iff_getElem?.1 hy
              have hxl : x < q.1.length := (List.getElem?_eq_some_iff.1 hx).1
              rw [unhide HNO x y (by omega) hx]
              simp)
            subst ea
            clear hrow hb
            go_wp2_with fail
            go_ret3
            exact drp_no (ans := (4, s.size)) (unhide HBW) (by simp)

end Go.Proofs.YtgahgkddaljmkaaGreatDoor

namespace Go.Proofs.YtgahgkddaljmkaaGreatDoor
open Go.RowKit

set_option maxRecDepth 100000 in
theorem dcheck_long {s : ByteArray} (h : 600 < s.size) (w : World) :
    Calls Tryz.prog 36 #[.string s] w fun e w' => e = .returned (.tuple #[.int .i64 1, .int .i64 0]) ∧ Below w.heap.size w w' := by
  go_enter Tryz.func36, Tryz.ntmps36
  go_wp2_with fail
  refine (dread_long h w).mono ?_
  rintro e w1 ⟨rfl, rfl⟩
  go_wp2_with fail
  go_ret2
  exact ⟨rfl, Below.refl _ _⟩

set_option maxRecDepth 100000 in
theorem dcheck_any {s : ByteArray} {q : List Th.Line × Th.St} {N : Nat} (hs : s.size ≤ 600) (hp : Plain s q N) (w : World) :
    Calls Tryz.prog 36 #[.string s] w fun e w' => e = .returned (.tuple #[.int .i64 (answer s.size q N).1, .int .i64 (answer s.size q N).2]) ∧ Below w.heap.size w w' := by
  have CON := hide (dread_any hs hp w)
  clear hp hs
  go_enter Tryz.func36, Tryz.ntmps36
  go_wp2_with fail
  refine (unhide CON).mono ?_
  rintro e w1 ⟨hb, pv, rfl, ⟨a, k, c, rfl⟩, _, _⟩
  have Hb := hide hb
  clear hb CON
  go_wp2_with fail
  go_ret2
  exact ⟨rfl, unhide Hb⟩

/-- The program's Check answers as the document's, to every source, in whatever world. -/
theorem checks_same (s : ByteArray) : ∃ a b : Nat, (∀ w, Calls Tryz.prog 28 #[.string s] w fun e w' => e = .returned (.tuple #[.int .i64 a, .int .i64 b]) ∧ Below w.heap.size w w') ∧ (∀ w, Calls Tryz.prog 36 #[.string s] w fun e w' => e = .returned (.tuple #[.int .i64 a, .int .i64 b]) ∧ Below w.heap.size w w') := by
  rcases Nat.lt_or_ge 600 s.size with h | h
  · exact ⟨1, 0, fun w => check_long h w, fun w => dcheck_long h w⟩
  · obtain ⟨q, N, hp⟩ := plain_all s h
    exact ⟨_, _, fun w => check_any h hp w, fun w => dcheck_any h hp w⟩

end Go.Proofs.YtgahgkddaljmkaaGreatDoor

namespace Go.Proofs.YtgahgkddaljmkaaGreatDoor
open Go.RowKit
attribute [local go_sem ↓] Go.wp_at_zero Go.wp_at_succ

set_option maxRecDepth 100000 in
set_option maxHeartbeats 2000000 in
theorem plays_check (s : ByteArray) (h f : Int) (w : World) :
    Calls Tryz.prog 29 #[.agg #[.int .i64 1, .string s, .int .i64 h, .int .i64 f]] w fun e w' => e = .returned (.bool true) ∧ Below w.heap.size w w' := by
  obtain ⟨a, b, C1, C2⟩ := checks_same s
  have H1 := hide C1
  have H2 := hide C2
  clear C1 C2
  go_enter Tryz.func29, Tryz.ntmps29
  go_wp2_with fail
  refine (unhide H1 _).mono ?_
  rintro e w1 ⟨rfl, b1⟩
  have B0 := (Blk.new w [.int .i64 1, .string s, .int .i64 h, .int .i64 f] 54).below b1 (by simp)
  have c1 := B0.cell 1
  simp at c1
  have HB1 := hide ((below_alloc w (.cells #[.int .i64 1, .string s, .int .i64 h, .int .i64 f] 54)).trans (b1.mono (by simp)))
  clear b1 B0
  go_wp2_with fail
  refine (unhide H2 _).mono ?_
  rintro e w2 ⟨rfl, b2⟩
  have HB2 := hide ((unhide HB1).trans (b2.mono (unhide HB1).size))
  clear b2
  go_wp2_with fail
  go_ret
  exact ⟨rfl, unhide HB2⟩

/-- The steps of a script in memory, four cells each. -/
def OpsAt (w : World) (b o n : Nat) : Prop := ∀ k, k < n → ∃ (kd : Int) (s : ByteArray) (h f : Int), w.cell? ⟨b, o + k * 4, none⟩ = some (.int .i64 kd) ∧ w.cell? ⟨b, o + k * 4 + 1, none⟩ = some (.string s) ∧ w.cell? ⟨b, o + k * 4 + 2, none⟩ = some (.int .i64 h) ∧ w.cell? ⟨b, o + k * 4 + 3, none⟩ = some (.int .i64 f)

/-- The source of the document's own example: its lines, plainly. -/
def exSrc : ByteArray := ⟨#[109, 97, 105, 110, 32, 61, 32, 120, 59]⟩
def exLines : List Th.Line × Th.St := ([⟨⟨2, [109, 97, 105, 110], 0⟩, [], Th.mkName ⟨2, [120], 7⟩⟩], ⟨[⟨0, [], 9⟩], none⟩)

theorem ex_plain : Plain exSrc exLines 1 := by
  refine ⟨toks_all_good exSrc (by decide), Th.toks_ne _ _ _, ⟨9, 9, by omega, by omega, by rfl⟩, fun _ => ⟨0, 9, ?_, by omega⟩⟩
  refine ⟨Nat.le_refl _, 1, 8, ?_, ?_, ?_⟩
  · show 1 ≤ 1; omega
  · exact ⟨by omega, .inr (.inl ⟨rfl, by show 1 ≤ 7; omega, by show 7 < 8; omega⟩)⟩
  · show 8 ≤ 9; omega

theorem ex_answer : answer exSrc.size exLines 1 = (3, 7) := by rfl

set_option maxRecDepth 100000 in
set_option maxHeartbeats 2000000 in
theorem checks_true (w : World) :
    Calls Tryz.prog 15 #[] w fun e w' => e = .returned (.bool true) ∧ Below w.heap.size w w' := by
  have C := check_any (by decide) ex_plain w
  rw [ex_answer] at C
  have HC := hide C
  clear C
  go_enter Tryz.func15, Tryz.ntmps15
  go_wp2_with fail
  refine (unhide HC).mono ?_
  rintro e w1 ⟨rfl, b1⟩
  have HB := hide b1
  clear b1
  go_wp2_with fail
  go_ret
  exact ⟨rfl, unhide HB⟩

set_option maxRecDepth 100000 in
set_option maxHeartbeats 4000000 in
theorem upTo_checks {w : World} {b o n cap : Nat} (h : OpsAt w b o n) (hn : n ≤ maxLen) :
    Calls Tryz.prog 16 #[.slice (some ⟨b, o, none⟩) n cap, .int .i64 1, .int .i64 1] w fun e w' => e = .returned (.bool true) ∧ Below w.heap.size w w' := by
  have hn2 : n ≤ 9223372036854775807 := by unfold maxLen at hn; omega
  have HH := hide h
  clear h
  go_enter Tryz.func16, Tryz.ntmps16
  go_wp2_with fail
  go_loopg [7] n (fun gk iv wr => ∃ k : Nat, iv = .int .i64 k ∧ k ≤ n ∧ n - k ≤ gk ∧ Below w.heap.size w wr)
  case atStart => exact ⟨0, rfl, Nat.zero_le _, by omega, Below.refl _ _⟩
  case round =>
    obtain ⟨k, rfl, hk, hgk, hb⟩ := hrel
    have HB := hide hb
    have hsz := hb.size
    by_cases hlt : k < n
    · obtain ⟨kd, s, h, f, c0, c1, c2, c3⟩ := unhide HH k hlt
      have hbl := cell_lt c0
      have d0 := cell_gb (gb_below none hb) c0 (by simp)
      have d1 := cell_gb (gb_below none hb) c1 (by simp)
      have d2 := cell_gb (gb_below none hb) c2 (by simp)
      have d3 := cell_gb (gb_below none hb) c3 (by simp)
      clear c0 c1 c2 c3 hb
      by_cases hkd : kd = 1
      · subst hkd
        go_wp2_with fail
        refine (plays_check s h f _).mono ?_
        rintro e w2 ⟨rfl, b2⟩
        have HB2 := hide ((unhide HB).trans (((below_alloc wr (.cells #[.int .i64 1, .string s, .int .i64 h, .int .i64 f] 54)).trans (b2.mono (by simp))).mono hsz))
        clear b2
        go_wp2_with fail
        go_roundg (n - (k + 1))
        case measure => omega
        case rel => exact ⟨k + 1, by go_num, by omega, Nat.le_refl _, unhide HB2⟩
      · have HB2 := hide ((unhide HB).trans ((below_alloc wr (.cells #[.int .i64 kd, .string s, .int .i64 h, .int .i64 f] 54)).mono hsz))
        by_cases h1 : (1 : Int) ≤ kd
        · have h2 : (kd ≤ 1) = False := eq_false (by omega)
          have h1' : ((1 : Int) ≤ kd) = True := eq_true h1
          go_wp2_with fail
          go_roundg (n - (k + 1))
          case measure => omega
          case rel => exact ⟨k + 1, by go_num, by omega, Nat.le_refl _, unhide HB2⟩
        · have h1' : ((1 : Int) ≤ kd) = False := eq_false h1
          go_wp2_with fail
          go_roundg (n - (k + 1))
          case measure => omega
          case rel => exact ⟨k + 1, by go_num, by omega, Nat.le_refl _, unhide HB2⟩
    · clear hb
      go_wp2_with fail
      go_ret
      exact ⟨rfl, unhide HB⟩

set_option maxRecDepth 100000 in
set_option maxHeartbeats 2000000 in
theorem upTo_nil (w : World) :
    Calls Tryz.prog 16 #[.slice none 0 0, .int .i64 1, .int .i64 1] w fun e w' => e = .returned (.bool true) ∧ Below w.heap.size w w' := by
  go_enter Tryz.func16, Tryz.ntmps16
  go_wp2_with fail
  refine wp_loop_rounds 1 ?_
  rw [rounds_succ]
  go_wp2_with fail
  go_ret
  exact ⟨rfl, Below.refl _ _⟩

set_option maxRecDepth 100000 in
set_option maxHeartbeats 2000000 in
theorem Checks_true {w : World} {v : Value} (hu : ∀ W : World, Below w.heap.size w W → Calls Tryz.prog 16 #[v, .int .i64 1, .int .i64 1] W fun e w' => e = .returned (.bool true) ∧ Below W.heap.size W w') :
    Calls Tryz.prog 3 #[v] w fun e w' => e = .returned (.bool true) ∧ Below w.heap.size w w' := by
  have HU := hide hu
  clear hu
  go_enter Tryz.func3, Tryz.ntmps3
  go_wp2_with fail
  refine (checks_true w).mono ?_
  rintro e w1 ⟨rfl, b1⟩
  have HB := hide b1
  clear b1
  go_wp2_with fail
  refine (unhide HU _ (unhide HB)).mono ?_
  rintro e w2 ⟨rfl, b2⟩
  have HB2 := hide ((unhide HB).trans (b2.mono (unhide HB).size))
  clear b2
  go_wp2_with fail
  go_ret
  exact ⟨rfl, unhide HB2⟩

end Go.Proofs.YtgahgkddaljmkaaGreatDoor
