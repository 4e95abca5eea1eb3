/- The reader of package parse: an arm, given what a reader of expressions does. The reader of package parse: a line, given what a reader of expressions does. The reader of package parse: a let, given what a reader of expressions does. The reader of package parse: a let, given what a reader of expressions does. The reader of package parse: a case, given what a reader of expressions does. The reader of package parse: a case, given what a reader of expressions does. The reader of package parse: a function without a name, given what a reader of expressions does. The reader of package parse: an expression does what the grammar says, to whatever depth. -/
import Derived.Test.YtgahgkddaljmkaaGreatDoorA4
import Derived.Deep.RegionLaw
import Derived.Deep.AppendLies
import Derived.Deep.DrawnRows
import Derived.Deep.DeepCutAuto
namespace Go.Proofs.YtgahgkddaljmkaaGreatDoor
open Go.RowKit

theorem row_shape {S : Nat → Prop} {w : World} {e : TypeId} {size n : Nat} {v : Value} {xs : List Value} (h : Row S w e size v n xs) : v = .slice none 0 0 ∨ ∃ g cap, v = .slice (some ⟨g, 0, none⟩) n cap := by
  rcases h.1.2 with ⟨h, _⟩ | ⟨g, cap, cur, h, _⟩
  · exact .inl h
  · exact .inr ⟨g, cap, h⟩

/-- The end of a method that fills a struct of three cells (the second a row, the third an expression) and hands it back. -/
theorem arm_fin {w w7 : World} {r tb b1 : Nat} {T : List Th.Tok} {nv v : Value} {x : Th.Ex} {s : Th.St} {vs : List Value} {l : List Th.Tok} (tg : Nat) (hb : Blk w7 w.heap.size [.int .i64 0, .slice none 0 0, .nilIface] 240)
    (hr : Row (fun b => Since w b ∧ b ≠ b1 ∧ b ≠ w.heap.size) w7 88 2 nv l.length vs) (hg : Got (fun b => Since w b ∧ b ≠ b1 ∧ b ≠ w.heap.size) w7 v x s) (hs : RS w7 r tb T s) (hG : w.grownBy w7 (some r))
    (hz : w.heap.size < b1) (hrl : r < w.heap.size) (htl : tb < w.heap.size) :
    Blk ((((w7.setCell ⟨b1, 2, none⟩ v).setCell ⟨w.heap.size, 0, none⟩ (.int .i64 tg)).setCell ⟨w.heap.size, 1, none⟩ nv).setCell ⟨w.heap.size, 2, none⟩ v) w.heap.size [.int .i64 tg, nv, v] 240 ∧
    Row (Since w) ((((w7.setCell ⟨b1, 2, none⟩ v).setCell ⟨w.heap.size, 0, none⟩ (.int .i64 tg)).setCell ⟨w.heap.size, 1, none⟩ nv).setCell ⟨w.heap.size, 2, none⟩ v) 88 2 nv l.length vs ∧
    Got (Since w) ((((w7.setCell ⟨b1, 2, none⟩ v).setCell ⟨w.heap.size, 0, none⟩ (.int .i64 tg)).setCell ⟨w.heap.size, 1, none⟩ nv).setCell ⟨w.heap.size, 2, none⟩ v) v x s ∧
    RS ((((w7.setCell ⟨b1, 2, none⟩ v).setCell ⟨w.heap.size, 0, none⟩ (.int .i64 tg)).setCell ⟨w.heap.size, 1, none⟩ nv).setCell ⟨w.heap.size, 2, none⟩ v) r tb T s ∧
    w.grownBy ((((w7.setCell ⟨b1, 2, none⟩ v).setCell ⟨w.heap.size, 0, none⟩ (.int .i64 tg)).setCell ⟨w.heap.size, 1, none⟩ nv).setCell ⟨w.heap.size, 2, none⟩ v) (some r) := by
  refine ⟨?_, ?_, ?_, ?_, ?_⟩
  · exact (((hb.other ⟨b1, 2, none⟩ v (by simp; omega)).set 0 (.int .i64 tg)).set 1 nv).set 2 v
  · exact ((((hr.gb (gb_set _ _ _ _) (by simp)).gb (gb_set _ _ _ _) (by simp)).gb (gb_set _ _ _ _) (by simp)).gb (gb_set _ _ _ _) (by simp)).mono (fun k _ hk => hk.1)
  · exact ((((hg.gb (gb_set _ _ _ _) (by simp)).gb (gb_set _ _ _ _) (by simp)).gb (gb_set _ _ _ _) (by simp)).gb (gb_set _ _ _ _) (by simp)).mono (fun k _ hk => hk.1)
  · exact (((hs.set _ _ _ (by omega) (by omega)).set _ _ _ (by omega) (by omega)).set _ _ _ (by omega) (by omega)).set _ _ _ (by omega) (by omega)
  · exact gb_set_new (gb_set_new (gb_set_new (gb_set_new hG _ _ (Nat.le_of_lt hz)) _ _ (Nat.le_refl _)) _ _ (Nat.le_refl _)) _ _ (Nat.le_refl _)

set_option maxRecDepth 100000 in
set_option maxHeartbeats 8000000 in
theorem arm_ok {ex : Th.Rd} (hx : ExOK ex) {w : World} {r tb : Nat} {T : List Th.Tok} {st : Th.St} {c : Bool} {q : (Nat × List Th.Tok) × Th.Ex × Th.St} (hq : Th.parm ex c st = some q) (h : RS w r tb T st) :
    Calls Tryz.prog 250 #[.pointer (some ⟨r, 0, none⟩), .bool c] w fun en w' =>
      ∃ nv v, en = .returned (.agg #[.int .i64 q.1.1, nv, v]) ∧ Row (Since w) w' 88 2 nv q.1.2.length (namesCells q.1.2) ∧ Got (Since w) w' v q.2.1 q.2.2 ∧ RS w' r tb T q.2.2 ∧ w.grownBy w' (some r) := by
  have hrl := h.lt
  have htl := h.tlt
  unfold Th.parm at hq
  simp only [Option.bind_eq_some_iff, Option.some.injEq] at hq
  obtain ⟨q1, hq1, rfl⟩ := hq
  generalize ht0 : Th.pnumber 1 99 (Th.want [60] st) = tg at hq1 ⊢
  generalize hl0 : Th.pnames (Th.want [62] tg.2) = ln at hq1 ⊢
  have HQ := hide hq1
  have HT0 := hide ht0
  have HL0 := hide hl0
  have h0 := h.alloc (.cells #[.int .i64 0, .slice none 0 0, .nilIface] 240)
  have BR := hide (Blk.new w [.int .i64 0, .slice none 0 0, .nilIface] 240)
  have HG0 := hide (gb_alloc w (.cells #[.int .i64 0, .slice none 0 0, .nilIface] 240) (some r))
  clear hq1 h ht0 hl0
  go_enter Tryz.func250, Tryz.ntmps250
  go_wp2_with fail
  refine (expect_any h0 ⟨#[60]⟩ (by simp)).mono ?_
  rintro e w1 ⟨rfl, hs1, hg1⟩
  have HG1 := hide (gb_trans (unhide HG0) hg1)
  have BR1 := hide ((unhide BR).grown hg1 (by simp; omega))
  clear h0 hg1
  go_wp2_with fail
  refine (tag_any hs1).mono ?_
  rintro e w2 ⟨rfl, hs2, hg2⟩
  rw [show Th.pnumber 1 99 (Th.want (ByteArray.mk #[60]).data.toList st) = tg from unhide HT0] at hs2 ⊢
  have hz2 : w.heap.size < w2.heap.size := by have h1 := (unhide BR1).lt; have h2 := hg2.size; omega
  have HG2 := hide (gb_trans (gb_trans (unhide HG1) hg2) (gb_alloc w2 (.cells #[.int .i64 tg.1, .slice none 0 0, .nilIface] 240) (some r)))
  have BR2 := hide (((unhide BR1).grown hg2 (by simp; omega)).alloc (.cells #[.int .i64 tg.1, .slice none 0 0, .nilIface] 240))
  have B2 := hide (Blk.new w2 [.int .i64 tg.1, .slice none 0 0, .nilIface] 240)
  have Hs2 := hide (hs2.alloc (.cells #[.int .i64 tg.1, .slice none 0 0, .nilIface] 240))
  clear hs1 hs2 hg2
  go_wp2_with fail
  refine (expect_any (unhide Hs2) ⟨#[62]⟩ (by simp)).mono ?_
  rintro e w3 ⟨rfl, hs3, hg3⟩
  have HG3 := hide (gb_trans (unhide HG2) hg3)
  have BR3 := hide ((unhide BR2).grown hg3 (by simp; omega))
  have B3 := hide ((unhide B2).grown hg3 (by simp; omega))
  clear hg3
  go_wp2_with fail
  refine (names_any hs3).mono ?_
  rintro e w4 ⟨nv, rfl, hrow, hs4, hg4⟩
  rw [show Th.pnames (Th.want (ByteArray.mk #[62]).data.toList tg.2) = ln from unhide HL0] at hrow hs4
  have hz3 := (unhide HG3).size
  have hb3 := (unhide B3).lt
  have hR : Row (fun b => Since w b ∧ b ≠ w2.heap.size ∧ b ≠ w.heap.size) w4 88 2 nv ln.1.length (namesCells ln.1) := (Row.of_own hrow).mono (fun k _ hk => by simp only [Since]; omega)
  have HG4 := hide (gb_trans (unhide HG3) hg4)
  have BR4 := (unhide BR3).grown hg4 (by simp; omega)
  have B4 := (unhide B3).grown hg4 (by simp; omega)
  have c1 := B4.cell 1
  have f1 := B4.frozen 1
  simp at c1
  have hl4 := B4.lt
  have BR5 := hide (BR4.other ⟨w2.heap.size, 1, none⟩ nv (by simp; omega))
  have B5 := hide (B4.set 1 nv)
  have Hs5 := hide (hs4.set w2.heap.size 1 nv (by omega) (by omega))
  have HG5 := hide (gb_set_new (unhide HG4) ⟨w2.heap.size, 1, none⟩ nv (Nat.le_of_lt hz2))
  have HR5 := hide (hR.gb (gb_set w4 w2.heap.size 1 nv) (by simp))
  have hsh := row_shape hR
  clear hs3 hs4 hg4 hrow hR BR4 B4
  rcases hsh with rfl | ⟨gn, capn, rfl⟩
  all_goals
    go_wp2_with fail
    refine (expect_any (unhide Hs5) ⟨#[45, 62]⟩ (by simp)).mono ?_
    rintro e w6 ⟨rfl, hs6, hg6⟩
    have HG6 := hide (gb_trans (unhide HG5) hg6)
    have BR6 := hide ((unhide BR5).grown hg6 (by simp; omega))
    have B6 := hide ((unhide B5).grown hg6 (by simp; omega))
    have HR6 := hide ((unhide HR5).gb hg6 (fun k hk => by cases hk; simp only [Since]; omega))
    clear hg6 c1 f1
    go_wp2_with fail
    refine (hx _ _ _ _ _ _ _ (unhide HQ) hs6).mono ?_
    rintro e w7 ⟨v, rfl, hgot, hs7, hg7⟩
    have BR7 := (unhide BR6).grown hg7 (by simp; omega)
    have B7 := (unhide B6).grown hg7 (by simp; omega)
    have c0 := B7.cell 0
    have c1 := B7.cell 1
    have c2 := B7.cell 2
    have f2 := B7.frozen 2
    have d0 := BR7.cell 0
    have d1 := BR7.cell 1
    have d2 := BR7.cell 2
    have g0 := BR7.frozen 0
    have g1 := BR7.frozen 1
    have g2 := BR7.frozen 2
    simp at c0 c1 c2 d0 d1 d2
    have HG7 := hide (gb_trans (unhide HG6) hg7)
    have HR7 := hide ((unhide HR6).gb hg7 (fun k hk => by cases hk; simp only [Since]; omega))
    have hl7 := B7.lt
    have Hgot := hide (hgot.mono (S' := fun b => Since w b ∧ b ≠ w2.heap.size ∧ b ≠ w.heap.size) (fun k _ hk => by
      have h1 := (unhide HG6).size
      have h2 := (unhide B6).lt
      simp only [Since] at hk ⊢
      omega))
    have ho := hgot.one
    have Hs7 := hide hs7
    have HB7 := hide B7
    have HBR7 := hide BR7
    clear hs6 hg7 hgot hs7 B7 BR7
    rcases ho.shape with rfl | ⟨t1, x1, rfl⟩
    all_goals
      clear ho
      have FIN := hide (arm_fin tg.1 (unhide HBR7) (unhide HR7) (unhide Hgot) (unhide Hs7) (unhide HG7) hz2 hrl htl)
      go_wp2_with fail
      have p0 := (unhide FIN).1.cell 0
      have p1 := (unhide FIN).1.cell 1
      have p2 := (unhide FIN).1.cell 2
      simp at p0 p1 p2
      refine bodyPost_ret (by simp [results, Tryz.results250, go_sem, p0, p1, p2]) rfl ⟨_, _, rfl, (unhide FIN).2⟩

end Go.Proofs.YtgahgkddaljmkaaGreatDoor

namespace Go.Proofs.YtgahgkddaljmkaaGreatDoor
open Go.RowKit

/-- The end of a method that fills a struct of four cells (a name, a row, an expression) and hands it back. -/
theorem line_fin {w w7 : World} {r tb b1 : Nat} {T : List Th.Tok} {nv v : Value} {x : Th.Ex} {s : Th.St} {vs : List Value} {l : List Th.Tok} {t : TypeId} (nm : ByteArray) (at_ : Int) (hb : Blk w7 w.heap.size [.string ⟨#[]⟩, .int .i64 0, .slice none 0 0, .nilIface] t)
    (hr : Row (fun b => Since w b ∧ b ≠ b1 ∧ b ≠ w.heap.size) w7 88 2 nv l.length vs) (hg : Got (fun b => Since w b ∧ b ≠ b1 ∧ b ≠ w.heap.size) w7 v x s) (hs : RS w7 r tb T s) (hG : w.grownBy w7 (some r))
    (hrl : r < w.heap.size) (htl : tb < w.heap.size) :
    Blk ((((w7.setCell ⟨w.heap.size, 0, none⟩ (.string nm)).setCell ⟨w.heap.size, 1, none⟩ (.int .i64 at_)).setCell ⟨w.heap.size, 2, none⟩ nv).setCell ⟨w.heap.size, 3, none⟩ v) w.heap.size [.string nm, .int .i64 at_, nv, v] t ∧
    Row (Since w) ((((w7.setCell ⟨w.heap.size, 0, none⟩ (.string nm)).setCell ⟨w.heap.size, 1, none⟩ (.int .i64 at_)).setCell ⟨w.heap.size, 2, none⟩ nv).setCell ⟨w.heap.size, 3, none⟩ v) 88 2 nv l.length vs ∧
    Got (Since w) ((((w7.setCell ⟨w.heap.size, 0, none⟩ (.string nm)).setCell ⟨w.heap.size, 1, none⟩ (.int .i64 at_)).setCell ⟨w.heap.size, 2, none⟩ nv).setCell ⟨w.heap.size, 3, none⟩ v) v x s ∧
    RS ((((w7.setCell ⟨w.heap.size, 0, none⟩ (.string nm)).setCell ⟨w.heap.size, 1, none⟩ (.int .i64 at_)).setCell ⟨w.heap.size, 2, none⟩ nv).setCell ⟨w.heap.size, 3, none⟩ v) r tb T s ∧
    w.grownBy ((((w7.setCell ⟨w.heap.size, 0, none⟩ (.string nm)).setCell ⟨w.heap.size, 1, none⟩ (.int .i64 at_)).setCell ⟨w.heap.size, 2, none⟩ nv).setCell ⟨w.heap.size, 3, none⟩ v) (some r) := by
  refine ⟨?_, ?_, ?_, ?_, ?_⟩
  · exact (((hb.set 0 (.string nm)).set 1 (.int .i64 at_)).set 2 nv).set 3 v
  · exact ((((hr.gb (gb_set _ _ _ _) (by simp)).gb (gb_set _ _ _ _) (by simp)).gb (gb_set _ _ _ _) (by simp)).gb (gb_set _ _ _ _) (by simp)).mono (fun k _ hk => hk.1)
  · exact ((((hg.gb (gb_set _ _ _ _) (by simp)).gb (gb_set _ _ _ _) (by simp)).gb (gb_set _ _ _ _) (by simp)).gb (gb_set _ _ _ _) (by simp)).mono (fun k _ hk => hk.1)
  · exact (((hs.set _ _ _ (by omega) (by omega)).set _ _ _ (by omega) (by omega)).set _ _ _ (by omega) (by omega)).set _ _ _ (by omega) (by omega)
  · exact gb_set_new (gb_set_new (gb_set_new (gb_set_new hG _ _ (Nat.le_refl _)) _ _ (Nat.le_refl _)) _ _ (Nat.le_refl _)) _ _ (Nat.le_refl _)

set_option maxRecDepth 100000 in
set_option maxHeartbeats 8000000 in
theorem function_ok {ex : Th.Rd} (hx : ExOK ex) {w : World} {r tb : Nat} {T : List Th.Tok} {st : Th.St} {q : Th.Line × Th.St} (hq : Th.pline ex st = some q) (h : RS w r tb T st) :
    Calls Tryz.prog 68 #[.pointer (some ⟨r, 0, none⟩)] w fun en w' =>
      ∃ nv v, en = .returned (.agg #[.string ⟨q.1.name.s.toArray⟩, .int .i64 q.1.name.at_, nv, v]) ∧ Row (Since w) w' 88 2 nv q.1.params.length (namesCells q.1.params) ∧ Got (Since w) w' v q.1.e q.2 ∧ RS w' r tb T q.2 ∧ w.grownBy w' (some r) := by
  have hrl := h.lt
  have htl := h.tlt
  unfold Th.pline at hq
  simp only [Option.bind_eq_some_iff, Option.some.injEq] at hq
  obtain ⟨q1, hq1, rfl⟩ := hq
  generalize ht0 : Th.pname st = tg at hq1 ⊢
  generalize hl0 : Th.pnames tg.2 = ln at hq1 ⊢
  have HQ := hide hq1
  have HT0 := hide ht0
  have HL0 := hide hl0
  have h0 := h.alloc (.cells #[.string ⟨#[]⟩, .int .i64 0, .slice none 0 0, .nilIface] 93)
  have BR := hide (Blk.new w [.string ⟨#[]⟩, .int .i64 0, .slice none 0 0, .nilIface] 93)
  have HG0 := hide (gb_alloc w (.cells #[.string ⟨#[]⟩, .int .i64 0, .slice none 0 0, .nilIface] 93) (some r))
  clear hq1 h ht0 hl0
  go_enter Tryz.func68, Tryz.ntmps68
  go_wp2_with fail
  refine (name_any h0).mono ?_
  rintro e w1 ⟨rfl, hs1, hg1⟩
  rw [unhide HT0] at hs1 ⊢
  have HG1 := hide (gb_trans (unhide HG0) hg1)
  have BR1 := hide ((unhide BR).grown hg1 (by simp; omega))
  clear h0 hg1
  go_wp2_with fail
  refine (names_any hs1).mono ?_
  rintro e w4 ⟨nv, rfl, hrow, hs4, hg4⟩
  rw [unhide HL0] at hrow hs4
  have hz1 := (unhide BR1).lt
  have hz4 := hg4.size
  have hR : Row (fun b => Since w b ∧ b ≠ w4.heap.size ∧ b ≠ w.heap.size) w4 88 2 nv ln.1.length (namesCells ln.1) := (Row.of_own hrow).mono (fun k hk1 hk => by simp only [Since]; omega)
  have HG4 := hide (gb_trans (gb_trans (unhide HG1) hg4) (gb_alloc w4 (.cells #[.string ⟨tg.1.s.toArray⟩, .int .i64 tg.1.at_, nv, .nilIface] 93) (some r)))
  have BR4 := hide (((unhide BR1).grown hg4 (by simp; omega)).alloc (.cells #[.string ⟨tg.1.s.toArray⟩, .int .i64 tg.1.at_, nv, .nilIface] 93))
  have B4 := hide (Blk.new w4 [.string ⟨tg.1.s.toArray⟩, .int .i64 tg.1.at_, nv, .nilIface] 93)
  have Hs4 := hide (hs4.alloc (.cells #[.string ⟨tg.1.s.toArray⟩, .int .i64 tg.1.at_, nv, .nilIface] 93))
  have HR4 := hide (hR.gb (gb_alloc w4 (.cells #[.string ⟨tg.1.s.toArray⟩, .int .i64 tg.1.at_, nv, .nilIface] 93) none) (by simp))
  have hsh := row_shape hR
  clear hs1 hs4 hg4 hrow hR
  rcases hsh with rfl | ⟨gn, capn, rfl⟩
  all_goals
    go_wp2_with fail
    refine (expect_any (unhide Hs4) ⟨#[61]⟩ (by simp)).mono ?_
    rintro e w6 ⟨rfl, hs6, hg6⟩
    have HG6 := hide (gb_trans (unhide HG4) hg6)
    have BR6 := hide ((unhide BR4).grown hg6 (by simp; omega))
    have B6 := hide ((unhide B4).grown hg6 (by simp; omega))
    have HR6 := hide ((unhide HR4).gb hg6 (fun k hk => by cases hk; simp only [Since]; omega))
    clear hg6
    go_wp2_with fail
    refine (hx _ _ _ _ _ _ _ (unhide HQ) hs6).mono ?_
    rintro e w7 ⟨v, rfl, hgot, hs7, hg7⟩
    have BR7 := (unhide BR6).grown hg7 (by simp; omega)
    have B7 := (unhide B6).grown hg7 (by simp; omega)
    have c3 := B7.cell 3
    have f3 := B7.frozen 3
    simp at c3
    have HG7 := hide (gb_set_new (gb_trans (unhide HG6) hg7) ⟨w4.heap.size, 3, none⟩ v (by simp; omega))
    have HR7 := hide (((unhide HR6).gb hg7 (fun k hk => by cases hk; simp only [Since]; omega)).gb (gb_set w7 w4.heap.size 3 v) (by simp))
    have hl7 := B7.lt
    have Hgot := hide ((hgot.mono (S' := fun b => Since w b ∧ b ≠ w4.heap.size ∧ b ≠ w.heap.size) (fun k _ hk => by
      have h1 := (unhide HG6).size
      have h2 := (unhide B6).lt
      simp only [Since] at hk ⊢
      omega)).gb (gb_set w7 w4.heap.size 3 v) (by simp))
    have ho := hgot.one
    have Hs7 := hide (hs7.set w4.heap.size 3 v (by omega) (by omega))
    have HB7 := hide (B7.set 3 v)
    have HBR7 := hide (BR7.other ⟨w4.heap.size, 3, none⟩ v (by simp; omega))
    clear hs6 hg7 hgot hs7 B7 BR7
    rcases ho.shape with rfl | ⟨t1, x1, rfl⟩
    all_goals
      clear ho
      go_wp2_with fail
      refine (expect_any (unhide Hs7) ⟨#[59]⟩ (by simp)).mono ?_
      rintro e w8 ⟨rfl, hs8, hg8⟩
      have BR8 := (unhide HBR7).grown hg8 (by simp; omega)
      have B8 := (unhide HB7).grown hg8 (by simp; omega)
      have d0 := BR8.cell 0
      have d1 := BR8.cell 1
      have d2 := BR8.cell 2
      have d3 := BR8.cell 3
      have g0 := BR8.frozen 0
      have g1 := BR8.frozen 1
      have g2 := BR8.frozen 2
      have g3 := BR8.frozen 3
      have e0 := B8.cell 0
      have e1 := B8.cell 1
      have e2 := B8.cell 2
      have e3 := B8.cell 3
      simp at d0 d1 d2 d3 e0 e1 e2 e3
      have FIN := hide (line_fin ⟨tg.1.s.toArray⟩ tg.1.at_ BR8 ((unhide HR7).gb hg8 (fun k hk => by cases hk; simp only [Since]; omega)) (((unhide Hgot).gb hg8 (fun k hk => by cases hk; simp only [Since]; omega)).st (want_bad [59] q1.2)) hs8 (gb_trans (unhide HG7) hg8) hrl htl)
      clear hs8 hg8 BR8 B8 c3 f3
      go_wp2_with fail
      have p0 := (unhide FIN).1.cell 0
      have p1 := (unhide FIN).1.cell 1
      have p2 := (unhide FIN).1.cell 2
      have p3 := (unhide FIN).1.cell 3
      simp at p0 p1 p2 p3
      refine bodyPost_ret (by simp [results, Tryz.results68, go_sem, p0, p1, p2, p3]) rfl ⟨_, _, rfl, (unhide FIN).2⟩

end Go.Proofs.YtgahgkddaljmkaaGreatDoor

namespace Go.Proofs.YtgahgkddaljmkaaGreatDoor
open Go.RowKit
attribute [local go_sem ↓] Go.wp_at_zero Go.wp_at_succ

theorem infoBind : (Tryz.prog.info? 312).map (fun i => (i.zero, i.size, i.bytes)) = some (some (.agg #[.string ⟨#[]⟩, .int .i64 0, .nilIface]), 3, 40) := by kernel_rfl

theorem RS.drew {w : World} {r tb : Nat} {T : List Th.Tok} {st : Th.St} (h : RS w r tb T st) : RS w.drew r tb T st := h.gb (gb_drew w none) (by simp) (by simp)

theorem one3 {s : ByteArray} {p : Int} {v : Value} (h : v.oneCell' = true) : ∀ u ∈ [Value.string s, .int .i64 p, v], u.oneCell' = true := by
  intro u hu
  simp only [List.mem_cons, List.not_mem_nil, or_false] at hu
  rcases hu with rfl | rfl | rfl
  · rfl
  · rfl
  · exact h

/-- A cell that may be written, and what it holds. -/
abbrev Held (w : World) (b o : Nat) (v : Value) : Prop := w.cell? ⟨b, o, none⟩ = some v ∧ w.frozen? ⟨b, o, none⟩ = false
theorem held_of_blk {w : World} {b : Nat} {vs : List Value} {t : TypeId} (h : Blk w b vs t) (o : Nat) {v : Value} (e : vs[o]? = some v) : Held w b o v := ⟨(h.cell o).trans e, h.frozen o⟩
theorem Held.gb {w w' : World} {b o : Nat} {v : Value} (h : Held w b o v) {row : Option Nat} (hg : w.grownBy w' row) (hr : some b ≠ row) : Held w' b o v :=
  ⟨cell_gb hg h.1 hr, by rw [World.frozen?_of_block (w := w) (hg.block b (cell_lt h.1) hr)]; exact h.2⟩
theorem Held.drew {w : World} {b o : Nat} {v : Value} (h : Held w b o v) : Held w.drew b o v := h
theorem Held.alloc {w : World} {b o : Nat} {v : Value} (h : Held w b o v) (ob : Obj) : Held (w.alloc ob) b o v := h.gb (gb_alloc w ob none) (by simp)

/-- The binds of a let that have been read: their slice in the struct in block eb, and what each stands for. -/
structure Binds (w wr : World) (r tb eb : Nat) (T : List Th.Tok) (rc : Bool) (l : List Th.Tok) (es : List Th.Ex) (s1 : Th.St) (sv : Value) : Prop where
  blk : Blk wr eb [.bool rc, sv, .nilIface] 178
  lo : w.heap.size ≤ eb
  rs : RS wr r tb T s1
  gb : w.grownBy wr (some r)
  len : l.length = es.length
  parts : ∃ pvs, pvs.length = l.length ∧ wr.ownsRow (eb + 1) 312 3 sv l.length (bindCells l pvs) ∧
    (s1.bad = none → ∃ n, ∀ (i : Nat) (pv : Value) (p : Th.Ex), pvs[i]? = some pv → es[i]? = some p → Rep (fun b => eb < b ∧ some b ≠ sv.ownBlock) wr n pv p)

theorem get_snoc {α : Type} {l : List α} {a : α} {i : Nat} {x : α} (h : (l ++ [a])[i]? = some x) : l[i]? = some x ∨ (i = l.length ∧ x = a) := by
  rcases Nat.lt_or_ge i l.length with hi | hi
  · rw [List.getElem?_append_left hi] at h
    exact .inl h
  · rw [List.getElem?_append_right hi] at h
    have : i - l.length = 0 := by
      rcases Nat.eq_zero_or_pos (i - l.length) with h0 | h0
      · exact h0
      · rw [List.getElem?_eq_none (by simp; omega)] at h
        simp at h
    rw [this] at h
    simp at h
    exact .inr ⟨by omega, h.symm⟩

/-- One bind more. -/
theorem Binds.add {w wr w2 w3 : World} {r tb eb : Nat} {T : List Th.Tok} {rc : Bool} {l : List Th.Tok} {es : List Th.Ex} {s1 s2 : Th.St} {sv v : Value} {x : Th.Tok} {e : Th.Ex} {g cap : Nat} {pvs : List Value} {o : Obj}
    (hB : Binds w wr r tb eb T rc l es s1 sv) (hl : pvs.length = l.length) (hro : wr.ownsRow (eb + 1) 312 3 sv l.length (bindCells l pvs))
    (hre : s1.bad = none → ∃ n, ∀ (i : Nat) (pv : Value) (p : Th.Ex), pvs[i]? = some pv → es[i]? = some p → Rep (fun b => eb < b ∧ some b ≠ sv.ownBlock) wr n pv p)
    (hrl : r < w.heap.size) (htl : tb < w.heap.size)
    (hgot : Got (Since wr.drew) w2 v e s2) (hs2 : RS w2 r tb T s2) (hg2 : wr.drew.grownBy w2 (some r))
    (hown : w3.ownsRow (eb + 1) 312 3 (.slice (some ⟨g, 0, none⟩) (l.length + 1) cap) (l.length + 1) (bindCells l pvs ++ [.string ⟨x.s.toArray⟩, .int .i64 x.at_, v]))
    (hgrow : (w2.alloc o).grownBy w3 sv.ownBlock) (hat : sv.ownBlock = some g ∨ g = w2.heap.size + 1) (hbad : s2.bad = none → s1.bad = none) :
    Binds w (w3.setCell ⟨eb, 1, none⟩ (.slice (some ⟨g, 0, none⟩) (l.length + 1) cap)) r tb eb T rc (l ++ [x]) (es ++ [e]) s2 (.slice (some ⟨g, 0, none⟩) (l.length + 1) cap) := by
  have hlo := hB.lo
  have heb := hB.blk.lt
  have hz2 : wr.heap.size ≤ w2.heap.size := hg2.size
  have hsvb : ∀ b, sv.ownBlock = some b → eb < b ∧ b < wr.heap.size := fun b hb => ⟨(hro.lt b hb).1, (hro.lt b hb).2⟩
  have hne : some eb ≠ sv.ownBlock := fun e => by have := (hsvb eb e.symm).1; omega
  have hge : eb < g := by
    rcases hat with h | h
    · exact (hsvb g h).1
    · omega
  have hrs : some r ≠ sv.ownBlock := fun e => by have := (hsvb r e.symm).1; omega
  have hts : some tb ≠ sv.ownBlock := fun e => by have := (hsvb tb e.symm).1; omega
  have hblk3 : Blk w3 eb [.bool rc, sv, .nilIface] 178 := ((hB.blk.drew.grown hg2 (by simp; omega)).alloc o).grown hgrow hne
  refine ⟨?_, hlo, ?_, ?_, by simp [hB.len], pvs ++ [v], by simp [hl], ?_, ?_⟩
  · exact hblk3.set 1 _
  · exact ((hs2.alloc o).gb hgrow hrs hts).set eb 1 _ (by omega) (by omega)
  · refine gb_set_new ?_ _ _ hlo
    have h1 : w.grownBy (w2.alloc o) (some r) := gb_trans (gb_trans (gb_trans hB.gb (gb_drew wr _)) hg2) (gb_alloc w2 o _)
    exact ⟨hgrow.os.trans h1.os, hgrow.tape.trans h1.tape, hgrow.output.trans h1.output, Nat.le_trans h1.size hgrow.size,
      fun k hk hr => (hgrow.block k (Nat.lt_of_lt_of_le hk h1.size) (fun e => by have := (hsvb k e.symm).1; omega)).trans (h1.block k hk hr)⟩
  · rw [bindCells_snoc l pvs x v hl.symm, List.length_append]
    exact ownsRow_setCell_below (a := ⟨eb, 1, none⟩) hown (by simp) _
  · intro hb
    obtain ⟨n1, hn1⟩ := hre (hbad hb)
    obtain ⟨n2, hn2⟩ := hgot.rep hb
    refine ⟨n1 + n2, fun i pv p hpv hp => ?_⟩
    have key : ∀ b, eb < b → some b ≠ sv.ownBlock → b < w2.heap.size → some b ≠ some g := by
      intro b hb1 hb2 hb3 e
      cases e
      rcases hat with h | h
      · exact hb2 h.symm
      · omega
    rcases get_snoc hpv with h1 | ⟨h1, rfl⟩
    · rcases get_snoc hp with h2 | ⟨h2, rfl⟩
      · have hr := (hn1 i pv p h1 h2).le (Nat.le_add_right n1 n2)
        have a1 := hr.gb (gb_drew wr none) (by simp)
        have a2 := a1.gb hg2 (fun k hk => by cases hk; omega)
        have a3 : Rep (fun b => eb < b ∧ some b ≠ sv.ownBlock ∧ b < w2.heap.size) w2 (n1 + n2) pv p := a2.mono (fun k hk h => ⟨h.1, h.2, hk⟩)
        have a4 := a3.gb (gb_alloc w2 o none) (by simp)
        have a5 := a4.gb hgrow (fun k hk h => h.2.1 hk.symm)
        have a6 := a5.gb (gb_set w3 eb 1 (.slice (some ⟨g, 0, none⟩) (l.length + 1) cap)) (fun k hk h => by cases hk; omega)
        exact a6.mono (fun k _ h => ⟨h.1, key k h.1 h.2.1 h.2.2⟩)
      · rw [List.getElem?_eq_none (by rw [hl, hB.len]; omega)] at h1
        simp at h1
    · rcases get_snoc hp with h2 | ⟨h2, rfl⟩
      · rw [List.getElem?_eq_none (by rw [← hB.len, ← hl]; omega)] at h2
        simp at h2
      · have a2 := hn2.le (Nat.le_add_left n2 n1)
        have a3 : Rep (fun b => wr.heap.size ≤ b ∧ b < w2.heap.size) w2 (n1 + n2) pv p := a2.mono (fun k hk h => ⟨h, hk⟩)
        have a4 := a3.gb (gb_alloc w2 o none) (by simp)
        have a5 := a4.gb hgrow (fun k hk h => by have := (hsvb k hk).2; omega)
        have a6 := a5.gb (gb_set w3 eb 1 (.slice (some ⟨g, 0, none⟩) (l.length + 1) cap)) (fun k hk h => by cases hk; omega)
        exact a6.mono (fun k _ h => ⟨by omega, key k (by omega) (fun e => by have := (hsvb k e.symm).2; omega) h.2⟩)

end Go.Proofs.YtgahgkddaljmkaaGreatDoor

namespace Go.Proofs.YtgahgkddaljmkaaGreatDoor
open Go.RowKit
attribute [local go_sem ↓] Go.wp_at_zero Go.wp_at_succ

/-- A reader that has failed stays so. -/
def Keeps (ex : Th.Rd) : Prop := ∀ c st q, ex c st = some q → q.2.bad = none → st.bad = none

theorem name_bad (st : Th.St) : (Th.pname st).2.bad = none → st.bad = none := by
  intro h
  unfold Th.pname at h
  split at h
  · simpa [Th.St.adv] using h
  · simp only at h
    unfold Th.St.fail at h
    split at h
    · simp at h
    · exact h

/-- The reader goes on; the binds stand. -/
theorem Binds.step {w wr w' : World} {r tb eb : Nat} {T : List Th.Tok} {rc : Bool} {l : List Th.Tok} {es : List Th.Ex} {s1 s2 : Th.St} {sv : Value} (hB : Binds w wr r tb eb T rc l es s1 sv) (hrl : r < w.heap.size)
    (hg : wr.grownBy w' (some r)) (hs : RS w' r tb T s2) (hb : s2.bad = none → s1.bad = none) : Binds w w' r tb eb T rc l es s2 sv := by
  have hlo := hB.lo
  obtain ⟨pvs, h1, h2, h3⟩ := hB.parts
  refine ⟨hB.blk.grown hg (by simp; omega), hlo, hs, gb_trans hB.gb hg, hB.len, pvs, h1, h2.kept hg (own_ne h2 (by omega)), fun hbad => ?_⟩
  obtain ⟨n, hn⟩ := h3 (hb hbad)
  exact ⟨n, fun i pv p a b => (hn i pv p a b).gb hg (fun k hk => by cases hk; omega)⟩

theorem fail_bad {st : Th.St} : st.fail.bad ≠ none := by
  unfold Th.St.fail
  split
  · simp
  · simp_all

/-- A let, built of its binds and its body. -/
theorem rep_let {w wr w' : World} {r tb eb : Nat} {T : List Th.Tok} {rc : Bool} {l : List Th.Tok} {es : List Th.Ex} {s1 s2 : Th.St} {sv v : Value} {e : Th.Ex} (hB : Binds w wr r tb eb T rc l es s1 sv) (hrl : r < w.heap.size)
    (hg : wr.grownBy w' (some r)) (hgot : Got (Since wr) w' v e s2) (hb : s2.bad = none → s1.bad = none) :
    Got (Since w) (w'.setCell ⟨eb, 2, none⟩ v) (.iface 178 (.agg #[.bool rc, sv, v])) (Th.mkLet rc l es e) s2 := by
  have hlo := hB.lo
  have heb := hB.blk.lt
  obtain ⟨pvs, h1, h2, h3⟩ := hB.parts
  refine ⟨one_iface _ _, fun hbad => ?_⟩
  obtain ⟨n1, hn1⟩ := h3 (hb hbad)
  obtain ⟨n2, hn2⟩ := hgot.rep hbad
  have hz := hB.gb.size
  have hset := gb_set w' eb 2 v
  refine ⟨n1 + n2 + 1, .inr (.inr (.inr (.inr (.inr (.inr (.inl ?_))))))⟩
  refine ⟨by cases rc <;> simp [Th.mkLet], sv, v, e, es, pvs, rfl, by cases rc <;> rfl, hB.len.symm, h1, ?_, ?_, ?_⟩
  · have hk := (h2.kept hg (own_ne h2 (by omega))).kept hset (own_ne h2 (by omega))
    exact ⟨own_base hk (Nat.zero_le _), fun b hb => by have := (hk.lt b hb).1; simp only [Since]; omega⟩
  · intro i pv p a b
    exact (((hn1 i pv p a b).le (by omega)).gb hg (fun k hk => by cases hk; omega)).gb hset (fun k hk => by cases hk; omega) |>.mono (fun k _ h => by simp only [Since]; omega)
  · exact ((hn2.le (by omega)).gb hset (fun k hk => by cases hk; simp only [Since]; omega)).mono (fun k _ h => by simp only [Since] at *; omega)

set_option maxRecDepth 100000 in
set_option maxHeartbeats 8000000 in
theorem let_ok {ex : Th.Rd} (hx : ExOK ex) (hk : Keeps ex) {w : World} {r tb : Nat} {T : List Th.Tok} {st : Th.St} {c : Bool} {k : Nat} {q : Th.Ex × Th.St} (hkk : k ≤ 1000000) (hq : Th.plet ex k c st = some q) (h : RS w r tb T st) :
    Calls Tryz.prog 193 #[.pointer (some ⟨r, 0, none⟩), .bool c] w fun en w' => Reads w r tb T q.1 q.2 en w' := by
  have hrl := h.lt
  have htl := h.tlt
  obtain ⟨i0, hi0, hz0, hz1, hz2⟩ := info_parts infoBind
  have HI := hide hi0; clear hi0
  have HZ := hide (And.intro hz0 (And.intro hz1 hz2)); clear hz0 hz1 hz2
  unfold Th.plet at hq
  simp only [Option.bind_eq_some_iff, Option.some.injEq] at hq
  obtain ⟨q1, hq1, q2, hq2, rfl⟩ := hq
  generalize hrc : st.is Th.sRec = rc at hq1 ⊢
  have HRC := hide hrc
  obtain ⟨s0, hs0⟩ : ∃ s, (if rc = true then st.adv else st) = s := ⟨_, rfl⟩
  rw [hs0] at hq1
  have HS0 := hide hs0
  have HQ1 := hide hq1
  have HQ2 := hide hq2
  clear hrc hq1 hq2 hs0
  cases k with
  | zero => have := unhide HQ1; simp [Th.pbinds] at this
  | succ k =>
    have hp := unhide HQ1
    rw [Th.pbinds] at hp
    simp only [Option.bind_eq_some_iff] at hp
    obtain ⟨q3, hq3, hq4⟩ := hp
    have HQ3 := hide hq3
    have HQ4 := hide hq4
    clear hq3 hq4
    go_enter Tryz.func193, Tryz.ntmps193
    go_wp2_with fail
    refine (accept_any h ⟨#[114, 101, 99]⟩ (by simp)).mono ?_
    rintro e w1 ⟨rfl, hs1, hg1⟩
    rw [show st.is (ByteArray.mk #[114, 101, 99]).data.toList = rc from unhide HRC] at hs1 ⊢
    rw [unhide HS0] at hs1
    have hz := hg1.size
    have HB0 : Hid (Binds w (w1.alloc (.cells #[.bool rc, .slice none 0 0, .nilIface] 178)) r tb w1.heap.size T rc [] [] s0 (.slice none 0 0)) :=
      hide ⟨Blk.new w1 [.bool rc, .slice none 0 0, .nilIface] 178, hz, hs1.alloc _, gb_trans hg1 (gb_alloc w1 _ _), rfl, [], rfl, World.ownsRow_nil _ _ _ _, fun _ => ⟨0, fun i pv p hh _ => by simp at hh⟩⟩
    have hS0 := hide (held_of_blk (unhide HB0).blk 1 (v := .slice none 0 0) rfl)
    have CON := hide (fun (W : World) (hW : RS W r tb T s0) => bind_ok hx (unhide HQ3) hW)
    clear h hs1 hg1
    go_wp2_with fail
    go_cut [10] (fun _ wc => ∃ sv, Binds w wc r tb w1.heap.size T rc [(Th.pname s0).1] [q3.1] q3.2 sv)
    case first =>
      go_region_law (first
        | (refine step_append_lies _ (by rfl) _ _ _ (by rfl) (w1.heap.size + 1) 312 i0 _ 3 40 Tryz.underlying176 (unhide HI) (unhide HZ).1 (unhide HZ).2.1 (unhide HZ).2.2 rfl (by omega) (.slice none 0 0) 0 [] (by rfl) (World.ownsRow_nil _ _ _ _) ⟨w2.heap.size, 0, none⟩ 1 1 [.string ⟨(Th.pname s0).1.s.toArray⟩, .int .i64 (Th.pname s0).1.at_, v] (by rfl) (by rfl) (World.news_of_block (cs := #[.string ⟨(Th.pname s0).1.s.toArray⟩, .int .i64 (Th.pname s0).1.at_, v]) (t := 312) (fr := (0, 0)) (heap_alloc_new w2 _)) (one3 hone) (by omega) (by unfold maxLen; omega) (by omega) (by simp; omega) (w2.heap.size + 1) (by simp) ?_; intro g cap w3 hown hgrow hat hlt; have h3 := hide (((unhide H2).alloc _).gb hgrow (by simp [Value.ownBlock])); have h3c := (unhide h3).1; have h3f := (unhide h3).2)
        | (go_simp; go_wp2_with (go_at_call 249; refine (unhide CON _ ?_).mono ?_; exact (unhide HB0).rs.drew; rintro e w2 ⟨v, rfl, hgot, hs2, hg2⟩; have hone := hgot.one.one; have hsz2 : w1.heap.size < w2.heap.size := (by have := hg2.size; simp at this; omega); have Hgot := hide hgot; have Hs2 := hide hs2; have HG2 := hide hg2; have H2 := hide ((unhide hS0).drew.gb hg2 (by simp; omega)); have h2c := (unhide H2).1; have h2f := (unhide H2).2; clear hgot hs2)))
      all_goals
        go_wp2_with fail
        go_meet
        case rel =>
          exact ⟨_, (unhide HB0).add (pvs := []) rfl (World.ownsRow_nil _ _ _ _) (fun _ => ⟨0, fun i pv p hh _ => by simp at hh⟩) hrl htl (unhide Hgot) (unhide Hs2) (unhide HG2) hown hgrow hat (fun hb => name_bad _ (want_bad [61] _ (hk _ _ _ (unhide HQ3) hb)))⟩
    case rest =>
      obtain ⟨sv0, hB1⟩ := hcut
      have HB1 := hide hB1
      clear hB1
      go_wp2_with fail
      go_loopg [17] k (fun g _ wr => ∃ l es s1 sv, Binds w wr r tb w1.heap.size T rc l es s1 sv ∧ l ≠ [] ∧ l.length + g ≤ k + 1 ∧ (if s1.is [59] = true then Th.pbinds ex g l es s1.adv else some (l, es, s1)) = some q1)
      case atStart => exact ⟨_, _, _, _, unhide HB1, by simp, by simp; omega, unhide HQ4⟩
      case round =>
        obtain ⟨l, es, s1, sv, hB, hne, hlk, hp⟩ := hrel
        have HB := hide hB
        have hs := hB.rs
        clear hB
        cases h5 : s1.is [59]
        · rw [h5] at hp
          simp only [Bool.false_eq_true, if_false, Option.some.injEq] at hp
          subst hp
          have H5 := hide h5
          clear h5
          go_wp2_with fail
          refine (accept_any hs ⟨#[59]⟩ (by simp)).mono ?_
          rintro e w4 ⟨rfl, hs4, hg4⟩
          rw [show s1.is (ByteArray.mk #[59]).data.toList = false from unhide H5] at hs4 ⊢
          have hs4' : RS w4 r tb T s1 := by simpa using hs4
          have HB4 := hide ((unhide HB).step hrl hg4 hs4' (fun hb => hb))
          clear hs hs4 hg4
          go_wp2_with fail
          refine (expect_any hs4' ⟨#[105, 110]⟩ (by simp)).mono ?_
          rintro e w5 ⟨rfl, hs5, hg5⟩
          have HB5 := hide ((unhide HB4).step hrl hg5 hs5 (want_bad _ _))
          clear hs4' hg5
          go_wp2_with fail
          refine (hx _ _ _ _ _ _ _ (unhide HQ2) hs5).mono ?_
          rintro en w6 ⟨v, rfl, hgot, hs6, hg6⟩
          have hB6 := (unhide HB5).blk.grown hg6 (by simp; omega)
          have d0 := hB6.cell 0
          have d1 := hB6.cell 1
          have d2 := hB6.cell 2
          have f2 := hB6.frozen 2
          simp at d0 d1 d2
          have FIN := hide (rep_let (unhide HB5) hrl hg6 hgot (fun hb => hk _ _ _ (unhide HQ2) hb))
          have HG6 := hide (gb_set_new (gb_trans (unhide HB5).gb hg6) ⟨w1.heap.size, 2, none⟩ v hz)
          have Hs6 := hide (hs6.set w1.heap.size 2 v (by omega) (by omega))
          have ho := hgot.one
          obtain ⟨pvs, -, hrow, -⟩ := (unhide HB5).parts
          have hsh := row_shape (Row.of_own hrow)
          clear hs5 hgot hs6 hg6 hB6 hrow
          rcases hsh with rfl | ⟨gs, caps, rfl⟩ <;> rcases ho.shape with rfl | ⟨t1, x1, rfl⟩
          all_goals
            clear ho
            go_wp2_with fail
            go_ret
            exact ⟨_, rfl, unhide FIN, unhide Hs6, unhide HG6⟩
        · rw [h5] at hp
          simp only [if_true] at hp
          cases gk with
          | zero => simp [Th.pbinds] at hp
          | succ g0 =>
            rw [Th.pbinds] at hp
            simp only [Option.bind_eq_some_iff] at hp
            obtain ⟨q5, hq5, hq6⟩ := hp
            have HQ5 := hide hq5
            have HQ6 := hide hq6
            have H5 := hide h5
            have CON2 := hide (fun (W : World) (hW : RS W r tb T s1.adv) => bind_ok hx (unhide HQ5) hW)
            clear h5 hq5 hq6
            go_wp2_with fail
            refine (accept_any hs ⟨#[59]⟩ (by simp)).mono ?_
            rintro e w4 ⟨rfl, hs4, hg4⟩
            rw [show s1.is (ByteArray.mk #[59]).data.toList = true from unhide H5] at hs4 ⊢
            have hs4' : RS w4 r tb T s1.adv := by simpa using hs4
            have HB4 := hide ((unhide HB).step hrl hg4 hs4' (fun _ => is_bad (unhide H5)))
            obtain ⟨pvs, hpl, hrow, hrep⟩ := (unhide HB4).parts
            have hsh := row_shape (Row.of_own hrow)
            rcases hsh with rfl | ⟨gs, caps, rfl⟩
            · exfalso
              rcases hrow.2 with ⟨-, h0⟩ | ⟨_, _, _, h0, _⟩
              · exact hne (List.length_eq_zero_iff.1 h0)
              · cases h0
            · have hgs := (hrow.lt gs rfl)
              have HR := hide (And.intro hpl (And.intro hrow hrep))
              have hS4 := hide (held_of_blk (unhide HB4).blk 1 (v := .slice (some ⟨gs, 0, none⟩) l.length caps) rfl)
              have h4c := (unhide hS4).1
              have h4f := (unhide hS4).2
              have hl4 := (unhide HB4).blk.lt
              clear hs hs4 hg4 hs4' hpl hrow hrep
              go_wp2_with fail
              go_region_law (first
                | (refine step_append_lies _ (by rfl) _ _ _ (by rfl) (w1.heap.size + 1) 312 i0 _ 3 40 Tryz.underlying176 (unhide HI) (unhide HZ).1 (unhide HZ).2.1 (unhide HZ).2.2 rfl (by omega) (.slice (some ⟨gs, 0, none⟩) l.length caps) l.length (bindCells l pvs) (by rfl) (hrow5.alloc _) ⟨w5.heap.size, 0, none⟩ 1 1 [.string ⟨(Th.pname s1.adv).1.s.toArray⟩, .int .i64 (Th.pname s1.adv).1.at_, v5] (by rfl) (by rfl) (World.news_of_block (cs := #[.string ⟨(Th.pname s1.adv).1.s.toArray⟩, .int .i64 (Th.pname s1.adv).1.at_, v5]) (t := 312) (fr := (0, 0)) (heap_alloc_new w5 _)) (one3 hone) (by omega) (by unfold maxLen; omega) (by omega) (by simp; omega) (w5.heap.size + 1) (by simp) ?_; intro g cap w6 hown hgrow hat hlt; have h6 := hide (((unhide H5h).alloc _).gb hgrow (by simp [Value.ownBlock]; omega)); have h6c := (unhide h6).1; have h6f := (unhide h6).2)
                | (go_simp; go_wp2_with (go_at_call 249; refine (unhide CON2 _ ?_).mono ?_; exact (unhide HB4).rs.drew; rintro e w5 ⟨v5, rfl, hgot, hs5, hg5⟩; have hone := hgot.one.one; have hsz5 : w1.heap.size < w5.heap.size := (by have := hg5.size; simp at this; omega); have Hgot := hide hgot; have Hs5 := hide hs5; have HG5 := hide hg5; have H5h := hide ((unhide hS4).drew.gb hg5 (by simp; omega)); have h5c := (unhide H5h).1; have h5f := (unhide H5h).2; have hrow5 := (unhide HR).2.1.drew.kept hg5 (own_ne (unhide HR).2.1 (by omega)); clear hgot hs5)))
              all_goals
                go_wp2_with fail
                go_roundg g0
                case measure => omega
                case rel =>
                  exact ⟨_, _, _, _, (unhide HB4).add (unhide HR).1 (unhide HR).2.1 (unhide HR).2.2 hrl htl (unhide Hgot) (unhide Hs5) (unhide HG5) hown hgrow hat (fun hb => name_bad _ (want_bad [61] _ (hk _ _ _ (unhide HQ5) hb))), by simp, by simp; omega, unhide HQ6⟩

end Go.Proofs.YtgahgkddaljmkaaGreatDoor

namespace Go.Proofs.YtgahgkddaljmkaaGreatDoor
open Go.RowKit
attribute [local go_sem ↓] Go.wp_at_zero Go.wp_at_succ

theorem infoArm : (Tryz.prog.info? 240).map (fun i => (i.zero, i.size, i.bytes)) = some (some (.agg #[.int .i64 0, .slice none 0 0, .nilIface]), 3, 48) := by kernel_rfl

theorem onea {p : Int} {u v : Value} (h1 : u.oneCell' = true) (h : v.oneCell' = true) : ∀ x ∈ [Value.int .i64 p, u, v], x.oneCell' = true := by
  intro x hu
  simp only [List.mem_cons, List.not_mem_nil, or_false] at hu
  rcases hu with rfl | rfl | rfl
  · rfl
  · exact h1
  · exact h
theorem row_one {S : Nat → Prop} {w : World} {e : TypeId} {size n : Nat} {v : Value} {xs : List Value} (h : Row S w e size v n xs) : v.oneCell' = true := by
  rcases row_shape h with rfl | ⟨g, cap, rfl⟩ <;> rfl

/-- The arms of a case that have been read: their slice in the struct in block eb, and what each stands for. -/
structure Arms (w wr : World) (r tb eb : Nat) (T : List Th.Tok) (cv : Value) (ce : Th.Ex) (l : List (Nat × List Th.Tok)) (es : List Th.Ex) (s1 : Th.St) (sv : Value) : Prop where
  blk : Blk wr eb [cv, sv] 173
  lo : w.heap.size ≤ eb
  rs : RS wr r tb T s1
  gb : w.grownBy wr (some r)
  len : l.length = es.length
  subj : s1.bad = none → ∃ n, Rep (fun b => Since w b ∧ b < eb) wr n cv ce
  parts : ∃ nvs bvs, nvs.length = l.length ∧ bvs.length = l.length ∧ wr.ownsRow (eb + 1) 240 3 sv l.length (armCells l nvs bvs) ∧
    (s1.bad = none → ∃ n, (∀ (i : Nat) (a : Nat × List Th.Tok) (nv : Value), l[i]? = some a → nvs[i]? = some nv → Row (fun b => eb < b ∧ some b ≠ sv.ownBlock) wr 88 2 nv a.2.length (namesCells a.2)) ∧
      (∀ (i : Nat) (bv : Value) (p : Th.Ex), bvs[i]? = some bv → es[i]? = some p → Rep (fun b => eb < b ∧ some b ≠ sv.ownBlock) wr n bv p))

/-- One arm more. -/
theorem Arms.add {w wr w2 w3 : World} {r tb eb : Nat} {T : List Th.Tok} {cv : Value} {ce : Th.Ex} {l : List (Nat × List Th.Tok)} {es : List Th.Ex} {s1 s2 : Th.St} {sv nv v : Value} {x : Nat × List Th.Tok} {e : Th.Ex} {g cap : Nat} {nvs bvs : List Value} {o : Obj}
    (hB : Arms w wr r tb eb T cv ce l es s1 sv) (hl1 : nvs.length = l.length) (hl2 : bvs.length = l.length) (hro : wr.ownsRow (eb + 1) 240 3 sv l.length (armCells l nvs bvs))
    (hre : s1.bad = none → ∃ n, (∀ (i : Nat) (a : Nat × List Th.Tok) (nv : Value), l[i]? = some a → nvs[i]? = some nv → Row (fun b => eb < b ∧ some b ≠ sv.ownBlock) wr 88 2 nv a.2.length (namesCells a.2)) ∧
      (∀ (i : Nat) (bv : Value) (p : Th.Ex), bvs[i]? = some bv → es[i]? = some p → Rep (fun b => eb < b ∧ some b ≠ sv.ownBlock) wr n bv p))
    (hrl : r < w.heap.size) (htl : tb < w.heap.size)
    (hnv : Row (Since wr.drew) w2 88 2 nv x.2.length (namesCells x.2)) (hgot : Got (Since wr.drew) w2 v e s2) (hs2 : RS w2 r tb T s2) (hg2 : wr.drew.grownBy w2 (some r))
    (hown : w3.ownsRow (eb + 1) 240 3 (.slice (some ⟨g, 0, none⟩) (l.length + 1) cap) (l.length + 1) (armCells l nvs bvs ++ [.int .i64 x.1, nv, v]))
    (hgrow : (w2.alloc o).grownBy w3 sv.ownBlock) (hat : sv.ownBlock = some g ∨ g = w2.heap.size + 1) (hbad : s2.bad = none → s1.bad = none) :
    Arms w (w3.setCell ⟨eb, 1, none⟩ (.slice (some ⟨g, 0, none⟩) (l.length + 1) cap)) r tb eb T cv ce (l ++ [x]) (es ++ [e]) s2 (.slice (some ⟨g, 0, none⟩) (l.length + 1) cap) := by
  have hlo := hB.lo
  have heb := hB.blk.lt
  have hz2 : wr.heap.size ≤ w2.heap.size := hg2.size
  have hsvb : ∀ b, sv.ownBlock = some b → eb < b ∧ b < wr.heap.size := fun b hb => ⟨(hro.lt b hb).1, (hro.lt b hb).2⟩
  have hne : some eb ≠ sv.ownBlock := fun e => by have := (hsvb eb e.symm).1; omega
  have hge : eb < g := by
    rcases hat with h | h
    · exact (hsvb g h).1
    · omega
  have hrs : some r ≠ sv.ownBlock := fun e => by have := (hsvb r e.symm).1; omega
  have hts : some tb ≠ sv.ownBlock := fun e => by have := (hsvb tb e.symm).1; omega
  have hblk3 : Blk w3 eb [cv, sv] 173 := ((hB.blk.drew.grown hg2 (by simp; omega)).alloc o).grown hgrow hne
  have key : ∀ b, eb < b → some b ≠ sv.ownBlock → b < w2.heap.size → some b ≠ some g := by
    intro b hb1 hb2 hb3 e
    cases e
    rcases hat with h | h
    · exact hb2 h.symm
    · omega
  have oldR : ∀ {ty : TypeId} {sz m : Nat} {u : Value} {ys : List Value}, Row (fun b => eb < b ∧ some b ≠ sv.ownBlock) wr ty sz u m ys →
      Row (fun b => eb < b ∧ some b ≠ some g) (w3.setCell ⟨eb, 1, none⟩ (.slice (some ⟨g, 0, none⟩) (l.length + 1) cap)) ty sz u m ys := by
    intro ty sz m u ys hr
    have a1 := hr.gb (gb_drew wr none) (by simp)
    have a2 := a1.gb hg2 (fun k hk => by cases hk; omega)
    have a3 : Row (fun b => eb < b ∧ some b ≠ sv.ownBlock ∧ b < w2.heap.size) w2 ty sz u m ys := a2.mono (fun k hk h => ⟨h.1, h.2, hk⟩)
    have a4 := a3.gb (gb_alloc w2 o none) (by simp)
    have a5 := a4.gb hgrow (fun k hk h => h.2.1 hk.symm)
    have a6 := a5.gb (gb_set w3 eb 1 (.slice (some ⟨g, 0, none⟩) (l.length + 1) cap)) (fun k hk h => by cases hk; omega)
    exact a6.mono (fun k _ h => ⟨h.1, key k h.1 h.2.1 h.2.2⟩)
  have newR : ∀ {ty : TypeId} {sz m : Nat} {u : Value} {ys : List Value}, Row (Since wr.drew) w2 ty sz u m ys →
      Row (fun b => eb < b ∧ some b ≠ some g) (w3.setCell ⟨eb, 1, none⟩ (.slice (some ⟨g, 0, none⟩) (l.length + 1) cap)) ty sz u m ys := by
    intro ty sz m u ys hr
    have a3 : Row (fun b => wr.heap.size ≤ b ∧ b < w2.heap.size) w2 ty sz u m ys := hr.mono (fun k hk h => ⟨h, hk⟩)
    have a4 := a3.gb (gb_alloc w2 o none) (by simp)
    have a5 := a4.gb hgrow (fun k hk h => by have := (hsvb k hk).2; omega)
    have a6 := a5.gb (gb_set w3 eb 1 (.slice (some ⟨g, 0, none⟩) (l.length + 1) cap)) (fun k hk h => by cases hk; omega)
    exact a6.mono (fun k _ h => ⟨by omega, key k (by omega) (fun e => by have := (hsvb k e.symm).2; omega) h.2⟩)
  refine ⟨?_, hlo, ?_, ?_, by simp [hB.len], ?_, nvs ++ [nv], bvs ++ [v], by simp [hl1], by simp [hl2], ?_, ?_⟩
  · exact hblk3.set 1 _
  · exact ((hs2.alloc o).gb hgrow hrs hts).set eb 1 _ (by omega) (by omega)
  · refine gb_set_new ?_ _ _ hlo
    have h1 : w.grownBy (w2.alloc o) (some r) := gb_trans (gb_trans (gb_trans hB.gb (gb_drew wr _)) hg2) (gb_alloc w2 o _)
    exact ⟨hgrow.os.trans h1.os, hgrow.tape.trans h1.tape, hgrow.output.trans h1.output, Nat.le_trans h1.size hgrow.size,
      fun k hk hr => (hgrow.block k (Nat.lt_of_lt_of_le hk h1.size) (fun e => by have := (hsvb k e.symm).1; omega)).trans (h1.block k hk hr)⟩
  · intro hb
    obtain ⟨n, hn⟩ := hB.subj (hbad hb)
    exact ⟨n, ((((hn.gb (gb_drew wr none) (by simp)).gb hg2 (fun k hk h => by cases hk; simp only [Since] at h; omega)).gb (gb_alloc w2 o none) (by simp)).gb hgrow (fun k hk h => by have := (hsvb k hk).1; omega)).gb (gb_set w3 eb 1 _) (fun k hk h => by cases hk; omega)⟩
  · rw [armCells_snoc l nvs bvs x nv v hl1.symm hl2.symm, List.length_append]
    exact ownsRow_setCell_below (a := ⟨eb, 1, none⟩) hown (by simp) _
  · intro hb
    obtain ⟨n1, hr1, hn1⟩ := hre (hbad hb)
    obtain ⟨n2, hn2⟩ := hgot.rep hb
    refine ⟨n1 + n2, fun i a u ha hu => ?_, fun i pv p hpv hp => ?_⟩
    · rcases get_snoc ha with h1 | ⟨h1, rfl⟩
      · rcases get_snoc hu with h2 | ⟨h2, rfl⟩
        · exact oldR (hr1 i a u h1 h2)
        · rw [List.getElem?_eq_none (by omega)] at h1
          simp at h1
      · rcases get_snoc hu with h2 | ⟨h2, rfl⟩
        · rw [List.getElem?_eq_none (by omega)] at h2
          simp at h2
        · exact newR hnv
    · rcases get_snoc hpv with h1 | ⟨h1, rfl⟩
      · rcases get_snoc hp with h2 | ⟨h2, rfl⟩
        · exact Rep.imp (fun _ _ _ _ _ hR => oldR hR) _ _ _ ((hn1 i pv p h1 h2).le (Nat.le_add_right n1 n2))
        · rw [List.getElem?_eq_none (by rw [hl2, hB.len]; omega)] at h1
          simp at h1
      · rcases get_snoc hp with h2 | ⟨h2, rfl⟩
        · rw [List.getElem?_eq_none (by rw [← hB.len, ← hl2]; omega)] at h2
          simp at h2
        · exact Rep.imp (fun _ _ _ _ _ hR => newR hR) _ _ _ (hn2.le (Nat.le_add_left n2 n1))

/-- The reader goes on; the arms stand. -/
theorem Arms.step {w wr w' : World} {r tb eb : Nat} {T : List Th.Tok} {cv : Value} {ce : Th.Ex} {l : List (Nat × List Th.Tok)} {es : List Th.Ex} {s1 s2 : Th.St} {sv : Value} (hB : Arms w wr r tb eb T cv ce l es s1 sv) (hrl : r < w.heap.size)
    (hg : wr.grownBy w' (some r)) (hs : RS w' r tb T s2) (hb : s2.bad = none → s1.bad = none) : Arms w w' r tb eb T cv ce l es s2 sv := by
  have hlo := hB.lo
  obtain ⟨nvs, bvs, h1, h1', h2, h3⟩ := hB.parts
  refine ⟨hB.blk.grown hg (by simp; omega), hlo, hs, gb_trans hB.gb hg, hB.len, ?_, nvs, bvs, h1, h1', h2.kept hg (own_ne h2 (by omega)), fun hbad => ?_⟩
  · intro hbad
    obtain ⟨n, hn⟩ := hB.subj (hb hbad)
    exact ⟨n, hn.gb hg (fun k hk h => by cases hk; simp only [Since] at h; omega)⟩
  · obtain ⟨n, hr, hn⟩ := h3 (hb hbad)
    exact ⟨n, fun i a u x y => (hr i a u x y).gb hg (fun k hk => by cases hk; omega), fun i pv p a b => (hn i pv p a b).gb hg (fun k hk => by cases hk; omega)⟩

/-- A case, built of its subject and its arms. -/
theorem rep_case {w wr : World} {r tb eb : Nat} {T : List Th.Tok} {cv : Value} {ce : Th.Ex} {l : List (Nat × List Th.Tok)} {es : List Th.Ex} {s1 : Th.St} {sv : Value} (hB : Arms w wr r tb eb T cv ce l es s1 sv) :
    Got (Since w) wr (.iface 173 (.agg #[cv, sv])) (Th.mkCase ce l es) s1 := by
  have hlo := hB.lo
  obtain ⟨nvs, bvs, h1, h1', h2, h3⟩ := hB.parts
  refine ⟨one_iface _ _, fun hbad => ?_⟩
  obtain ⟨n1, hr, hn1⟩ := h3 hbad
  obtain ⟨n2, hn2⟩ := hB.subj hbad
  refine ⟨n1 + n2 + 1, .inr (.inr (.inr (.inr (.inr (.inr (.inr ?_))))))⟩
  refine ⟨rfl, cv, sv, ce, es, nvs, bvs, rfl, rfl, hB.len.symm, h1, h1', ?_, ?_, ?_, ?_⟩
  · exact ⟨own_base h2 (Nat.zero_le _), fun b hb => by have := (h2.lt b hb).1; simp only [Since]; omega⟩
  · exact fun i a u x y => (hr i a u x y).mono (fun k _ h => by simp only [Since]; omega)
  · exact fun i pv p a b => ((hn1 i pv p a b).le (by omega)).mono (fun k _ h => by simp only [Since]; omega)
  · exact (hn2.le (by omega)).mono (fun k _ h => h.1)

end Go.Proofs.YtgahgkddaljmkaaGreatDoor

namespace Go.Proofs.YtgahgkddaljmkaaGreatDoor
open Go.RowKit
attribute [local go_sem ↓] Go.wp_at_zero Go.wp_at_succ

theorem names_bad (st : Th.St) : (Th.pnames st).2.bad = none → st.bad = none := by
  intro h
  unfold Th.pnames at h
  split at h
  · simp_all
  · exact h
theorem parm_bad {ex : Th.Rd} (hk : Keeps ex) {c : Bool} {st : Th.St} {q : (Nat × List Th.Tok) × Th.Ex × Th.St} (h : Th.parm ex c st = some q) : q.2.2.bad = none → st.bad = none := by
  unfold Th.parm at h
  simp only [Option.bind_eq_some_iff, Option.some.injEq] at h
  obtain ⟨q1, h1, rfl⟩ := h
  intro hb
  exact want_bad _ _ (number_bad _ _ _ (want_bad _ _ (names_bad _ (want_bad _ _ (hk _ _ _ h1 hb)))))

theorem follows_is {c : Bool} {st : Th.St} (h : Th.armFollows c st = true) : st.is [59] = true := by
  unfold Th.armFollows at h
  cases hi : st.is [59]
  · rw [hi] at h; simp at h
  · rfl

set_option maxRecDepth 100000 in
set_option maxHeartbeats 8000000 in
theorem choice_ok {ex : Th.Rd} (hx : ExOK ex) (hk : Keeps ex) {w : World} {r tb : Nat} {T : List Th.Tok} {st : Th.St} {c : Bool} {k : Nat} {q : Th.Ex × Th.St} (hkk : k ≤ 1000000) (hq : Th.pcase ex k c st = some q) (h : RS w r tb T st) :
    Calls Tryz.prog 194 #[.pointer (some ⟨r, 0, none⟩), .bool c] w fun en w' => Reads w r tb T q.1 q.2 en w' := by
  have hrl := h.lt
  have htl := h.tlt
  obtain ⟨i0, hi0, hz0, hz1, hz2⟩ := info_parts infoArm
  have HI := hide hi0; clear hi0
  have HZ := hide (And.intro hz0 (And.intro hz1 hz2)); clear hz0 hz1 hz2
  unfold Th.pcase at hq
  simp only [Option.bind_eq_some_iff, Option.some.injEq] at hq
  obtain ⟨q0, hq0, q1, hq1, rfl⟩ := hq
  have HQ0 := hide hq0
  have HQ1 := hide hq1
  clear hq0 hq1
  cases k with
  | zero => have := unhide HQ1; simp [Th.parms] at this
  | succ k =>
    have hp := unhide HQ1
    rw [Th.parms] at hp
    simp only [Option.bind_eq_some_iff] at hp
    obtain ⟨q3, hq3, hq4⟩ := hp
    have HQ3 := hide hq3
    have HQ4 := hide hq4
    clear hq3 hq4
    go_enter Tryz.func194, Tryz.ntmps194
    go_wp2_with fail
    refine (hx _ _ _ _ _ _ _ (unhide HQ0) h).mono ?_
    rintro e w1 ⟨cv, rfl, hgot1, hs1, hg1⟩
    have hz := hg1.size
    have ho := hgot1.one
    have HB0 : Hid (Arms w (w1.alloc (.cells #[cv, .slice none 0 0] 173)) r tb w1.heap.size T cv q0.1 [] [] q0.2 (.slice none 0 0)) :=
      hide ⟨Blk.new w1 [cv, .slice none 0 0] 173, hz, hs1.alloc _, gb_trans hg1 (gb_alloc w1 _ _), rfl,
        fun hb => by obtain ⟨n, hn⟩ := hgot1.rep hb; exact ⟨n, (hn.mono (fun k hk h => ⟨h, hk⟩)).gb (gb_alloc w1 _ none) (by simp)⟩, [], [], rfl, rfl, World.ownsRow_nil _ _ _ _, fun _ => ⟨0, fun i pv p hh _ => by simp at hh, fun i pv p hh _ => by simp at hh⟩⟩
    clear h hs1 hg1 hgot1
    rcases ho.shape with rfl | ⟨t1, x1, rfl⟩
    all_goals
      clear ho
      go_wp2_with fail
      refine (expect_any (unhide HB0).rs ⟨#[111, 102]⟩ (by simp)).mono ?_
      rintro e w9 ⟨rfl, hs9, hg9⟩
      have HB9 := hide ((unhide HB0).step hrl hg9 hs9 (want_bad _ _))
      have hS0 := hide (held_of_blk (unhide HB9).blk 1 (v := .slice none 0 0) rfl)
      have h9c := (unhide hS0).1
      have h9f := (unhide hS0).2
      have hl9 := (unhide HB9).blk.lt
      have CON := hide (fun (W : World) (hW : RS W r tb T (Th.want Th.sOf q0.2)) => arm_ok hx (unhide HQ3) hW)
      clear hs9 hg9
      go_wp2_with fail
      go_cut [12] (fun _ wc => ∃ cv sv, One cv ∧ Arms w wc r tb w1.heap.size T cv q0.1 [q3.1] [q3.2.1] q3.2.2 sv)
      case first =>
        go_region_law (first
          | (refine step_append_lies _ (by rfl) _ _ _ (by rfl) (w1.heap.size + 1) 240 i0 _ 3 48 Tryz.underlying171 (unhide HI) (unhide HZ).1 (unhide HZ).2.1 (unhide HZ).2.2 rfl (by omega) (.slice none 0 0) 0 [] (by rfl) (World.ownsRow_nil _ _ _ _) ⟨w2.heap.size, 0, none⟩ 1 1 [.int .i64 q3.1.1, nv, v] (by rfl) (by rfl) (World.news_of_block (cs := #[.int .i64 q3.1.1, nv, v]) (t := 240) (fr := (0, 0)) (heap_alloc_new w2 _)) (onea hone1 hone) (by omega) (by unfold maxLen; omega) (by omega) (by simp; omega) (w2.heap.size + 1) (by simp) ?_; intro g cap w3 hown hgrow hat hlt; have h3 := hide (((unhide H2).alloc _).gb hgrow (by simp [Value.ownBlock])); have h3c := (unhide h3).1; have h3f := (unhide h3).2)
          | (go_simp; go_wp2_with (go_at_call 250; refine (unhide CON _ ?_).mono ?_; exact (unhide HB9).rs.drew; rintro e w2 ⟨nv, v, rfl, hnv, hgot, hs2, hg2⟩; have hone := hgot.one.one; have hone1 := row_one hnv; have hsz2 : w1.heap.size < w2.heap.size := (by have := hg2.size; simp at this; omega); have Hnv := hide hnv; have Hgot := hide hgot; have Hs2 := hide hs2; have HG2 := hide hg2; have H2 := hide ((unhide hS0).drew.gb hg2 (by simp; omega)); have h2c := (unhide H2).1; have h2f := (unhide H2).2; clear hgot hs2 hnv)))
        all_goals
          go_wp2_with fail
          go_meet
          case rel =>
            exact ⟨_, _, ⟨by first | exact .inl rfl | exact .inr ⟨_, _, rfl⟩⟩, (unhide HB9).add (nvs := []) (bvs := []) rfl rfl (World.ownsRow_nil _ _ _ _) (fun _ => ⟨0, fun i pv p hh _ => by simp at hh, fun i pv p hh _ => by simp at hh⟩) hrl htl (unhide Hnv) (unhide Hgot) (unhide Hs2) (unhide HG2) hown hgrow hat (parm_bad hk (unhide HQ3))⟩
      case rest =>
        obtain ⟨cv1, sv0, ho1, hB1⟩ := hcut
        have HB1 := hide (And.intro ho1 hB1)
        clear hB1 ho1
        go_wp2_with fail
        go_loopg [21] k (fun g _ wr => ∃ cv l es s1 sv, One cv ∧ Arms w wr r tb w1.heap.size T cv q0.1 l es s1 sv ∧ l ≠ [] ∧ l.length + g ≤ k + 1 ∧ (if Th.armFollows c s1 = true then Th.parms ex c g l es s1.adv else some (l, es, s1)) = some q1)
        case atStart => exact ⟨_, _, _, _, _, (unhide HB1).1, (unhide HB1).2, by simp, by simp; omega, unhide HQ4⟩
        case round =>
          obtain ⟨cv, l, es, s1, sv, hoc, hB, hne, hlk, hp⟩ := hrel
          have HB := hide hB
          have hs := hB.rs
          have HO := hide hoc
          clear hB hoc
          cases h5 : Th.armFollows c s1
          · rw [h5] at hp
            simp only [Bool.false_eq_true, if_false, Option.some.injEq] at hp
            subst hp
            have H5 := hide h5
            clear h5
            go_wp2_with fail
            refine (armFollows_any hs c).mono ?_
            rintro e w4 ⟨rfl, hb4⟩
            rw [unhide H5]
            have HB4 := hide ((unhide HB).step hrl (gb_below _ hb4) (hs.below hb4) (fun hb => hb))
            have d0 := (unhide HB4).blk.cell 0
            have d1 := (unhide HB4).blk.cell 1
            simp at d0 d1
            have FIN := hide (rep_case (unhide HB4))
            obtain ⟨nvs, bvs, -, -, hrow, -⟩ := (unhide HB4).parts
            have hsh := row_shape (Row.of_own hrow)
            clear hs hb4 hrow
            rcases hsh with rfl | ⟨gs, caps, rfl⟩ <;> rcases (unhide HO).shape with rfl | ⟨t2, x2, rfl⟩
            all_goals
              go_wp2_with fail
              go_ret
              exact ⟨_, rfl, unhide FIN, (unhide HB4).rs, (unhide HB4).gb⟩
          · rw [h5] at hp
            simp only [if_true] at hp
            cases gk with
            | zero => simp [Th.parms] at hp
            | succ g0 =>
              rw [Th.parms] at hp
              simp only [Option.bind_eq_some_iff] at hp
              obtain ⟨q5, hq5, hq6⟩ := hp
              have HQ5 := hide hq5
              have HQ6 := hide hq6
              have H5 := hide h5
              have Hw : Hid (Th.want [59] s1 = s1.adv) := hide (by rw [Th.want, follows_is h5]; simp)
              have CON2 := hide (fun (W : World) (hW : RS W r tb T s1.adv) => arm_ok hx (unhide HQ5) hW)
              clear h5 hq5 hq6
              go_wp2_with fail
              refine (armFollows_any hs c).mono ?_
              rintro e w8 ⟨rfl, hb8⟩
              rw [unhide H5]
              have hs8 := hs.below hb8
              have HB8 := hide ((unhide HB).step hrl (gb_below _ hb8) hs8 (fun hb => hb))
              clear hs hb8
              go_wp2_with fail
              refine (expect_any hs8 ⟨#[59]⟩ (by simp)).mono ?_
              rintro e w4 ⟨rfl, hs4, hg4⟩
              rw [show Th.want (ByteArray.mk #[59]).data.toList s1 = s1.adv from unhide Hw] at hs4
              have HB4 := hide ((unhide HB8).step hrl hg4 hs4 (fun _ => is_bad (follows_is (unhide H5))))
              obtain ⟨nvs, bvs, hpl1, hpl2, hrow, hrep⟩ := (unhide HB4).parts
              have hsh := row_shape (Row.of_own hrow)
              rcases hsh with rfl | ⟨gs, caps, rfl⟩
              · exfalso
                rcases hrow.2 with ⟨-, h0⟩ | ⟨_, _, _, h0, _⟩
                · exact hne (List.length_eq_zero_iff.1 h0)
                · cases h0
              · have hgs := (hrow.lt gs rfl)
                have HR := hide (And.intro (And.intro hpl1 hpl2) (And.intro hrow hrep))
                have hS4 := hide (held_of_blk (unhide HB4).blk 1 (v := .slice (some ⟨gs, 0, none⟩) l.length caps) rfl)
                have h4c := (unhide hS4).1
                have h4f := (unhide hS4).2
                have hl4 := (unhide HB4).blk.lt
                clear hs8 hs4 hg4 hpl1 hpl2 hrow hrep
                go_wp2_with fail
                go_region_law (first
                  | (refine step_append_lies _ (by rfl) _ _ _ (by rfl) (w1.heap.size + 1) 240 i0 _ 3 48 Tryz.underlying171 (unhide HI) (unhide HZ).1 (unhide HZ).2.1 (unhide HZ).2.2 rfl (by omega) (.slice (some ⟨gs, 0, none⟩) l.length caps) l.length (armCells l nvs bvs) (by rfl) (hrow5.alloc _) ⟨w5.heap.size, 0, none⟩ 1 1 [.int .i64 q5.1.1, nv5, v5] (by rfl) (by rfl) (World.news_of_block (cs := #[.int .i64 q5.1.1, nv5, v5]) (t := 240) (fr := (0, 0)) (heap_alloc_new w5 _)) (onea hone1 hone) (by omega) (by unfold maxLen; omega) (by omega) (by simp; omega) (w5.heap.size + 1) (by simp) ?_; intro g cap w6 hown hgrow hat hlt; have h6 := hide (((unhide H5h).alloc _).gb hgrow (by simp [Value.ownBlock]; omega)); have h6c := (unhide h6).1; have h6f := (unhide h6).2)
                  | (go_simp; go_wp2_with (go_at_call 250; refine (unhide CON2 _ ?_).mono ?_; exact (unhide HB4).rs.drew; rintro e w5 ⟨nv5, v5, rfl, hnv, hgot, hs5, hg5⟩; have hone := hgot.one.one; have hone1 := row_one hnv; have hsz5 : w1.heap.size < w5.heap.size := (by have := hg5.size; simp at this; omega); have Hnv := hide hnv; have Hgot := hide hgot; have Hs5 := hide hs5; have HG5 := hide hg5; have H5h := hide ((unhide hS4).drew.gb hg5 (by simp; omega)); have h5c := (unhide H5h).1; have h5f := (unhide H5h).2; have hrow5 := (unhide HR).2.1.drew.kept hg5 (own_ne (unhide HR).2.1 (by omega)); clear hgot hs5 hnv)))
                all_goals
                  go_wp2_with fail
                  go_roundg g0
                  case measure => omega
                  case rel =>
                    exact ⟨_, _, _, _, _, unhide HO, (unhide HB4).add (unhide HR).1.1 (unhide HR).1.2 (unhide HR).2.1 (unhide HR).2.2 hrl htl (unhide Hnv) (unhide Hgot) (unhide Hs5) (unhide HG5) hown hgrow hat (parm_bad hk (unhide HQ5)), by simp, by simp; omega, unhide HQ6⟩

end Go.Proofs.YtgahgkddaljmkaaGreatDoor

namespace Go.Proofs.YtgahgkddaljmkaaGreatDoor
open Go.RowKit
attribute [local go_sem ↓] Go.wp_at_zero Go.wp_at_succ

theorem names_one (l : List Th.Tok) : ∀ u ∈ namesCells l, u.oneCell' = true := by
  intro u hu
  simp only [namesCells, List.mem_flatMap, nameCells] at hu
  obtain ⟨t, _, ht⟩ := hu
  simp only [List.mem_cons, List.not_mem_nil, or_false] at ht
  rcases ht with rfl | rfl <;> rfl
theorem namesCells_len (l : List Th.Tok) : (namesCells l).length = l.length * 2 := by
  induction l with
  | nil => rfl
  | cons t l ih =>
    rw [show namesCells (t :: l) = nameCells t ++ namesCells l from rfl, List.length_append, ih]
    simp only [nameCells, List.length_cons, List.length_nil]
    omega
theorem names_few {w : World} {r tb : Nat} {T : List Th.Tok} {st : Th.St} (h : RS w r tb T st) : (Th.pnames st).1.length ≤ 100000 := by
  have := rest_le h
  unfold Th.pnames
  split
  · exact Nat.le_trans (List.takeWhile_prefix _).length_le this
  · simp

/-- What stands in the struct of a function without a name, when its names have been read. -/
structure Lam (w wr : World) (r tb eb : Nat) (T : List Th.Tok) (l : List Th.Tok) (s1 : Th.St) (sv : Value) : Prop where
  blk : Blk wr eb [sv, .nilIface] 226
  lo : w.heap.size ≤ eb
  rs : RS wr r tb T s1
  gb : w.grownBy wr (some r)
  row : Row (fun b => Since w b ∧ b ≠ eb) wr 88 2 sv l.length (namesCells l)

theorem Lam.step {w wr w' : World} {r tb eb : Nat} {T : List Th.Tok} {l : List Th.Tok} {s1 s2 : Th.St} {sv : Value} (hB : Lam w wr r tb eb T l s1 sv) (hrl : r < w.heap.size)
    (hg : wr.grownBy w' (some r)) (hs : RS w' r tb T s2) : Lam w w' r tb eb T l s2 sv := by
  have hlo := hB.lo
  exact ⟨hB.blk.grown hg (by simp; omega), hlo, hs, gb_trans hB.gb hg, hB.row.gb hg (fun k hk h => by cases hk; simp only [Since] at h; omega)⟩

theorem rep_lam {w wr w' : World} {r tb eb : Nat} {T : List Th.Tok} {l : List Th.Tok} {s1 s2 : Th.St} {sv v : Value} {e : Th.Ex} (hB : Lam w wr r tb eb T l s1 sv) (hrl : r < w.heap.size)
    (hg : wr.grownBy w' (some r)) (hgot : Got (Since wr) w' v e s2) :
    Got (Since w) (w'.setCell ⟨eb, 1, none⟩ v) (.iface 226 (.agg #[sv, v])) (Th.mkFun l e) s2 := by
  have hlo := hB.lo
  have heb := hB.blk.lt
  have hz := hB.gb.size
  refine ⟨one_iface _ _, fun hbad => ?_⟩
  obtain ⟨n2, hn2⟩ := hgot.rep hbad
  have hset := gb_set w' eb 1 v
  refine ⟨n2 + 1, .inr (.inr (.inr (.inl ⟨rfl, sv, v, e, rfl, rfl, ?_, ?_⟩)))⟩
  · exact ((hB.row.gb hg (fun k hk h => by cases hk; simp only [Since] at h; omega)).gb hset (fun k hk h => by cases hk; exact h.2 rfl)).mono (fun k _ h => h.1)
  · exact (hn2.gb hset (fun k hk => by cases hk; simp only [Since]; omega)).mono (fun k _ h => by simp only [Since] at *; omega)

theorem own_some {w : World} {base : Nat} {e : TypeId} {size n : Nat} {v : Value} {xs : List Value} (h : w.ownsRow base e size v n xs) (hn : 0 < n) : ∃ g cap, v = .slice (some ⟨g, 0, none⟩) n cap := by
  rcases h.2 with ⟨_, h0⟩ | ⟨g, cap, cur, h, _⟩
  · omega
  · exact ⟨g, cap, h⟩

/-- The names are appended, and the slice is stored. -/
theorem lam_made {w w1 w2 w3 W0 : World} {r tb g cap m : Nat} {T : List Th.Tok} {x : Th.Tok} {l : List Th.Tok} {s2 : Th.St}
    (hB : Blk W0 (w1.heap.size + 1) [.slice (some ⟨w1.heap.size, 0, none⟩) 1 1, .nilIface] 226) (hz : w.heap.size ≤ w1.heap.size) (hrl : r < w.heap.size) (htl : tb < w.heap.size)
    (hG0 : w.grownBy W0 (some r)) (hs2 : RS w2 r tb T s2) (hg2 : W0.drew.grownBy w2 (some r))
    (hown : w3.ownsRow w1.heap.size 88 2 (.slice (some ⟨g, 0, none⟩) m cap) m (namesCells (x :: l))) (hm : m = (x :: l).length)
    (hgrow : w2.grownBy w3 (some w1.heap.size)) (hat : g = w1.heap.size ∨ g = w2.heap.size) :
    Lam w (w3.setCell ⟨w1.heap.size + 1, 0, none⟩ (.slice (some ⟨g, 0, none⟩) m cap)) r tb (w1.heap.size + 1) T (x :: l) s2 (.slice (some ⟨g, 0, none⟩) m cap) := by
  have hlt := hB.lt
  have hz2 : W0.heap.size ≤ w2.heap.size := hg2.size
  have hge : g ≠ w1.heap.size + 1 := by omega
  have hset := gb_set w3 (w1.heap.size + 1) 0 (.slice (some ⟨g, 0, none⟩) m cap)
  refine ⟨?_, by omega, ?_, ?_, ?_, ?_⟩
  · exact ((hB.drew.grown hg2 (by simp; omega)).grown hgrow (by simp)).set 0 _
  · exact (hs2.gb hgrow (by simp; omega) (by simp; omega)).set _ _ _ (by omega) (by omega)
  · refine gb_set_new ?_ _ _ (by simp; omega)
    have h1 := gb_trans (gb_trans hG0 (gb_drew W0 _)) hg2
    exact ⟨hgrow.os.trans h1.os, hgrow.tape.trans h1.tape, hgrow.output.trans h1.output, Nat.le_trans h1.size hgrow.size,
      fun k hk hr => (hgrow.block k (Nat.lt_of_lt_of_le hk h1.size) (by simp; omega)).trans (h1.block k hk hr)⟩
  · rw [← hm]
    exact own_base (hown.kept hset (by simp [Value.ownBlock]; omega)) (Nat.zero_le _)
  · intro k hk
    simp only [Value.ownBlock, Option.some.injEq] at hk
    subst hk
    have := (hown.lt g rfl).1
    simp only [Since]
    omega

theorem app_nil (b : Nat) (ty : TypeId) (w : World) : (Builtin.append_ #[89, 89] ty #[.slice (some ⟨b, 0, none⟩) 1 1, .slice none 0 0]).run Tryz.prog w = .ok (.slice (some ⟨b, 0, none⟩) 1 1) w := by kernel_rfl

set_option maxRecDepth 100000 in
set_option maxHeartbeats 8000000 in
theorem lambda_ok {ex : Th.Rd} (hx : ExOK ex) {w : World} {r tb : Nat} {T : List Th.Tok} {st : Th.St} {c : Bool} {q : Th.Ex × Th.St} (hq : Th.pfun ex c st = some q) (h : RS w r tb T st) :
    Calls Tryz.prog 195 #[.pointer (some ⟨r, 0, none⟩), .bool c] w fun en w' => Reads w r tb T q.1 q.2 en w' := by
  have hrl := h.lt
  have htl := h.tlt
  obtain ⟨i0, hi0, hz0, hz1, hz2⟩ := info_parts infoName
  have HI := hide hi0; clear hi0
  have HZ := hide (And.intro hz0 (And.intro hz1 hz2)); clear hz0 hz1 hz2
  unfold Th.pfun at hq
  simp only [Option.bind_eq_some_iff, Option.some.injEq] at hq
  obtain ⟨q1, hq1, rfl⟩ := hq
  generalize hx0 : Th.pname st = xs at hq1 ⊢
  generalize hl0 : Th.pnames xs.2 = ln at hq1 ⊢
  have HQ1 := hide hq1
  have HX0 := hide hx0
  have HL0 := hide hl0
  clear hq1 hx0 hl0
  go_enter Tryz.func195, Tryz.ntmps195
  go_wp2_with fail
  refine (name_any h).mono ?_
  rintro e w1 ⟨rfl, hs1, hg1⟩
  rw [unhide HX0] at hs1 ⊢
  have hz := hg1.size
  have hrow0 := World.ownsRow_lit (base := w1.heap.size) (e := 88) (size := 2) w1 #[.string ⟨xs.1.s.toArray⟩, .int .i64 xs.1.at_] 1 (Nat.le_refl _) (by unfold maxLen; omega) rfl
  have B0x := Blk.new (w1.alloc (.cells #[.string ⟨xs.1.s.toArray⟩, .int .i64 xs.1.at_] 88)) [.slice (some ⟨w1.heap.size, 0, none⟩) 1 1, .nilIface] 226
  rw [World.size_alloc] at B0x
  have B0 := hide B0x
  clear B0x
  have Hs0 := hide ((hs1.alloc (.cells #[.string ⟨xs.1.s.toArray⟩, .int .i64 xs.1.at_] 88)).alloc (.cells #[.slice (some ⟨w1.heap.size, 0, none⟩) 1 1, .nilIface] 226))
  have HG0 := hide (gb_trans (gb_trans hg1 (gb_alloc w1 (.cells #[.string ⟨xs.1.s.toArray⟩, .int .i64 xs.1.at_] 88) (some r))) (gb_alloc _ (.cells #[.slice (some ⟨w1.heap.size, 0, none⟩) 1 1, .nilIface] 226) (some r)))
  have HR0 := hide (hrow0.alloc (.cells #[.slice (some ⟨w1.heap.size, 0, none⟩) 1 1, .nilIface] 226))
  have hfew := names_few hs1
  rw [unhide HL0] at hfew
  have CON := hide (fun (W : World) (hW : RS W r tb T xs.2) => names_full hW)
  clear h hs1 hg1 hrow0
  have hS0 : Hid (Held _ (w1.heap.size + 1) 0 (.slice (some ⟨w1.heap.size, 0, none⟩) 1 1)) := hide (held_of_blk (unhide B0) 0 (v := .slice (some ⟨w1.heap.size, 0, none⟩) 1 1) rfl)
  go_wp2_with fail
  go_cut [11] (fun _ wc => ∃ sv, Lam w wc r tb (w1.heap.size + 1) T (xs.1 :: ln.1) ln.2 sv)
  case first =>
    by_cases hl : ln.1 = []
    · have Hl := hide hl
      clear hl
      go_region_law (first
        | (go_simp; go_wp2_with (go_at_call 116; refine (unhide CON _ ?_).mono ?_; exact (unhide Hs0).drew; rintro e w2 ⟨nv, rfl, hnil, hrow2, hs2, hg2⟩; rw [unhide HL0] at hnil hs2; obtain rfl := hnil (unhide Hl); have hsz2 : w1.heap.size + 1 < w2.heap.size := (by have := hg2.size; simp at this; omega); have Hs2 := hide hs2; have HG2 := hide hg2; have H2 := hide ((unhide hS0).drew.gb hg2 (by simp; omega)); have h2c := (unhide H2).1; have h2f := (unhide H2).2; clear hs2 hnil hrow2)))
      all_goals
        go_wp2_with fail
        go_meet
        case rel =>
          have hr3 : w2.ownsRow w1.heap.size 88 2 (.slice (some ⟨w1.heap.size, 0, none⟩) 1 1) 1 (namesCells (xs.1 :: [])) := (unhide HR0).drew.kept (unhide HG2) (own_ne (unhide HR0) (by omega))
          have hfin := lam_made (unhide B0) hz hrl htl (unhide HG0) (unhide Hs2) (unhide HG2) hr3 rfl (gb_refl w2 _) (.inl rfl)
          rw [← unhide Hl] at hfin
          exact ⟨_, hfin⟩
    · have hl1 : 0 < ln.1.length := List.length_pos_iff.2 hl
      have Hl := hide hl
      clear hl
      go_region_law (first
        | (refine step_append_lies _ (by rfl) _ _ _ (by rfl) w1.heap.size 88 i0 _ 2 24 Tryz.underlying89 (unhide HI) (unhide HZ).1 (unhide HZ).2.1 (unhide HZ).2.2 rfl (by omega) (.slice (some ⟨w1.heap.size, 0, none⟩) 1 1) 1 (nameCells xs.1) (by rfl) hrow3 ⟨g2, 0, none⟩ ln.1.length c2 (namesCells ln.1) (by rfl) (namesCells_len _) (hrow2.cells rfl) (names_one _) (by omega) (by unfold maxLen; omega) (by omega) (by omega) w2.heap.size rfl ?_; intro g cap w3 hown hgrow hat hlt; have h3 := hide ((unhide H2).gb hgrow (by simp [Value.ownBlock])); have h3c := (unhide h3).1; have h3f := (unhide h3).2)
        | (go_simp; go_wp2_with (go_at_call 116; refine (unhide CON _ ?_).mono ?_; exact (unhide Hs0).drew; rintro e w2 ⟨nv, rfl, hnil, hrow2, hs2, hg2⟩; rw [unhide HL0] at hrow2 hs2; obtain ⟨g2, c2, rfl⟩ := own_some hrow2 hl1; have hsz2 : w1.heap.size + 1 < w2.heap.size := (by have := hg2.size; simp at this; omega); have Hs2 := hide hs2; have HG2 := hide hg2; have H2 := hide ((unhide hS0).drew.gb hg2 (by simp; omega)); have h2c := (unhide H2).1; have h2f := (unhide H2).2; have hrow3 := (unhide HR0).drew.kept hg2 (own_ne (unhide HR0) (by omega)); clear hs2 hnil)))
      all_goals
        go_wp2_with fail
        go_meet
        case rel =>
          refine ⟨_, lam_made (unhide B0) hz hrl htl (unhide HG0) (unhide Hs2) (unhide HG2) hown (by simp; omega) hgrow ?_⟩
          rcases hat with h | h
          · left
            simpa [Value.ownBlock] using h.symm
          · exact .inr h
  case rest =>
    obtain ⟨sv0, hB1⟩ := hcut
    have HB1 := hide hB1
    have hs := hB1.rs
    clear hB1
    go_wp2_with fail
    refine (expect_any hs ⟨#[46]⟩ (by simp)).mono ?_
    rintro e w5 ⟨rfl, hs5, hg5⟩
    have HB5 := hide ((unhide HB1).step hrl hg5 hs5)
    clear hs hg5
    go_wp2_with fail
    refine (hx _ _ _ _ _ _ _ (unhide HQ1) hs5).mono ?_
    rintro en w6 ⟨v, rfl, hgot, hs6, hg6⟩
    have hB6 := (unhide HB5).blk.grown hg6 (by simp; omega)
    have d0 := hB6.cell 0
    have d1 := hB6.cell 1
    have f1 := hB6.frozen 1
    simp at d0 d1
    have FIN := hide (rep_lam (unhide HB5) hrl hg6 hgot)
    have HG6 := hide (gb_set_new (gb_trans (unhide HB5).gb hg6) ⟨w1.heap.size + 1, 1, none⟩ v (by simp; omega))
    have Hs6 := hide (hs6.set (w1.heap.size + 1) 1 v (by omega) (by omega))
    have ho := hgot.one
    have hsh := row_shape (unhide HB5).row
    clear hs5 hgot hs6 hg6 hB6
    rcases hsh with rfl | ⟨gs, caps, rfl⟩ <;> rcases ho.shape with rfl | ⟨t1, x1, rfl⟩
    all_goals
      clear ho
      go_wp2_with fail
      go_ret
      exact ⟨_, rfl, unhide FIN, unhide Hs6, unhide HG6⟩

end Go.Proofs.YtgahgkddaljmkaaGreatDoor

namespace Go.Proofs.YtgahgkddaljmkaaGreatDoor
open Go.RowKit

/- A part of the grammar that has failed stays so. -/
theorem adv_bad (st : Th.St) : st.adv.bad = none → st.bad = none := fun h => h
theorem fail_no {st : Th.St} (h : st.fail.bad = none) : False := fail_bad h
theorem maker_bad (st : Th.St) : (Th.pmaker st).2.bad = none → st.bad = none := by
  intro h
  exact number_bad _ _ _ (want_bad _ _ (number_bad _ _ _ (want_bad _ _ h)))
theorem atom_keeps {ex : Th.Rd} (hk : Keeps ex) {st : Th.St} {q : Th.Ex × Th.St} (h : Th.patom ex st = some q) : q.2.bad = none → st.bad = none := by
  unfold Th.patom at h
  intro hb
  split at h
  · cases h; exact hb
  · split at h
    · cases h; exact hb
    · split at h
      · cases h; exact adv_bad _ (maker_bad _ hb)
      · split at h
        · simp only [Option.bind_eq_some_iff, Option.some.injEq] at h
          obtain ⟨r, h1, rfl⟩ := h
          exact adv_bad _ (hk _ _ _ h1 (want_bad _ _ hb))
        · cases h; exact (fail_no hb).elim
theorem calls_keeps {ex : Th.Rd} (hk : Keeps ex) : ∀ (k : Nat) (e : Th.Ex) (st : Th.St) (q : Th.Ex × Th.St), Th.pcalls ex k e st = some q → q.2.bad = none → st.bad = none
  | 0, _, _, _, h => by simp [Th.pcalls] at h
  | k + 1, e, st, q, h => by
    rw [Th.pcalls] at h
    split at h
    · simp only [Option.bind_eq_some_iff] at h
      obtain ⟨r, h1, h2⟩ := h
      exact fun hb => atom_keeps hk h1 (calls_keeps hk k _ _ _ h2 hb)
    · cases h; exact fun hb => hb
theorem call_keeps {ex : Th.Rd} (hk : Keeps ex) (k : Nat) (st : Th.St) (q : Th.Ex × Th.St) (h : Th.pcall ex k st = some q) : q.2.bad = none → st.bad = none := by
  unfold Th.pcall at h
  simp only [Option.bind_eq_some_iff] at h
  obtain ⟨r, h1, h2⟩ := h
  exact fun hb => atom_keeps hk h1 (calls_keeps hk k _ _ _ h2 hb)
theorem ops_keeps {sub : Th.St → Option (Th.Ex × Th.St)} (hs : ∀ st q, sub st = some q → q.2.bad = none → st.bad = none) (a b : List UInt8) : ∀ (k : Nat) (e : Th.Ex) (st : Th.St) (q : Th.Ex × Th.St), Th.pops sub a b k e st = some q → q.2.bad = none → st.bad = none
  | 0, _, _, _, h => by simp [Th.pops] at h
  | k + 1, e, st, q, h => by
    rw [Th.pops] at h
    split at h
    · simp only [Option.bind_eq_some_iff] at h
      obtain ⟨r, h1, h2⟩ := h
      exact fun hb => adv_bad _ (hs _ _ h1 (ops_keeps hs a b k _ _ _ h2 hb))
    · cases h; exact fun hb => hb
theorem product_keeps {ex : Th.Rd} (hk : Keeps ex) (k : Nat) (st : Th.St) (q : Th.Ex × Th.St) (h : Th.pproduct ex k st = some q) : q.2.bad = none → st.bad = none := by
  unfold Th.pproduct at h
  simp only [Option.bind_eq_some_iff] at h
  obtain ⟨r, h1, h2⟩ := h
  exact fun hb => call_keeps hk k _ _ h1 (ops_keeps (call_keeps hk k) _ _ k _ _ _ h2 hb)
theorem sum_keeps {ex : Th.Rd} (hk : Keeps ex) (k : Nat) (st : Th.St) (q : Th.Ex × Th.St) (h : Th.psum ex k st = some q) : q.2.bad = none → st.bad = none := by
  unfold Th.psum at h
  simp only [Option.bind_eq_some_iff] at h
  obtain ⟨r, h1, h2⟩ := h
  exact fun hb => product_keeps hk k _ _ h1 (ops_keeps (product_keeps hk k) _ _ k _ _ _ h2 hb)
theorem test_keeps {ex : Th.Rd} (hk : Keeps ex) (k : Nat) (st : Th.St) (q : Th.Ex × Th.St) (h : Th.ptest ex k st = some q) : q.2.bad = none → st.bad = none := by
  unfold Th.ptest at h
  simp only [Option.bind_eq_some_iff] at h
  obtain ⟨r, h1, h2⟩ := h
  split at h2
  · simp only [Option.bind_eq_some_iff, Option.some.injEq] at h2
    obtain ⟨s, h3, rfl⟩ := h2
    exact fun hb => sum_keeps hk k _ _ h1 (adv_bad _ (sum_keeps hk k _ _ h3 hb))
  · cases h2; exact sum_keeps hk k _ _ h1
theorem binds_keeps {ex : Th.Rd} (hk : Keeps ex) : ∀ (k : Nat) (l : List Th.Tok) (es : List Th.Ex) (st : Th.St) (q : List Th.Tok × List Th.Ex × Th.St), Th.pbinds ex k l es st = some q → q.2.2.bad = none → st.bad = none
  | 0, _, _, _, _, h => by simp [Th.pbinds] at h
  | k + 1, l, es, st, q, h => by
    rw [Th.pbinds] at h
    simp only [Option.bind_eq_some_iff] at h
    obtain ⟨r, h1, h2⟩ := h
    have h0 : r.2.bad = none → st.bad = none := fun hb => name_bad _ (want_bad _ _ (hk _ _ _ h1 hb))
    split at h2
    · exact fun hb => h0 (adv_bad _ (binds_keeps hk k _ _ _ _ h2 hb))
    · cases h2; exact h0
theorem arms_keeps {ex : Th.Rd} (hk : Keeps ex) (c : Bool) : ∀ (k : Nat) (l : List (Nat × List Th.Tok)) (es : List Th.Ex) (st : Th.St) (q : List (Nat × List Th.Tok) × List Th.Ex × Th.St), Th.parms ex c k l es st = some q → q.2.2.bad = none → st.bad = none
  | 0, _, _, _, _, h => by simp [Th.parms] at h
  | k + 1, l, es, st, q, h => by
    rw [Th.parms] at h
    simp only [Option.bind_eq_some_iff] at h
    obtain ⟨r, h1, h2⟩ := h
    split at h2
    · exact fun hb => parm_bad hk h1 (adv_bad _ (arms_keeps hk c k _ _ _ _ h2 hb))
    · cases h2; exact parm_bad hk h1
theorem body_keeps {ex : Th.Rd} (hk : Keeps ex) (k : Nat) : Keeps (Th.pbody ex k) := by
  intro c st q h hb
  unfold Th.pbody at h
  split at h
  · unfold Th.plet at h
    simp only [Option.bind_eq_some_iff, Option.some.injEq] at h
    obtain ⟨r, h1, s, h2, rfl⟩ := h
    have := binds_keeps hk k _ _ _ _ h1 (want_bad _ _ (hk _ _ _ h2 hb))
    split at this
    · exact adv_bad _ (adv_bad _ this)
    · exact adv_bad _ this
  · split at h
    · unfold Th.pcase at h
      simp only [Option.bind_eq_some_iff, Option.some.injEq] at h
      obtain ⟨r, h1, s, h2, rfl⟩ := h
      exact adv_bad _ (hk _ _ _ h1 (want_bad _ _ (arms_keeps hk c k _ _ _ _ h2 hb)))
    · split at h
      · unfold Th.pfun at h
        simp only [Option.bind_eq_some_iff, Option.some.injEq] at h
        obtain ⟨r, h1, rfl⟩ := h
        exact adv_bad _ (name_bad _ (names_bad _ (want_bad _ _ (hk _ _ _ h1 hb))))
      · exact test_keeps hk k _ _ h hb
theorem expr_keeps : ∀ n, Keeps (Th.pexpr n)
  | 0 => fun _ _ _ h => by simp [Th.pexpr] at h
  | n + 1 => body_keeps (expr_keeps n) n

theorem reads_of {w w1 w2 : World} {r tb : Nat} {T : List Th.Tok} {e : Th.Ex} {s : Th.St} {en : Ending} (hg : w.grownBy w1 (some r)) (h : Reads w1 r tb T e s en w2) : Reads w r tb T e s en w2 := by
  obtain ⟨v, h1, h2, h3, h4⟩ := h
  exact ⟨v, h1, h2.mono (fun k _ hk => Nat.le_trans hg.size hk), h3, gb_trans hg h4⟩

set_option maxRecDepth 100000 in
set_option maxHeartbeats 8000000 in
theorem body_ok {ex : Th.Rd} (hx : ExOK ex) (hk : Keeps ex) {k : Nat} (hkk : k ≤ 1000000) : ExOK (Th.pbody ex k) := by
  intro c st q w r tb T hq h
  have hrl := h.lt
  have HQ := hide hq
  clear hq
  go_enter Tryz.func118, Tryz.ntmps118
  go_wp2_with fail
  refine (accept_any h ⟨#[108, 101, 116]⟩ (by simp)).mono ?_
  rintro e w1 ⟨rfl, hs1, hg1⟩
  have Hg1 := hide hg1
  clear hg1 h
  cases h1 : st.is Th.sLet
  · rw [show st.is (ByteArray.mk #[108, 101, 116]).data.toList = false from h1] at hs1 ⊢
    have hs1' : RS w1 r tb T st := by simpa using hs1
    have H1 := hide h1
    clear h1 hs1
    go_wp2_with fail
    refine (accept_any hs1' ⟨#[99, 97, 115, 101]⟩ (by simp)).mono ?_
    rintro e w2 ⟨rfl, hs2, hg2⟩
    have Hg2 := hide (gb_trans (unhide Hg1) hg2)
    clear hg2 hs1'
    cases h2 : st.is Th.sCase
    · rw [show st.is (ByteArray.mk #[99, 97, 115, 101]).data.toList = false from h2] at hs2 ⊢
      have hs2' : RS w2 r tb T st := by simpa using hs2
      have H2 := hide h2
      clear h2 hs2
      go_wp2_with fail
      refine (accept_any hs2' ⟨#[92]⟩ (by simp)).mono ?_
      rintro e w3 ⟨rfl, hs3, hg3⟩
      have Hg3 := hide (gb_trans (unhide Hg2) hg3)
      clear hg3 hs2'
      cases h3 : st.is [92]
      · rw [show st.is (ByteArray.mk #[92]).data.toList = false from h3] at hs3
        have hs3' : RS w3 r tb T st := by simpa using hs3
        have hq3 : Hid (Th.ptest ex k st = some q) := hide (by have e := unhide HQ; rw [Th.pbody, unhide H1, unhide H2, h3] at e; simpa using e)
        clear h3 hs3
        go_wp2_with fail
        refine (test_ok hx k _ _ _ _ _ _ (unhide hq3) hs3').mono ?_
        rintro en w4 hr
        obtain ⟨v, rfl, hr2⟩ := reads_of (unhide Hg3) hr
        have hc := hr2.1.one.cells
        have HR := hide hr2
        clear hr hr2 hs3'
        go_wp2_with fail
        go_ret
        exact ⟨v, rfl, unhide HR⟩
      · rw [show st.is (ByteArray.mk #[92]).data.toList = true from h3] at hs3
        have hs3' : RS w3 r tb T st.adv := by simpa using hs3
        have hq3 : Hid (Th.pfun ex c st.adv = some q) := hide (by have e := unhide HQ; rw [Th.pbody, unhide H1, unhide H2, h3] at e; simpa using e)
        clear h3 hs3
        go_wp2_with fail
        refine (lambda_ok hx (unhide hq3) hs3').mono ?_
        rintro en w4 hr
        obtain ⟨v, rfl, hr2⟩ := reads_of (unhide Hg3) hr
        have hc := hr2.1.one.cells
        have HR := hide hr2
        clear hr hr2 hs3'
        go_wp2_with fail
        go_ret
        exact ⟨v, rfl, unhide HR⟩
    · rw [show st.is (ByteArray.mk #[99, 97, 115, 101]).data.toList = true from h2] at hs2 ⊢
      have hs2' : RS w2 r tb T st.adv := by simpa using hs2
      have hq2 : Hid (Th.pcase ex k c st.adv = some q) := hide (by have e := unhide HQ; rw [Th.pbody, unhide H1, h2] at e; simpa using e)
      clear h2 hs2
      go_wp2_with fail
      refine (choice_ok hx hk hkk (unhide hq2) hs2').mono ?_
      rintro en w4 hr
      obtain ⟨v, rfl, hr2⟩ := reads_of (unhide Hg2) hr
      have hc := hr2.1.one.cells
      have HR := hide hr2
      clear hr hr2 hs2'
      go_wp2_with fail
      go_ret
      exact ⟨v, rfl, unhide HR⟩
  · rw [show st.is (ByteArray.mk #[108, 101, 116]).data.toList = true from h1] at hs1 ⊢
    have hs1' : RS w1 r tb T st.adv := by simpa using hs1
    have hq1 : Hid (Th.plet ex k c st.adv = some q) := hide (by have e := unhide HQ; rw [Th.pbody, h1] at e; simpa using e)
    clear h1 hs1
    go_wp2_with fail
    refine (let_ok hx hk hkk (unhide hq1) hs1').mono ?_
    rintro en w4 hr
    obtain ⟨v, rfl, hr2⟩ := reads_of (unhide Hg1) hr
    have hc := hr2.1.one.cells
    have HR := hide hr2
    clear hr hr2 hs1'
    go_wp2_with fail
    go_ret
    exact ⟨v, rfl, unhide HR⟩

/-- The method expr of package parse reads as the grammar says. -/
theorem expr_ok : ∀ (n : Nat), n ≤ 1000000 → ExOK (Th.pexpr n)
  | 0, _ => fun _ _ _ _ _ _ _ h => by simp [Th.pexpr] at h
  | n + 1, hn => body_ok (expr_ok n (by omega)) (expr_keeps n) (by omega)

end Go.Proofs.YtgahgkddaljmkaaGreatDoor
