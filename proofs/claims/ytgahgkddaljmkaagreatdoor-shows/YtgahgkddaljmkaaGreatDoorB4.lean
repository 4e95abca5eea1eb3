/- The document's reader: an atom, given what its reader of expressions does. The document's reader: a maker, any atom. The document's reader: a call. -/
import Derived.Test.YtgahgkddaljmkaaGreatDoorB3
import Derived.Test.YtgahgkddaljmkaaGreatDoorA9
namespace Go.Proofs.YtgahgkddaljmkaaGreatDoor
open Go.RowKit
attribute [local go_sem ↓] Go.wp_at_zero Go.wp_at_succ

theorem DS.begin {w : World} {r tb : Nat} {L : List Th.DP} {st : Th.St} (h : DS w r tb L st) : (∃ b, (0 : Int) ≤ b ∧ st.bad ≠ none ∧ w.cell? ⟨r, 2, none⟩ = some (.int .i64 b)) ∨ ∃ cap i d, DI w r tb cap L i (-1) ∧ L[i]? = some d ∧ st = Th.stAt L i := by
  obtain ⟨cap, i, b, h, ha⟩ := h
  obtain ⟨d, hd⟩ := h.tok
  rcases ha with ⟨rfl, e⟩ | ⟨p, rfl, _, rfl⟩
  · exact .inr ⟨cap, i, d, h, hd, e⟩
  · exact .inl ⟨p, by omega, by simp, by simpa using h.blk.cell 2⟩

theorem begins_at {L : List Th.DP} {i : Nat} {d : Th.DP} (hg : Th.DGood L) (hd : L[i]? = some d) :
    Th.begins (Th.stAt L i) = (d.k == 97 || d.k == 48 || (d.k == 115 && d.s == [123]) || (d.k == 115 && d.s == [40])) ∧ ((Th.stAt L i).is [123] = (d.k == 115 && d.s == [123])) ∧ ((Th.stAt L i).is [40] = (d.k == 115 && d.s == [40])) := by
  have hs := hg.sgn d (List.mem_of_getElem? hd)
  have e1 : (Th.stAt L i).is [123] = (d.k == 115 && d.s == [123]) := by
    rw [Th.stAt_is hd _ (by simp)]
    by_cases h1 : d.s = [123]
    · rw [hs (.inr (.inl h1)), h1]; rfl
    · have h2 : (d.s == [123]) = false := beq_eq_false_iff_ne.2 h1
      rw [h2, Bool.false_and, Bool.and_false]
  have e2 : (Th.stAt L i).is [40] = (d.k == 115 && d.s == [40]) := by
    rw [Th.stAt_is hd _ (by simp)]
    by_cases h1 : d.s = [40]
    · rw [hs (.inr (.inr h1)), h1]; rfl
    · have h2 : (d.s == [40]) = false := beq_eq_false_iff_ne.2 h1
      rw [h2, Bool.false_and, Bool.and_false]
  refine ⟨?_, e1, e2⟩
  unfold Th.begins
  rw [Th.stAt_kind2 hd, Th.stAt_kind3 hd, e1, e2]

theorem int_beq (k n : Nat) : ((k : Int) == (n : Int)) = (k == n) := by
  rw [Bool.eq_iff_iff]; simp; omega

set_option maxRecDepth 100000 in
set_option maxHeartbeats 4000000 in
theorem datom_no {w : World} {r tb : Nat} {L : List Th.DP} {st : Th.St} (h : DS w r tb L st) (hbg : Th.begins st = false) :
    Calls Tryz.prog 287 #[.pointer (some ⟨r, 0, none⟩)] w fun en w' => en = .returned (.pointer none) ∧ DS w' r tb L st ∧ Below w.heap.size w w' := by
  have H := hide h
  rcases h.begin with ⟨b, hb, hbad, c2⟩ | ⟨cap, i, d, hd, ht, rfl⟩
  · have hb1 : ((0 : Int) ≤ b) = True := eq_true hb
    clear h hb hbad hbg
    go_enter Tryz.func287, Tryz.ntmps287
    go_wp2_with fail
    go_ret
    exact ⟨rfl, unhide H, Below.refl _ _⟩
  · rw [(begins_at hd.good ht).1] at hbg
    simp only [Bool.or_eq_false_iff] at hbg
    obtain ⟨⟨⟨k1, k2⟩, k3⟩, k4⟩ := hbg
    have hrl := h.lt
    have htl := h.tlt
    have hl := hd.lt
    have hn := hd.good.len
    have c0 := hd.blk.cell 0
    have c1 := hd.blk.cell 1
    have c2 := hd.blk.cell 2
    simp at c0 c1 c2
    obtain ⟨d0, d1, d2, d3⟩ := hd.toks i d ht
    have k1' : ((d.k : Int) == 97) = false := (int_beq _ 97).trans k1
    have k2' : ((d.k : Int) == 48) = false := (int_beq _ 48).trans k2
    clear h hd ht k1 k2
    by_cases hk5 : d.k = 115
    · have k5' : ((d.k : Int) == 115) = true := by simp; omega
      have k3' : (d.s == [123]) = false := by simpa [hk5] using k3
      have k4' : (d.s == [40]) = false := by simpa [hk5] using k4
      have hz : (⟨d.s.toArray⟩ : ByteArray).toList = d.s := by rw [ByteArray.toList_eq]
      clear k3 k4 hk5
      go_enter Tryz.func287, Tryz.ntmps287
      go_wp2_with fail
      go_region
      all_goals
        go_wp2_with fail
        go_ret
        exact ⟨rfl, ((unhide H).alloc _).drew, (below_alloc _ _).drew⟩
    · have k5' : ((d.k : Int) == 115) = false := by simp; omega
      clear k3 k4 hk5
      go_enter Tryz.func287, Tryz.ntmps287
      go_wp2_with fail
      go_region
      all_goals
        go_wp2_with fail
        go_ret
        exact ⟨rfl, ((unhide H).alloc _).drew, (below_alloc _ _).drew⟩

/-- A new expression without parts. -/
theorem dgot_new {w w1 : World} {r b : Nat} {e : Th.Ex} {st : Th.St} {lv rv nv pv av : Value} (hg : w.grownBy w1 (some r)) (hk : e.kind ≤ 3) (hb : b = w1.heap.size) :
    DGot (Since w) (w1.alloc (.cells (exCells e lv rv nv pv av).toArray 195)).drew (.pointer (some ⟨b, 0, none⟩)) e st := by
  subst hb
  exact ⟨⟨_, rfl⟩, fun _ => ⟨1, (drep_new hg.size hk).gb (gb_drew _ none) (by simp)⟩⟩

theorem datom_facts {w : World} {r tb cap : Nat} {L : List Th.DP} {i : Nat} {d : Th.DP} (hd : DI w r tb cap L i (-1)) (ht : L[i]? = some d) (hk3 : d.k ≠ 33) (o : Obj) :
    DS ((w.setCell ⟨r, 1, none⟩ (.int .i64 ((i : Int) + 1))).alloc o) r tb L (Th.stAt L i).adv ∧ w.grownBy ((w.setCell ⟨r, 1, none⟩ (.int .i64 ((i : Int) + 1))).alloc o) (some r) :=
  have h := hd.step ht hk3 (Below.refl _ _)
  ⟨h.1.alloc o, gb_trans h.2 (gb_alloc _ _ _)⟩

set_option maxRecDepth 100000 in
set_option maxHeartbeats 4000000 in
theorem datom_name {w : World} {r tb : Nat} {L : List Th.DP} {st : Th.St} (h : DS w r tb L st) (hk2 : st.kind 2 = true) :
    Calls Tryz.prog 287 #[.pointer (some ⟨r, 0, none⟩)] w fun en w' => DReads w r tb L (Th.mkName st.hd) st.adv en w' := by
  obtain ⟨cap, i, d, hd, ht, rfl⟩ := h.at (kind_bad hk2)
  have hk := kind2_not ht hk2
  have hk3 : d.k ≠ 33 := by omega
  have ehd : (Th.stAt L i).hd = ⟨2, d.s, d.at_⟩ := by rw [Th.stAt_tok ht hk3, hk]; rfl
  rw [ehd]
  have hrl := h.lt
  have htl := h.tlt
  have hl := hd.lt
  have hn := hd.good.len
  have c0 := hd.blk.cell 0
  have c1 := hd.blk.cell 1
  have c2 := hd.blk.cell 2
  have f1 := hd.blk.frozen 1
  simp at c0 c1 c2
  obtain ⟨d0, d1, d2, d3⟩ := hd.toks i d ht
  rw [hk] at d2
  have HS := hide (fun o => datom_facts hd ht hk3 o)
  clear h hd ht hk hk2 hk3 ehd
  go_enter Tryz.func287, Tryz.ntmps287
  go_wp2_with fail
  go_region
  all_goals
    go_wp2_with fail
    go_ret
    exact ⟨_, rfl, dgot_new (e := Th.mkName ⟨2, d.s, d.at_⟩) (unhide HS _).2 (by simp [Th.mkName]) (by simp [World.setCell]), ((unhide HS _).1.alloc _).drew, gb_trans (gb_trans (unhide HS _).2 (gb_alloc _ _ _)) (gb_drew _ _)⟩

set_option maxRecDepth 100000 in
set_option maxHeartbeats 4000000 in
theorem datom_number {w : World} {r tb : Nat} {L : List Th.DP} {st : Th.St} (h : DS w r tb L st) (hk2 : st.kind 3 = true) :
    Calls Tryz.prog 287 #[.pointer (some ⟨r, 0, none⟩)] w fun en w' => DReads w r tb L (Th.mkNum (Th.val st.hd.s)) st.adv en w' := by
  obtain ⟨cap, i, d, hd, ht, rfl⟩ := h.at (kind_bad hk2)
  have hk := kind3_not ht hk2
  have hk3 : d.k ≠ 33 := by omega
  have ehd : (Th.stAt L i).hd = ⟨3, d.s, d.at_⟩ := by rw [Th.stAt_tok ht hk3, hk]; rfl
  rw [ehd]
  simp only
  rw [← (hd.good.num d (List.mem_of_getElem? ht) hk).1]
  have hrl := h.lt
  have htl := h.tlt
  have hl := hd.lt
  have hn := hd.good.len
  have c0 := hd.blk.cell 0
  have c1 := hd.blk.cell 1
  have c2 := hd.blk.cell 2
  have f1 := hd.blk.frozen 1
  simp at c0 c1 c2
  obtain ⟨d0, d1, d2, d3⟩ := hd.toks i d ht
  rw [hk] at d2
  have HS := hide (fun o => datom_facts hd ht hk3 o)
  clear h hd ht hk hk2 hk3 ehd
  go_enter Tryz.func287, Tryz.ntmps287
  go_wp2_with fail
  go_region
  all_goals
    go_wp2_with fail
    go_ret
    exact ⟨_, rfl, dgot_new (e := Th.mkNum d.n) (unhide HS _).2 (by simp [Th.mkNum]) (by simp [World.setCell]), ((unhide HS _).1.alloc _).drew, gb_trans (gb_trans (unhide HS _).2 (gb_alloc _ _ _)) (gb_drew _ _)⟩

set_option maxRecDepth 100000 in
set_option maxHeartbeats 4000000 in
theorem datom_paren {ex : Th.Rd} (hx : DExOK ex) {w : World} {r tb : Nat} {L : List Th.DP} {st : Th.St} {q : Th.Ex × Th.St} (h : DS w r tb L st) (hk2 : st.is [40] = true) (hq : ex false st.adv = some q) :
    Calls Tryz.prog 287 #[.pointer (some ⟨r, 0, none⟩)] w fun en w' => DReads w r tb L q.1 (Th.want [41] q.2) en w' := by
  obtain ⟨cap, i, d, hd, ht, rfl⟩ := h.at (is_bad hk2)
  have hk3 := (is_not ht (by simp) hk2).1
  have hds := (is_not ht (by simp) hk2).2
  have hk := hd.good.sgn d (List.mem_of_getElem? ht) (.inr (.inr hds))
  have hrl := h.lt
  have htl := h.tlt
  have hl := hd.lt
  have hn := hd.good.len
  have c0 := hd.blk.cell 0
  have c1 := hd.blk.cell 1
  have c2 := hd.blk.cell 2
  have f1 := hd.blk.frozen 1
  simp at c0 c1 c2
  obtain ⟨d0, d1, d2, d3⟩ := hd.toks i d ht
  rw [hk] at d2
  rw [hds] at d0
  have HS := hide (fun o => datom_facts hd ht hk3 o)
  have HX := hide hx
  have HQ := hide hq
  clear h hd ht hk hk2 hk3 hds hx hq
  go_enter Tryz.func287, Tryz.ntmps287
  go_wp2_with fail
  go_region
  all_goals
    go_wp2_with fail
    refine (unhide HX _ _ _ _ _ _ _ (unhide HQ) (unhide HS _).1.drew).mono ?_
    rintro en w5 ⟨v, rfl, hgot, hs5, hg5⟩
    have HGot := hide (hgot.mono (S' := Since w) (fun k _ hk => Nat.le_trans (gb_trans (unhide HS _).2 (gb_drew _ _)).size hk))
    have HG5 := hide (gb_trans (gb_trans (unhide HS _).2 (gb_drew _ _)) hg5)
    obtain ⟨a, rfl⟩ := hgot.one
    clear hgot hg5 c0 c1 c2 f1 d0 d1 d2 d3
    go_wp2_with fail
    refine (dwant_any hs5 ⟨#[41]⟩ (by simp)).mono ?_
    rintro e w6 ⟨rfl, hs6, hg6⟩
    have Hs6 := hide hs6
    have Hg6 := hide hg6
    clear hs5 hs6 hg6
    go_wp2_with fail
    go_ret
    refine ⟨_, rfl, ?_, unhide Hs6, gb_trans (unhide HG5) (unhide Hg6)⟩
    exact ((unhide HGot).gb (unhide Hg6) (since_r hrl)).st (want_bad [41] q.2)

end Go.Proofs.YtgahgkddaljmkaaGreatDoor

namespace Go.Proofs.YtgahgkddaljmkaaGreatDoor
open Go.RowKit
attribute [local go_sem ↓] Go.wp_at_zero Go.wp_at_succ

set_option maxRecDepth 100000 in
set_option maxHeartbeats 4000000 in
theorem datom_maker {w : World} {r tb : Nat} {L : List Th.DP} {st : Th.St} (h : DS w r tb L st) (hk2 : st.is [123] = true) :
    Calls Tryz.prog 287 #[.pointer (some ⟨r, 0, none⟩)] w fun en w' => DReads w r tb L (Th.pmaker st.adv).1 (Th.pmaker st.adv).2 en w' := by
  obtain ⟨cap, i, d, hd, ht, rfl⟩ := h.at (is_bad hk2)
  have hk3 := (is_not ht (by simp) hk2).1
  have hds := (is_not ht (by simp) hk2).2
  have hk := hd.good.sgn d (List.mem_of_getElem? ht) (.inr (.inl hds))
  have hrl := h.lt
  have htl := h.tlt
  have hl := hd.lt
  have hn := hd.good.len
  have c0 := hd.blk.cell 0
  have c1 := hd.blk.cell 1
  have c2 := hd.blk.cell 2
  have f1 := hd.blk.frozen 1
  simp at c0 c1 c2
  obtain ⟨d0, d1, d2, d3⟩ := hd.toks i d ht
  rw [hk] at d2
  rw [hds] at d0
  have HS := hide (fun o => datom_facts hd ht hk3 o)
  obtain ⟨s0, hs0⟩ : ∃ s, (Th.stAt L i).adv = s := ⟨_, rfl⟩
  rw [hs0] at HS ⊢
  clear h hd ht hk hk2 hk3 hds hs0
  go_enter Tryz.func287, Tryz.ntmps287
  go_wp2_with fail
  go_region
  all_goals
    go_wp2_with fail
    have hs1 := ((unhide HS (.cells #[.string ⟨#[123]⟩, .int .i64 d.at_, .int .u8 115, .int .i64 d.n] 108)).1.alloc (.cells (exCells (Th.mkMake 0 0) (.pointer none) (.pointer none) (.slice none 0 0) (.slice none 0 0) (.slice none 0 0)).toArray 195)).drew
    have hg1 := gb_trans (gb_trans (unhide HS (.cells #[.string ⟨#[123]⟩, .int .i64 d.at_, .int .u8 115, .int .i64 d.n] 108)).2 (gb_alloc _ (.cells (exCells (Th.mkMake 0 0) (.pointer none) (.pointer none) (.slice none 0 0) (.slice none 0 0) (.slice none 0 0)).toArray 195) _)) (gb_drew _ _)
    have B1 : Blk _ (w.heap.size + 1) _ _ := (show w.heap.size + 1 = ((w.setCell ⟨r, 1, none⟩ (.int .i64 ((i : Int) + 1))).alloc (.cells #[.string ⟨#[123]⟩, .int .i64 d.at_, .int .u8 115, .int .i64 d.n] 108)).heap.size by simp [World.setCell]) ▸ (Blk.new ((w.setCell ⟨r, 1, none⟩ (.int .i64 ((i : Int) + 1))).alloc (.cells #[.string ⟨#[123]⟩, .int .i64 d.at_, .int .u8 115, .int .i64 d.n] 108)) (exCells (Th.mkMake 0 0) (.pointer none) (.pointer none) (.slice none 0 0) (.slice none 0 0) (.slice none 0 0)) 195).drew
    have HG1 := hide hg1
    have HB1 := hide B1
    clear c0 c1 c2 f1 d0 d1 d2 d3 B1 hg1
    refine (dnumber_any hs1 1 99 (by omega) (by omega)).mono ?_
    rintro e w1 ⟨rfl, hs2, hg2⟩
    generalize ha : Th.pnumber 1 99 s0 = a at hs2 ⊢
    have B2 := (unhide HB1).grown hg2 (by simp; omega)
    have c4 := B2.cell 4
    have f4 := B2.frozen 4
    simp [exCells, Th.mkMake] at c4
    have HA := hide ha
    have HB2 := hide (B2.set 4 (.int .i64 a.1))
    have hG2 := gb_trans (unhide HG1) hg2
    have HG2 := hide (gb_set_new hG2 ⟨w.heap.size + 1, 4, none⟩ (.int .i64 a.1) (by simp))
    have Hs2 := hide (hs2.set (w.heap.size + 1) 4 (.int .i64 a.1) (by omega) (by omega))
    clear hs1 hs2 hg2 hG2 B2 ha
    go_wp2_with fail
    refine (dwant_any (unhide Hs2) ⟨#[44]⟩ (by simp)).mono ?_
    rintro e w2 ⟨rfl, hs3, hg3⟩
    have HB3 := hide ((unhide HB2).grown hg3 (by simp; omega))
    have HG3 := hide (gb_trans (unhide HG2) hg3)
    clear hg3 c4 f4
    go_wp2_with fail
    refine (dnumber_any hs3 0 9 (by omega) (by omega)).mono ?_
    rintro e w3 ⟨rfl, hs4, hg4⟩
    generalize hb : Th.pnumber 0 9 _ = b at hs4 ⊢
    have B4 := (unhide HB3).grown hg4 (by simp; omega)
    have c5 := B4.cell 5
    have f5 := B4.frozen 5
    simp [exCells, Th.mkMake] at c5
    have HBB := hide hb
    have HB4 := hide (B4.set 5 (.int .i64 b.1))
    have hG4 := gb_trans (unhide HG3) hg4
    have HG4 := hide (gb_set_new hG4 ⟨w.heap.size + 1, 5, none⟩ (.int .i64 b.1) (by simp))
    have Hs4 := hide (hs4.set (w.heap.size + 1) 5 (.int .i64 b.1) (by omega) (by omega))
    clear hs3 hs4 hg4 hG4 B4 hb
    go_wp2_with fail
    refine (dwant_any (unhide Hs4) ⟨#[125]⟩ (by simp)).mono ?_
    rintro e w5 ⟨rfl, hs5, hg5⟩
    have HB5 := hide ((unhide HB4).grown hg5 (by simp; omega))
    have HG5 := hide (gb_trans (unhide HG4) hg5)
    have Hs5 := hide hs5
    clear hg5 hs5 c5 f5
    go_wp2_with fail
    go_ret
    have ea : Th.pmaker s0 = (Th.mkMake a.1 b.1, Th.want [125] b.2) := by
      unfold Th.pmaker
      simp only [unhide HA]
      rw [show Th.pnumber 0 9 (Th.want [44] a.2) = b from unhide HBB]
    rw [ea]
    exact ⟨_, rfl, ⟨⟨_, rfl⟩, fun _ => ⟨1, _, _, _, _, _, _, rfl, by simp only [Since]; omega, unhide HB5, .inl (by simp [Th.mkMake])⟩⟩, unhide Hs5, unhide HG5⟩

/-- An atom, where one begins. -/
theorem datom_ok {ex : Th.Rd} (hx : DExOK ex) {w : World} {r tb : Nat} {L : List Th.DP} {st : Th.St} {q : Th.Ex × Th.St} (hq : Th.patom ex st = some q) (hb : Th.begins st = true) (h : DS w r tb L st) :
    Calls Tryz.prog 287 #[.pointer (some ⟨r, 0, none⟩)] w fun en w' => DReads w r tb L q.1 q.2 en w' := by
  unfold Th.patom at hq
  split at hq
  · rename_i h1
    cases hq
    exact datom_name h h1
  · rename_i h1
    split at hq
    · rename_i h2
      cases hq
      exact datom_number h h2
    · rename_i h2
      split at hq
      · rename_i h3
        cases hq
        exact datom_maker h h3
      · rename_i h3
        split at hq
        · rename_i h4
          simp only [Option.bind_eq_some_iff, Option.some.injEq] at hq
          obtain ⟨q1, hq1, rfl⟩ := hq
          exact datom_paren hx h h4 hq1
        · rename_i h4
          simp [Th.begins] at hb
          simp_all

end Go.Proofs.YtgahgkddaljmkaaGreatDoor

namespace Go.Proofs.YtgahgkddaljmkaaGreatDoor
open Go.RowKit
attribute [local go_sem ↓] Go.wp_at_zero Go.wp_at_succ

theorem patom_no {ex : Th.Rd} {st : Th.St} (h : Th.begins st = false) : Th.patom ex st = some (Th.ex0, st.fail) := by
  simp only [Th.begins, Bool.or_eq_false_iff] at h
  unfold Th.patom
  rw [h.1.1.1, h.1.1.2, h.1.2, h.2]
  rfl
theorem begins_fail (st : Th.St) : Th.begins st.fail = false := by
  cases hb : Th.begins st.fail
  · rfl
  · exact absurd (Th.begins_bad hb) fail_bad

/-- A new call or operation of two parts. -/
theorem dgot_two {w w1 : World} {r b : Nat} {e e1 e2 : Th.Ex} {s1 s2 : Th.St} {lv rv nv pv av : Value} (hg : w.grownBy w1 (some r)) (hk : e.kind = 5 ∨ e.kind = 6) (he : e.kids = [e1, e2])
    (h1 : DGot (Since w) w1 lv e1 s1) (h2 : DGot (Since w) w1 rv e2 s2) (hb1 : s2.bad = none → s1.bad = none) (hb : b = w1.heap.size) :
    DGot (Since w) (w1.alloc (.cells (exCells e lv rv nv pv av).toArray 195)) (.pointer (some ⟨b, 0, none⟩)) e s2 := by
  subst hb
  refine ⟨⟨_, rfl⟩, fun hbad => ?_⟩
  obtain ⟨n1, hn1⟩ := h1.rep (hb1 hbad)
  obtain ⟨n2, hn2⟩ := h2.rep hbad
  exact ⟨_, drep_two hg.size hk he hn1 hn2⟩

theorem dgot_new0 {w w1 : World} {r b : Nat} {e : Th.Ex} {st : Th.St} {lv rv nv pv av : Value} (hg : w.grownBy w1 (some r)) (hk : e.kind ≤ 3) (hb : b = w1.heap.size) :
    DGot (Since w) (w1.alloc (.cells (exCells e lv rv nv pv av).toArray 195)) (.pointer (some ⟨b, 0, none⟩)) e st := by
  subst hb
  exact ⟨⟨_, rfl⟩, fun _ => ⟨1, drep_new hg.size hk⟩⟩

set_option maxRecDepth 100000 in
set_option maxHeartbeats 4000000 in
theorem dcall_ok {ex : Th.Rd} (hx : DExOK ex) (k : Nat) (st : Th.St) (q : Th.Ex × Th.St) (w : World) (r tb : Nat) (L : List Th.DP) (hq : Th.pcall ex k st = some q) (h : DS w r tb L st) :
    Calls Tryz.prog 282 #[.pointer (some ⟨r, 0, none⟩)] w fun en w' => DReads w r tb L q.1 q.2 en w' := by
  have hrl := h.lt
  unfold Th.pcall at hq
  simp only [Option.bind_eq_some_iff] at hq
  obtain ⟨q1, hq1, hq2⟩ := hq
  cases hbg : Th.begins st
  · rw [patom_no hbg] at hq1
    cases hq1
    have eq : q = (Th.ex0, st.fail) := by
      cases k with
      | zero => simp [Th.pcalls] at hq2
      | succ k => rw [Th.pcalls, begins_fail] at hq2; simpa using hq2.symm
    subst eq
    have HBG := hide hbg
    clear hq2 hbg
    go_enter Tryz.func282, Tryz.ntmps282
    go_wp2_with fail
    refine (datom_no h (unhide HBG)).mono ?_
    rintro en w1 ⟨rfl, hs1, hb1⟩
    have HB1 := hide hb1
    clear h hb1
    go_wp2_with fail
    refine (dfail_any hs1).mono ?_
    rintro en w2 ⟨rfl, hs2, hg2⟩
    have Hs2 := hide hs2
    have HG2 := hide (gb_trans (gb_below (some r) (unhide HB1)) hg2)
    clear hs1 hs2 hg2
    go_wp2_with fail
    go_ret
    exact ⟨_, rfl, dgot_new0 (e := Th.ex0) (unhide HG2) (by simp [Th.ex0]) rfl, (unhide Hs2).alloc _, gb_trans (unhide HG2) (gb_alloc _ _ _)⟩
  · have HX := hide hx
    have HQ1 := hide hq1
    have HQ2 := hide hq2
    have HBG := hide hbg
    clear hx hq1 hq2 hbg
    go_enter Tryz.func282, Tryz.ntmps282
    go_wp2_with fail
    refine (datom_ok (unhide HX) (unhide HQ1) (unhide HBG) h).mono ?_
    rintro en w1 ⟨v1, rfl, hgot1, hs1, hg1⟩
    have HGot1 := hide hgot1
    have Hs1 := hide hs1
    have HG1 := hide hg1
    obtain ⟨a1, rfl⟩ := hgot1.one
    clear h hgot1 hs1 hg1
    go_wp2_with fail
    go_loopg [3] k (fun gk v wr => ∃ e s1, DGot (Since w) wr v e s1 ∧ DS wr r tb L s1 ∧ w.grownBy wr (some r) ∧ Th.pcalls ex gk e s1 = some q)
    case atStart => exact ⟨_, _, unhide HGot1, unhide Hs1, unhide HG1, unhide HQ2⟩
    case round =>
      obtain ⟨e, s1, hgot, hs, hg, hp⟩ := hrel
      obtain ⟨a, rfl⟩ := hgot.one
      cases gk with
      | zero => simp [Th.pcalls] at hp
      | succ gk =>
        rw [Th.pcalls] at hp
        cases hb : Th.begins s1
        · rw [hb] at hp
          simp only [Bool.false_eq_true, if_false, Option.some.injEq] at hp
          subst hp
          have HGot := hide hgot
          have HG := hide hg
          have HB := hide hb
          clear hgot hg hb
          go_wp2_with fail
          refine (datom_no hs (unhide HB)).mono ?_
          rintro en w2 ⟨rfl, hs2, hb2⟩
          have Hs2 := hide hs2
          have HB2 := hide hb2
          clear hs hs2 hb2
          go_wp2_with fail
          go_ret
          exact ⟨_, rfl, (unhide HGot).gb (gb_below none (unhide HB2)) (by simp), unhide Hs2, gb_trans (unhide HG) (gb_below _ (unhide HB2))⟩
        · rw [hb] at hp
          simp only [if_true, Option.bind_eq_some_iff] at hp
          obtain ⟨q2, hq2, hq3⟩ := hp
          have HGot := hide hgot
          have HG := hide hg
          have HB := hide hb
          have HQ3 := hide hq2
          have HQ4 := hide hq3
          clear hgot hg hb hq2 hq3
          go_wp2_with fail
          refine (datom_ok (unhide HX) (unhide HQ3) (unhide HB) hs).mono ?_
          rintro en w2 ⟨v2, rfl, hgot2, hs2, hg2⟩
          obtain ⟨a2, rfl⟩ := hgot2.one
          have Hs2 := hide hs2
          have HG2 := hide (gb_trans (unhide HG) hg2)
          have hz := (unhide HG).size
          have HGot2 := hide (hgot2.mono (S' := Since w) (fun k _ hk => Nat.le_trans hz hk))
          have HGot1' := hide ((unhide HGot).gb hg2 (since_r hrl))
          clear hs hgot2 hs2 hg2
          go_wp2_with fail
          go_roundg gk
          case measure => omega
          case rel =>
            exact ⟨Th.mkCall e q2.1, q2.2, dgot_two (e := Th.mkCall e q2.1) (unhide HG2) (.inl rfl) rfl (unhide HGot1') (unhide HGot2) (fun _ => Th.begins_bad (unhide HB)) rfl, (unhide Hs2).alloc _, gb_trans (unhide HG2) (gb_alloc _ _ _), unhide HQ4⟩

end Go.Proofs.YtgahgkddaljmkaaGreatDoor
