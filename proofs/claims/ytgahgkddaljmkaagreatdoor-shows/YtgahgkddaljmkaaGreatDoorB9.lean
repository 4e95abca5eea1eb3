/- The document's reader: an expression that is a function without a name. -/
import Derived.Test.YtgahgkddaljmkaaGreatDoorB8
namespace Go.Proofs.YtgahgkddaljmkaaGreatDoor
open Go.RowKit
attribute [local go_sem ↓] Go.wp_at_zero Go.wp_at_succ

set_option maxRecDepth 100000 in
set_option maxHeartbeats 8000000 in
theorem dexpr_fun {ex : Th.Rd} (hx : DExOK ex) (hk : Keeps ex) {w : World} {r tb : Nat} {L : List Th.DP} {c : Bool} {st : Th.St} {q : Th.Ex × Th.St} (h1 : st.is Th.sLet = false) (h2 : st.is Th.sCase = false) (h3 : st.is [92] = true) (hq : Th.pfun ex c st.adv = some q) (h : DS w r tb L st) :
    Calls Tryz.prog 171 #[.pointer (some ⟨r, 0, none⟩), .bool c] w fun en w' => DReads w r tb L q.1 q.2 en w' := by
  have hrl := h.lt
  have htl := h.tlt
  obtain ⟨i0, hi0, hz0, hz1, hz2⟩ := info_parts infoDTok
  have HI := hide hi0; clear hi0
  have HZ := hide (And.intro hz0 (And.intro hz1 hz2)); clear hz0 hz1 hz2
  unfold Th.pfun at hq
  simp only [Option.bind_eq_some_iff, Option.some.injEq] at hq
  obtain ⟨q1, hq1, rfl⟩ := hq
  obtain ⟨cap, i, d, hd, ht, rfl⟩ := h.at (is_bad h3)
  have hk3 := (is_not ht (by simp) h3).1
  obtain ⟨s0, hs00⟩ : ∃ s, (Th.stAt L i).adv = s := ⟨_, rfl⟩
  rw [hs00] at hq1 ⊢
  obtain ⟨xn, hxn⟩ : ∃ x, Th.pname s0 = x := ⟨_, rfl⟩
  rw [hxn] at hq1 ⊢
  obtain ⟨ln, hln⟩ : ∃ x, Th.pnames xn.2 = x := ⟨_, rfl⟩
  rw [hln] at hq1 ⊢
  obtain ⟨kn, hkn⟩ : ∃ kn : Nat, (if xn.1.k = 2 then 97 else 0) = kn := ⟨_, rfl⟩
  have HKN : Hid (dnCells xn.1 = [.string ⟨xn.1.s.toArray⟩, .int .i64 xn.1.at_, .int .u8 kn, .int .i64 0]) := hide (by rw [← hkn]; rfl)
  have HNBAD : Hid (xn.2.bad = none → s0.bad = none) := hide (by rw [← hxn]; exact name_bad s0)
  have HLBAD : Hid (ln.2.bad = none → xn.2.bad = none) := hide (by rw [← hln]; exact names_bad _)
  have CON : Hid (∀ W : World, DS W r tb L s0 → Calls Tryz.prog 168 #[.pointer (some ⟨r, 0, none⟩)] W fun e w' => e = .returned (.agg #[.string ⟨xn.1.s.toArray⟩, .int .i64 xn.1.at_, .int .u8 kn, .int .i64 0]) ∧ DS w' r tb L xn.2 ∧ W.grownBy w' (some r)) := hide (fun W hW => by
    have := dname_any hW
    rw [hxn] at this
    simp only [dnV, hkn] at this
    exact this)
  have CON2 : Hid (∀ W : World, DS W r tb L xn.2 → Calls Tryz.prog 169 #[.pointer (some ⟨r, 0, none⟩)] W fun e w' => ∃ v, e = .returned v ∧ (ln.1 = [] → v = .slice none 0 0) ∧ w'.ownsRow W.heap.size 108 4 v ln.1.length (dnsCells ln.1) ∧ DS w' r tb L ln.2 ∧ W.grownBy w' (some r)) := hide (fun W hW => by
    have := dnames_full hW
    rw [hln] at this
    exact this)
  have FEW : Hid (∀ W : World, DS W r tb L xn.2 → ln.1.length ≤ 100000) := hide (fun W hW => by have := dnames_few hW; rw [hln] at this; exact this)
  have HS00 := hide hs00
  have hl := hd.lt
  have hn := hd.good.len
  have HD := hide hd
  have Ht := hide ht
  have H1 := hide h1
  have H2 := hide h2
  have H3 := hide h3
  have HQ1 := hide hq1
  have HX := hide hx
  have HK := hide hk
  clear h1 h2 h3 hq1 hx hk hd ht hs00 hxn hln hkn
  go_enter Tryz.func171, Tryz.ntmps171
  go_wp2_with fail
  refine (dis_any h ⟨#[108, 101, 116]⟩ (by simp)).mono ?_
  rintro e w1 ⟨rfl, hb1⟩
  rw [show (Th.stAt L i).is (ByteArray.mk #[108, 101, 116]).data.toList = false from unhide H1]
  have hs1 := h.below hb1
  have HB1 := hide hb1
  clear h hb1
  go_wp2_with fail
  refine (dis_any hs1 ⟨#[99, 97, 115, 101]⟩ (by simp)).mono ?_
  rintro e w2 ⟨rfl, hb2⟩
  rw [show (Th.stAt L i).is (ByteArray.mk #[99, 97, 115, 101]).data.toList = false from unhide H2]
  have hs2 := hs1.below hb2
  have HB2 := hide ((unhide HB1).trans (hb2.mono (unhide HB1).size))
  clear hs1 hb2
  go_wp2_with fail
  refine (dis_any hs2 ⟨#[92]⟩ (by simp)).mono ?_
  rintro e w3 ⟨rfl, hb3⟩
  rw [show (Th.stAt L i).is (ByteArray.mk #[92]).data.toList = true from unhide H3]
  have hb3' := (unhide HB2).trans (hb3.mono (unhide HB2).size)
  have hS := (unhide HD).step (unhide Ht) hk3 hb3'
  have B := (unhide HD).blk.below hb3' (unhide HD).blk.lt
  have c1 := B.cell 1
  have f1 := B.frozen 1
  simp at c1
  have hz3 := hb3'.size
  have hsz : (w3.setCell ⟨r, 1, none⟩ (.int .i64 ((i : Int) + 1))).heap.size = w3.heap.size := by simp [World.setCell]
  have hE0 := Blk.new (w3.setCell ⟨r, 1, none⟩ (.int .i64 ((i : Int) + 1))) (letCells 4 (.slice none 0 0) (.slice none 0 0)) 195
  rw [hsz] at hE0
  have hG0 := gb_trans hS.2 (gb_alloc _ (.cells (letCells 4 (.slice none 0 0) (.slice none 0 0)).toArray 195) (some r))
  have hs0 := hS.1.alloc (.cells (letCells 4 (.slice none 0 0) (.slice none 0 0)).toArray 195)
  rw [unhide HS00] at hs0
  have hDB : DB w _ r tb w3.heap.size L 4 [] [] s0 (.slice none 0 0) (.slice none 0 0) := ⟨hE0, hz3, hrl, htl, hs0, hG0, World.ownsRow_nil _ _ _ _, (fun b hb _ => by simp [Value.ownBlock] at hb), [], rfl, World.ownsRow_nil _ _ _ _, fun _ => ⟨0, fun i x p hh _ => by simp at hh⟩⟩
  have HB := hide hDB
  clear hs2 hb3 hb3' hS B hE0 HD Ht H1 H2 H3 hs0 hG0 hDB
  go_wp2_with fail
  obtain ⟨W0, hW0⟩ : ∃ W0, (w3.setCell ⟨r, 1, none⟩ (.int .i64 ((i : Int) + 1))).alloc (.cells #[.int .i64 4, .int .i64 0, .string ⟨#[]⟩, .int .i64 0, .int .i64 0, .int .i64 0, .pointer none, .pointer none, .slice none 0 0, .slice none 0 0, .slice none 0 0] 195) = W0 := ⟨_, rfl⟩
  have HBW : Hid (DB w W0 r tb w3.heap.size L 4 [] [] s0 (.slice none 0 0) (.slice none 0 0)) := hide (by rw [← hW0]; exact unhide HB)
  rw [hW0]
  have c8 := Blk.cell (unhide HBW).blk 8
  have f8 := Blk.frozen (unhide HBW).blk 8
  simp [letCells] at c8
  have heb := (unhide HBW).blk.lt
  clear HB hW0 c1 f1
  go_cut [75] (fun _ wc => ∃ nv, DB w wc r tb w3.heap.size L 4 [xn.1] [] xn.2 nv (.slice none 0 0))
  case first =>
    go_region_law (first
      | (refine step_append_lies _ (by rfl) _ _ _ (by rfl) (w3.heap.size + 1) 108 i0 _ 4 40 Tryz.underlying109 (unhide HI) (unhide HZ).1 (unhide HZ).2.1 (unhide HZ).2.2 rfl (by omega) (.slice none 0 0) 0 (dnsCells []) (by rfl) ((unhide HB4).nrow.alloc _) ⟨w4.heap.size, 0, none⟩ 1 1 [.string ⟨xn.1.s.toArray⟩, .int .i64 xn.1.at_, .int .u8 kn, .int .i64 0] (by rfl) (by rfl) (World.news_of_block (cs := #[.string ⟨xn.1.s.toArray⟩, .int .i64 xn.1.at_, .int .u8 kn, .int .i64 0]) (t := 108) (fr := (0, 0)) (heap_alloc_new w4 _)) four_one (by omega) (by unfold maxLen; omega) (by omega) (by simp; omega) (w4.heap.size + 1) (by simp) ?_; intro g cap w5 hown hgrow hat hlt; have h5 := hide (((unhide H4).alloc _).gb hgrow (by simp [Value.ownBlock])); have h5c := (unhide h5).1; have h5f := (unhide h5).2)
      | (go_simp; go_wp2_with (go_at_call 168; refine (unhide CON _ ?_).mono ?_; exact (unhide HBW).ds.drew; rintro e w4 ⟨rfl, hs4, hg4⟩; have HB4 := hide ((unhide HBW).drew.step hg4 hs4 (unhide HNBAD)); have hl4 := (unhide HB4).blk.lt; have H4 := hide (held_of_blk (unhide HB4).blk 8 (v := .slice none 0 0) rfl); have h4c := (unhide H4).1; have h4f := (unhide H4).2; clear hs4 hg4)))
    all_goals
      go_wp2_with fail
      go_meet
      case rel =>
        exact ⟨_, (unhide HB4).name (x := xn.1) (by rw [unhide HKN]; exact hown) hgrow hat⟩
  case rest =>
    obtain ⟨nv, hB5⟩ := hcut
    obtain ⟨ga, ca, rfl⟩ := own_single hB5.nrow
    have HB5 := hide hB5
    have c8' := hB5.blk.cell 8
    have f8' := hB5.blk.frozen 8
    simp [letCells] at c8'
    have heb5 := hB5.blk.lt
    have hga : w3.heap.size < ga := (hB5.nrow.lt ga rfl).1
    have hfew := unhide FEW _ hB5.ds
    clear hB5 c8 f8 HBW
    go_wp2_with fail
    go_cut [87] (fun _ wc => ∃ nv, DB w wc r tb w3.heap.size L 4 (xn.1 :: ln.1) [] ln.2 nv (.slice none 0 0))
    case first =>
      by_cases hl0 : ln.1 = []
      · have Hl := hide hl0
        clear hl0
        go_region_law (first
          | (go_simp; go_wp2_with (go_at_call 169; refine (unhide CON2 _ ?_).mono ?_; exact (unhide HB5).ds.drew; rintro e w6 ⟨nv6, rfl, hnil, hrow6, hs6, hg6⟩; obtain rfl := hnil (unhide Hl); have HB6 := hide ((unhide HB5).drew.step hg6 hs6 (unhide HLBAD)); have hl6 := (unhide HB6).blk.lt; have H6 := hide (held_of_blk (unhide HB6).blk 8 (v := .slice (some ⟨ga, 0, none⟩) 1 (ca + 1)) rfl); have h6c := (unhide H6).1; have h6f := (unhide H6).2; clear hs6 hg6 hnil hrow6)))
        all_goals
          go_wp2_with fail
          go_meet
          case rel =>
            have hf := DB.names (k := []) (g := ga) (cap := ca + 1) (m := 1) (unhide HB6) (by simp) (by simpa [dnsCells] using (unhide HB6).nrow) (gb_refl _ _) (.inl rfl)
            rw [show xn.1 :: ln.1 = [xn.1] ++ [] by rw [unhide Hl]; rfl]
            exact ⟨_, hf⟩
      · have hl1 : 0 < ln.1.length := List.length_pos_iff.2 hl0
        clear hl0
        go_region_law (first
          | (refine step_append_lies _ (by rfl) _ _ _ (by rfl) (w3.heap.size + 1) 108 i0 _ 4 40 Tryz.underlying109 (unhide HI) (unhide HZ).1 (unhide HZ).2.1 (unhide HZ).2.2 rfl (by omega) (.slice (some ⟨ga, 0, none⟩) 1 (ca + 1)) 1 (dnsCells [xn.1]) (by rfl) (unhide HB6).nrow ⟨g6, 0, none⟩ ln.1.length c6 (dnsCells ln.1) (by rfl) (dnsCells_len _) (hrow6.cells rfl) (dnames_one _) (by omega) (by unfold maxLen; omega) (by omega) (by omega) w6.heap.size rfl ?_; intro g cap w7 hown hgrow hat hlt; have h7 := hide ((unhide H6).gb hgrow (by simp [Value.ownBlock]; omega)); have h7c := (unhide h7).1; have h7f := (unhide h7).2)
          | (go_simp; go_wp2_with (go_at_call 169; refine (unhide CON2 _ ?_).mono ?_; exact (unhide HB5).ds.drew; rintro e w6 ⟨nv6, rfl, hnil, hrow6, hs6, hg6⟩; obtain ⟨g6, c6, rfl⟩ := own_some hrow6 hl1; have HB6 := hide ((unhide HB5).drew.step hg6 hs6 (unhide HLBAD)); have hl6 := (unhide HB6).blk.lt; have H6 := hide (held_of_blk (unhide HB6).blk 8 (v := .slice (some ⟨ga, 0, none⟩) 1 (ca + 1)) rfl); have h6c := (unhide H6).1; have h6f := (unhide H6).2; clear hs6 hg6 hnil)))
        all_goals
          go_wp2_with fail
          go_meet
          case rel =>
            exact ⟨_, DB.names (k := ln.1) (unhide HB6) (by simp) hown hgrow hat⟩
    case rest =>
      obtain ⟨nv7, hB7⟩ := hcut
      have HB7 := hide hB7
      have hs7 := hB7.ds
      clear hB7 c8' f8' HB5
      go_wp2_with fail
      refine (dwant_any hs7 ⟨#[46]⟩ (by simp)).mono ?_
      rintro e w8 ⟨rfl, hs8, hg8⟩
      have HB8 := hide ((unhide HB7).step hg8 hs8 (want_bad [46] ln.2))
      clear hs7 hg8
      go_wp2_with fail
      refine (unhide HX _ _ _ _ _ _ _ (unhide HQ1) hs8).mono ?_
      rintro en w9 ⟨v9, rfl, hgot, hs9, hg9⟩
      obtain ⟨a9, rfl⟩ := hgot.one
      have hB9 := (unhide HB8).step hg9 hs9 (unhide HK _ _ _ (unhide HQ1))
      have FIN := hide (hB9.lam (B := w8.heap.size) hgot.rep (unhide HB8).blk.lt)
      have c6 := hB9.blk.cell 6
      have f6 := hB9.blk.frozen 6
      simp [letCells] at c6
      clear hs8 hgot hs9 hg9 hB9
      go_wp2_with fail
      go_ret
      exact ⟨_, rfl, unhide FIN⟩

/-- The document's method expr reads as the grammar says. -/
theorem dbody_ok {ex : Th.Rd} (hx : DExOK ex) (hk : Keeps ex) {k : Nat} (hkk : k ≤ 1000000) : DExOK (Th.pbody ex k) := by
  intro c st q w r tb L hq h
  unfold Th.pbody at hq
  split at hq
  · rename_i h1
    exact dexpr_let hx hk hkk h1 hq h
  · rename_i h1
    rw [Bool.not_eq_true] at h1
    split at hq
    · rename_i h2
      exact dexpr_case hx hk hkk h1 h2 hq h
    · rename_i h2
      rw [Bool.not_eq_true] at h2
      split at hq
      · rename_i h3
        exact dexpr_fun hx hk h1 h2 h3 hq h
      · rename_i h3
        rw [Bool.not_eq_true] at h3
        have s1 : DSub 282 (Th.pcall ex k) := fun st q w r tb L hq h => dcall_ok hx k st q w r tb L hq h
        have s2 : DSub 275 (Th.pproduct ex k) := fun st q w r tb L hq h => dproduct_ok s1 k st q w r tb L hq h
        have s3 : DSub 261 (Th.psum ex k) := fun st q w r tb L hq h => dsum_ok s2 k st q w r tb L hq h
        have s4 : DSub 228 (Th.ptest ex k) := fun st q w r tb L hq h => dtest_ok s3 st q w r tb L hq h
        exact dexpr_test s4 h1 h2 h3 hq h

theorem dexpr_ok : ∀ (n : Nat), n ≤ 1000000 → DExOK (Th.pexpr n)
  | 0, _ => fun _ _ _ _ _ _ _ h => by simp [Th.pexpr] at h
  | n + 1, hn => dbody_ok (dexpr_ok n (by omega)) (expr_keeps n) (by omega)

end Go.Proofs.YtgahgkddaljmkaaGreatDoor
