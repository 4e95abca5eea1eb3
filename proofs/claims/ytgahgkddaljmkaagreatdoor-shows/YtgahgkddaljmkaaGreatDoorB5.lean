/- The document's reader: products. The document's reader: sums. The document's reader: a test. -/
import Derived.Test.YtgahgkddaljmkaaGreatDoorB4
namespace Go.Proofs.YtgahgkddaljmkaaGreatDoor
open Go.RowKit
attribute [local go_sem ↓] Go.wp_at_zero Go.wp_at_succ

/-- What a reader of a level does. -/
def DSub (f : FuncId) (sub : Th.St → Option (Th.Ex × Th.St)) : Prop := ∀ (st : Th.St) (q : Th.Ex × Th.St) (w : World) (r tb : Nat) (L : List Th.DP), sub st = some q → DS w r tb L st →
  Calls Tryz.prog f #[.pointer (some ⟨r, 0, none⟩)] w fun en w' => DReads w r tb L q.1 q.2 en w'

set_option maxRecDepth 100000 in
set_option maxHeartbeats 4000000 in
theorem dproduct_ok {sub : Th.St → Option (Th.Ex × Th.St)} (hx : DSub 282 sub) (k : Nat) (st : Th.St) (q : Th.Ex × Th.St) (w : World) (r tb : Nat) (L : List Th.DP) (hq : ((sub st).bind fun r => Th.pops sub [42] [47] k r.1 r.2) = some q) (h : DS w r tb L st) :
    Calls Tryz.prog 275 #[.pointer (some ⟨r, 0, none⟩)] w fun en w' => DReads w r tb L q.1 q.2 en w' := by
  have hrl := h.lt
  simp only [Option.bind_eq_some_iff] at hq
  obtain ⟨q1, hq1, hq2⟩ := hq
  have HX := hide hx
  have HQ1 := hide hq1
  have HQ2 := hide hq2
  clear hx hq1 hq2
  go_enter Tryz.func275, Tryz.ntmps275
  go_wp2_with fail
  refine (unhide HX _ _ _ _ _ _ (unhide HQ1) h).mono ?_
  rintro en w1 ⟨v1, rfl, hgot1, hs1, hg1⟩
  have HGot1 := hide hgot1
  have Hs1 := hide hs1
  have HG1 := hide hg1
  obtain ⟨a1, rfl⟩ := hgot1.one
  clear h hgot1 hs1 hg1
  go_wp2_with fail
  go_loopg [3] k (fun gk v wr => ∃ e s1, DGot (Since w) wr v e s1 ∧ DS wr r tb L s1 ∧ w.grownBy wr (some r) ∧ Th.pops sub [42] [47] gk e s1 = some q)
  case atStart => exact ⟨_, _, unhide HGot1, unhide Hs1, unhide HG1, unhide HQ2⟩
  case round =>
    obtain ⟨e, s1, hgot, hs, hg, hp⟩ := hrel
    obtain ⟨a, rfl⟩ := hgot.one
    have htl := hs.tlt
    have hrl2 := hs.lt
    cases gk with
    | zero => simp [Th.pops] at hp
    | succ gk =>
      rw [Th.pops] at hp
      have HGot := hide hgot
      have HG := hide hg
      have Hs := hide hs
      clear hgot hg
      cases h1 : s1.is [42]
      · cases h2 : s1.is [47]
        · rw [h1, h2] at hp
          simp only [Bool.or_self, Bool.false_eq_true, if_false, Option.some.injEq] at hp
          subst hp
          have H1 := hide h1
          have H2 := hide h2
          clear h1 h2
          go_wp2_with fail
          refine (dis_any hs ⟨#[42]⟩ (by simp)).mono ?_
          rintro en w2 ⟨rfl, hb2⟩
          rw [show s1.is (ByteArray.mk #[42]).data.toList = false from unhide H1]
          have hs2 := hs.below hb2
          have HB2 := hide hb2
          clear hs hb2
          go_wp2_with fail
          refine (dis_any hs2 ⟨#[47]⟩ (by simp)).mono ?_
          rintro en w3 ⟨rfl, hb3⟩
          rw [show s1.is (ByteArray.mk #[47]).data.toList = false from unhide H2]
          have Hs3 := hide (hs2.below hb3)
          have HB3 := hide ((unhide HB2).trans (hb3.mono (unhide HB2).size))
          clear hs2 hb3
          go_wp2_with fail
          go_ret
          exact ⟨_, rfl, (unhide HGot).gb (gb_below none (unhide HB3)) (by simp), unhide Hs3, gb_trans (unhide HG) (gb_below _ (unhide HB3))⟩
        · rw [h1, h2] at hp
          simp only [Bool.false_or, if_true, Option.bind_eq_some_iff] at hp
          obtain ⟨q2, hq2, hq3⟩ := hp
          have HQ3 := hide hq2
          have HQ4 := hide hq3
          have H1 := hide h1
          have HY := hide h2
          clear h1 h2 hq2 hq3
          go_wp2_with fail
          refine (dis_any hs ⟨#[42]⟩ (by simp)).mono ?_
          rintro en w2 ⟨rfl, hb2⟩
          rw [show s1.is (ByteArray.mk #[42]).data.toList = false from unhide H1]
          have hs1 := hs.below hb2
          have HB2 := hide hb2
          clear hs hb2
          go_wp2_with fail
          refine (dis_any hs1 ⟨#[47]⟩ (by simp)).mono ?_
          rintro en w3 ⟨rfl, hb3⟩
          rw [show s1.is (ByteArray.mk #[47]).data.toList = true from unhide HY]
          have hs2 := hs1.below hb3
          have HB3 := hide ((unhide HB2).trans (hb3.mono (unhide HB2).size))
          clear hs1 hb3 HB2
          obtain ⟨cap, i, d, hd, ht, rfl⟩ := hs2.at (is_bad (unhide HY))
          have hk3 := (is_not ht (by simp) (unhide HY)).1
          have hds := (is_not ht (by simp) (unhide HY)).2
          have hl := hd.lt
          have hn := hd.good.len
          have htl2 := hs2.tlt
          have hrl3 := hs2.lt
          have c0 := hd.blk.cell 0
          have c1 := hd.blk.cell 1
          have f1 := hd.blk.frozen 1
          simp at c0 c1
          obtain ⟨d0, d1, d2, d3⟩ := hd.toks i d ht
          have HS := hide (hd.step ht hk3 (Below.refl _ _))
          have ehd := Th.stAt_tok ht hk3
          have hq4 := unhide HQ4
          rw [ehd, hds] at hq4
          have HQ5 := hide hq4
          have hz := (unhide HG).size
          have hz3 := (unhide HB3).size
          have CON := hide (fun (W : World) (hW : DS W r tb L (Th.stAt L i).adv) => unhide HX _ _ _ _ _ _ (unhide HQ3) hW)
          clear hs2 hd ht d1 d2 d3 hk3 ehd hq4 HQ4
          go_wp2_with fail
          go_region
          all_goals
            go_wp2_with fail
            refine (unhide CON _ (unhide HS).1.drew).mono ?_
            rintro en w4 ⟨v2, rfl, hgot2, hs4, hg4⟩
            obtain ⟨a2, rfl⟩ := hgot2.one
            have hSg := gb_trans (unhide HS).2 (gb_drew _ (some r))
            have Hs4 := hide hs4
            have HG4 := hide (gb_trans (gb_trans (gb_trans (unhide HG) (gb_below _ (unhide HB3))) hSg) hg4)
            have hz4 := hSg.size
            have HGot2 := hide (hgot2.mono (S' := Since w) (fun k _ hk => by simp only [Since] at hk ⊢; omega))
            have HGot1' := hide ((((unhide HGot).gb (gb_below none (unhide HB3)) (by simp)).gb hSg (since_r hrl)).gb hg4 (since_r hrl))
            clear hgot2 hs4 hg4 hSg c0 c1 f1 d0
            go_wp2_with fail
            go_roundg gk
            case measure => omega
            case rel =>
              exact ⟨_, q2.2, dgot_two (e := Th.mkOp ⟨Th.kd d.k, [47], d.at_⟩ e q2.1) (unhide HG4) (.inr rfl) rfl (unhide HGot1') (unhide HGot2) (fun _ => rfl) rfl, (unhide Hs4).alloc _, gb_trans (unhide HG4) (gb_alloc _ _ _), unhide HQ5⟩
      · rw [h1] at hp
        simp only [Bool.true_or, if_true, Option.bind_eq_some_iff] at hp
        obtain ⟨q2, hq2, hq3⟩ := hp
        have HQ3 := hide hq2
        have HQ4 := hide hq3
        have HY := hide h1
        clear h1 hq2 hq3
        go_wp2_with fail
        refine (dis_any hs ⟨#[42]⟩ (by simp)).mono ?_
        rintro en w3 ⟨rfl, hb3⟩
        rw [show s1.is (ByteArray.mk #[42]).data.toList = true from unhide HY]
        have hs2 := hs.below hb3
        have HB3 := hide hb3
        clear hs hb3
        obtain ⟨cap, i, d, hd, ht, rfl⟩ := hs2.at (is_bad (unhide HY))
        have hk3 := (is_not ht (by simp) (unhide HY)).1
        have hds := (is_not ht (by simp) (unhide HY)).2
        have hl := hd.lt
        have hn := hd.good.len
        have htl2 := hs2.tlt
        have hrl3 := hs2.lt
        have c0 := hd.blk.cell 0
        have c1 := hd.blk.cell 1
        have f1 := hd.blk.frozen 1
        simp at c0 c1
        obtain ⟨d0, d1, d2, d3⟩ := hd.toks i d ht
        have HS := hide (hd.step ht hk3 (Below.refl _ _))
        have ehd := Th.stAt_tok ht hk3
        have hq4 := unhide HQ4
        rw [ehd, hds] at hq4
        have HQ5 := hide hq4
        have hz := (unhide HG).size
        have hz3 := (unhide HB3).size
        have CON := hide (fun (W : World) (hW : DS W r tb L (Th.stAt L i).adv) => unhide HX _ _ _ _ _ _ (unhide HQ3) hW)
        clear hs2 hd ht d1 d2 d3 hk3 ehd hq4 HQ4
        go_wp2_with fail
        go_region
        all_goals
          go_wp2_with fail
          refine (unhide CON _ (unhide HS).1.drew).mono ?_
          rintro en w4 ⟨v2, rfl, hgot2, hs4, hg4⟩
          obtain ⟨a2, rfl⟩ := hgot2.one
          have hSg := gb_trans (unhide HS).2 (gb_drew _ (some r))
          have Hs4 := hide hs4
          have HG4 := hide (gb_trans (gb_trans (gb_trans (unhide HG) (gb_below _ (unhide HB3))) hSg) hg4)
          have hz4 := hSg.size
          have HGot2 := hide (hgot2.mono (S' := Since w) (fun k _ hk => by simp only [Since] at hk ⊢; omega))
          have HGot1' := hide ((((unhide HGot).gb (gb_below none (unhide HB3)) (by simp)).gb hSg (since_r hrl)).gb hg4 (since_r hrl))
          clear hgot2 hs4 hg4 hSg c0 c1 f1 d0
          go_wp2_with fail
          go_roundg gk
          case measure => omega
          case rel =>
            exact ⟨_, q2.2, dgot_two (e := Th.mkOp ⟨Th.kd d.k, [42], d.at_⟩ e q2.1) (unhide HG4) (.inr rfl) rfl (unhide HGot1') (unhide HGot2) (fun _ => rfl) rfl, (unhide Hs4).alloc _, gb_trans (unhide HG4) (gb_alloc _ _ _), unhide HQ5⟩

end Go.Proofs.YtgahgkddaljmkaaGreatDoor

namespace Go.Proofs.YtgahgkddaljmkaaGreatDoor
open Go.RowKit
attribute [local go_sem ↓] Go.wp_at_zero Go.wp_at_succ

set_option maxRecDepth 100000 in
set_option maxHeartbeats 4000000 in
theorem dsum_ok {sub : Th.St → Option (Th.Ex × Th.St)} (hx : DSub 275 sub) (k : Nat) (st : Th.St) (q : Th.Ex × Th.St) (w : World) (r tb : Nat) (L : List Th.DP) (hq : ((sub st).bind fun r => Th.pops sub [43] [45] k r.1 r.2) = some q) (h : DS w r tb L st) :
    Calls Tryz.prog 261 #[.pointer (some ⟨r, 0, none⟩)] w fun en w' => DReads w r tb L q.1 q.2 en w' := by
  have hrl := h.lt
  simp only [Option.bind_eq_some_iff] at hq
  obtain ⟨q1, hq1, hq2⟩ := hq
  have HX := hide hx
  have HQ1 := hide hq1
  have HQ2 := hide hq2
  clear hx hq1 hq2
  go_enter Tryz.func261, Tryz.ntmps261
  go_wp2_with fail
  refine (unhide HX _ _ _ _ _ _ (unhide HQ1) h).mono ?_
  rintro en w1 ⟨v1, rfl, hgot1, hs1, hg1⟩
  have HGot1 := hide hgot1
  have Hs1 := hide hs1
  have HG1 := hide hg1
  obtain ⟨a1, rfl⟩ := hgot1.one
  clear h hgot1 hs1 hg1
  go_wp2_with fail
  go_loopg [3] k (fun gk v wr => ∃ e s1, DGot (Since w) wr v e s1 ∧ DS wr r tb L s1 ∧ w.grownBy wr (some r) ∧ Th.pops sub [43] [45] gk e s1 = some q)
  case atStart => exact ⟨_, _, unhide HGot1, unhide Hs1, unhide HG1, unhide HQ2⟩
  case round =>
    obtain ⟨e, s1, hgot, hs, hg, hp⟩ := hrel
    obtain ⟨a, rfl⟩ := hgot.one
    have htl := hs.tlt
    have hrl2 := hs.lt
    cases gk with
    | zero => simp [Th.pops] at hp
    | succ gk =>
      rw [Th.pops] at hp
      have HGot := hide hgot
      have HG := hide hg
      have Hs := hide hs
      clear hgot hg
      cases h1 : s1.is [43]
      · cases h2 : s1.is [45]
        · rw [h1, h2] at hp
          simp only [Bool.or_self, Bool.false_eq_true, if_false, Option.some.injEq] at hp
          subst hp
          have H1 := hide h1
          have H2 := hide h2
          clear h1 h2
          go_wp2_with fail
          refine (dis_any hs ⟨#[43]⟩ (by simp)).mono ?_
          rintro en w2 ⟨rfl, hb2⟩
          rw [show s1.is (ByteArray.mk #[43]).data.toList = false from unhide H1]
          have hs2 := hs.below hb2
          have HB2 := hide hb2
          clear hs hb2
          go_wp2_with fail
          refine (dis_any hs2 ⟨#[45]⟩ (by simp)).mono ?_
          rintro en w3 ⟨rfl, hb3⟩
          rw [show s1.is (ByteArray.mk #[45]).data.toList = false from unhide H2]
          have Hs3 := hide (hs2.below hb3)
          have HB3 := hide ((unhide HB2).trans (hb3.mono (unhide HB2).size))
          clear hs2 hb3
          go_wp2_with fail
          go_ret
          exact ⟨_, rfl, (unhide HGot).gb (gb_below none (unhide HB3)) (by simp), unhide Hs3, gb_trans (unhide HG) (gb_below _ (unhide HB3))⟩
        · rw [h1, h2] at hp
          simp only [Bool.false_or, if_true, Option.bind_eq_some_iff] at hp
          obtain ⟨q2, hq2, hq3⟩ := hp
          have HQ3 := hide hq2
          have HQ4 := hide hq3
          have H1 := hide h1
          have HY := hide h2
          clear h1 h2 hq2 hq3
          go_wp2_with fail
          refine (dis_any hs ⟨#[43]⟩ (by simp)).mono ?_
          rintro en w2 ⟨rfl, hb2⟩
          rw [show s1.is (ByteArray.mk #[43]).data.toList = false from unhide H1]
          have hs1 := hs.below hb2
          have HB2 := hide hb2
          clear hs hb2
          go_wp2_with fail
          refine (dis_any hs1 ⟨#[45]⟩ (by simp)).mono ?_
          rintro en w3 ⟨rfl, hb3⟩
          rw [show s1.is (ByteArray.mk #[45]).data.toList = true from unhide HY]
          have hs2 := hs1.below hb3
          have HB3 := hide ((unhide HB2).trans (hb3.mono (unhide HB2).size))
          clear hs1 hb3 HB2
          obtain ⟨cap, i, d, hd, ht, rfl⟩ := hs2.at (is_bad (unhide HY))
          have hk3 := (is_not ht (by simp) (unhide HY)).1
          have hds := (is_not ht (by simp) (unhide HY)).2
          have hl := hd.lt
          have hn := hd.good.len
          have htl2 := hs2.tlt
          have hrl3 := hs2.lt
          have c0 := hd.blk.cell 0
          have c1 := hd.blk.cell 1
          have f1 := hd.blk.frozen 1
          simp at c0 c1
          obtain ⟨d0, d1, d2, d3⟩ := hd.toks i d ht
          have HS := hide (hd.step ht hk3 (Below.refl _ _))
          have ehd := Th.stAt_tok ht hk3
          have hq4 := unhide HQ4
          rw [ehd, hds] at hq4
          have HQ5 := hide hq4
          have hz := (unhide HG).size
          have hz3 := (unhide HB3).size
          have CON := hide (fun (W : World) (hW : DS W r tb L (Th.stAt L i).adv) => unhide HX _ _ _ _ _ _ (unhide HQ3) hW)
          clear hs2 hd ht d1 d2 d3 hk3 ehd hq4 HQ4
          go_wp2_with fail
          go_region
          all_goals
            go_wp2_with fail
            refine (unhide CON _ (unhide HS).1.drew).mono ?_
            rintro en w4 ⟨v2, rfl, hgot2, hs4, hg4⟩
            obtain ⟨a2, rfl⟩ := hgot2.one
            have hSg := gb_trans (unhide HS).2 (gb_drew _ (some r))
            have Hs4 := hide hs4
            have HG4 := hide (gb_trans (gb_trans (gb_trans (unhide HG) (gb_below _ (unhide HB3))) hSg) hg4)
            have hz4 := hSg.size
            have HGot2 := hide (hgot2.mono (S' := Since w) (fun k _ hk => by simp only [Since] at hk ⊢; omega))
            have HGot1' := hide ((((unhide HGot).gb (gb_below none (unhide HB3)) (by simp)).gb hSg (since_r hrl)).gb hg4 (since_r hrl))
            clear hgot2 hs4 hg4 hSg c0 c1 f1 d0
            go_wp2_with fail
            go_roundg gk
            case measure => omega
            case rel =>
              exact ⟨_, q2.2, dgot_two (e := Th.mkOp ⟨Th.kd d.k, [45], d.at_⟩ e q2.1) (unhide HG4) (.inr rfl) rfl (unhide HGot1') (unhide HGot2) (fun _ => rfl) rfl, (unhide Hs4).alloc _, gb_trans (unhide HG4) (gb_alloc _ _ _), unhide HQ5⟩
      · rw [h1] at hp
        simp only [Bool.true_or, if_true, Option.bind_eq_some_iff] at hp
        obtain ⟨q2, hq2, hq3⟩ := hp
        have HQ3 := hide hq2
        have HQ4 := hide hq3
        have HY := hide h1
        clear h1 hq2 hq3
        go_wp2_with fail
        refine (dis_any hs ⟨#[43]⟩ (by simp)).mono ?_
        rintro en w3 ⟨rfl, hb3⟩
        rw [show s1.is (ByteArray.mk #[43]).data.toList = true from unhide HY]
        have hs2 := hs.below hb3
        have HB3 := hide hb3
        clear hs hb3
        obtain ⟨cap, i, d, hd, ht, rfl⟩ := hs2.at (is_bad (unhide HY))
        have hk3 := (is_not ht (by simp) (unhide HY)).1
        have hds := (is_not ht (by simp) (unhide HY)).2
        have hl := hd.lt
        have hn := hd.good.len
        have htl2 := hs2.tlt
        have hrl3 := hs2.lt
        have c0 := hd.blk.cell 0
        have c1 := hd.blk.cell 1
        have f1 := hd.blk.frozen 1
        simp at c0 c1
        obtain ⟨d0, d1, d2, d3⟩ := hd.toks i d ht
        have HS := hide (hd.step ht hk3 (Below.refl _ _))
        have ehd := Th.stAt_tok ht hk3
        have hq4 := unhide HQ4
        rw [ehd, hds] at hq4
        have HQ5 := hide hq4
        have hz := (unhide HG).size
        have hz3 := (unhide HB3).size
        have CON := hide (fun (W : World) (hW : DS W r tb L (Th.stAt L i).adv) => unhide HX _ _ _ _ _ _ (unhide HQ3) hW)
        clear hs2 hd ht d1 d2 d3 hk3 ehd hq4 HQ4
        go_wp2_with fail
        go_region
        all_goals
          go_wp2_with fail
          refine (unhide CON _ (unhide HS).1.drew).mono ?_
          rintro en w4 ⟨v2, rfl, hgot2, hs4, hg4⟩
          obtain ⟨a2, rfl⟩ := hgot2.one
          have hSg := gb_trans (unhide HS).2 (gb_drew _ (some r))
          have Hs4 := hide hs4
          have HG4 := hide (gb_trans (gb_trans (gb_trans (unhide HG) (gb_below _ (unhide HB3))) hSg) hg4)
          have hz4 := hSg.size
          have HGot2 := hide (hgot2.mono (S' := Since w) (fun k _ hk => by simp only [Since] at hk ⊢; omega))
          have HGot1' := hide ((((unhide HGot).gb (gb_below none (unhide HB3)) (by simp)).gb hSg (since_r hrl)).gb hg4 (since_r hrl))
          clear hgot2 hs4 hg4 hSg c0 c1 f1 d0
          go_wp2_with fail
          go_roundg gk
          case measure => omega
          case rel =>
            exact ⟨_, q2.2, dgot_two (e := Th.mkOp ⟨Th.kd d.k, [43], d.at_⟩ e q2.1) (unhide HG4) (.inr rfl) rfl (unhide HGot1') (unhide HGot2) (fun _ => rfl) rfl, (unhide Hs4).alloc _, gb_trans (unhide HG4) (gb_alloc _ _ _), unhide HQ5⟩

end Go.Proofs.YtgahgkddaljmkaaGreatDoor

namespace Go.Proofs.YtgahgkddaljmkaaGreatDoor
open Go.RowKit
attribute [local go_sem ↓] Go.wp_at_zero Go.wp_at_succ

set_option maxRecDepth 100000 in
set_option maxHeartbeats 4000000 in
theorem dtest_ok {sub : Th.St → Option (Th.Ex × Th.St)} (hx : DSub 261 sub) (st : Th.St) (q : Th.Ex × Th.St) (w : World) (r tb : Nat) (L : List Th.DP) (hq : ((sub st).bind fun r => if r.2.is [61, 61] || r.2.is [60] then (sub r.2.adv).bind fun q => some (Th.mkOp r.2.hd r.1 q.1, q.2) else some r) = some q) (h : DS w r tb L st) :
    Calls Tryz.prog 228 #[.pointer (some ⟨r, 0, none⟩)] w fun en w' => DReads w r tb L q.1 q.2 en w' := by
  have hrl := h.lt
  simp only [Option.bind_eq_some_iff] at hq
  obtain ⟨q1, hq1, hq2⟩ := hq
  have HX := hide hx
  have HQ1 := hide hq1
  have HQ2 := hide hq2
  clear hx hq1 hq2
  go_enter Tryz.func228, Tryz.ntmps228
  go_wp2_with fail
  refine (unhide HX _ _ _ _ _ _ (unhide HQ1) h).mono ?_
  rintro en w1 ⟨v1, rfl, hgot1, hs1, hg1⟩
  have HGot1 := hide hgot1
  have Hs1 := hide hs1
  have HG1 := hide hg1
  obtain ⟨a1, rfl⟩ := hgot1.one
  clear h hgot1 hs1 hg1
  obtain ⟨e, s1⟩ := q1
  have hz0 := (unhide HG1).size
  have HGot := HGot1
  have HG := HG1
  have Hs := Hs1
  have hs := unhide Hs1
  have hp := unhide HQ2
  simp only at hp hs HGot HG Hs
  clear HQ2 HGot1 HG1 Hs1
  cases h1 : s1.is [61, 61]
  · cases h2 : s1.is [60]
    · rw [h1, h2] at hp
      simp only [Bool.or_self, Bool.false_eq_true, if_false, Option.some.injEq] at hp
      subst hp
      have H1 := hide h1
      have H2 := hide h2
      clear h1 h2
      go_wp2_with fail
      refine (dis_any hs ⟨#[61, 61]⟩ (by simp)).mono ?_
      rintro en w2 ⟨rfl, hb2⟩
      rw [show s1.is (ByteArray.mk #[61, 61]).data.toList = false from unhide H1]
      have hs2 := hs.below hb2
      have HB2 := hide hb2
      clear hs hb2
      go_wp2_with fail
      refine (dis_any hs2 ⟨#[60]⟩ (by simp)).mono ?_
      rintro en w3 ⟨rfl, hb3⟩
      rw [show s1.is (ByteArray.mk #[60]).data.toList = false from unhide H2]
      have Hs3 := hide (hs2.below hb3)
      have HB3 := hide ((unhide HB2).trans (hb3.mono (unhide HB2).size))
      clear hs2 hb3
      go_wp2_with fail
      go_ret
      exact ⟨_, rfl, (unhide HGot).gb (gb_below none (unhide HB3)) (by simp), unhide Hs3, gb_trans (unhide HG) (gb_below _ (unhide HB3))⟩
    · rw [h1, h2] at hp
      simp only [Bool.false_or, if_true, Option.bind_eq_some_iff] at hp
      obtain ⟨q2, hq2, hq3⟩ := hp
      have HQ3 := hide hq2
      have HQ4 := hide hq3
      have H1 := hide h1
      have HY := hide h2
      clear h1 h2 hq2 hq3
      go_wp2_with fail
      refine (dis_any hs ⟨#[61, 61]⟩ (by simp)).mono ?_
      rintro en w2 ⟨rfl, hb2⟩
      rw [show s1.is (ByteArray.mk #[61, 61]).data.toList = false from unhide H1]
      have hs1 := hs.below hb2
      have HB2 := hide hb2
      clear hs hb2
      go_wp2_with fail
      refine (dis_any hs1 ⟨#[60]⟩ (by simp)).mono ?_
      rintro en w3 ⟨rfl, hb3⟩
      rw [show s1.is (ByteArray.mk #[60]).data.toList = true from unhide HY]
      have hs2 := hs1.below hb3
      have HB3 := hide ((unhide HB2).trans (hb3.mono (unhide HB2).size))
      clear hs1 hb3 HB2
      obtain ⟨cap, i, d, hd, ht, rfl⟩ := hs2.at (is_bad (unhide HY))
      have hk3 := (is_not ht (by simp) (unhide HY)).1
      have hds := (is_not ht (by simp) (unhide HY)).2
      have hl := hd.lt
      have hn := hd.good.len
      have htl2 := hs2.tlt
      have hrl3 := hs2.lt
      have c0 := hd.blk.cell 0
      have c1 := hd.blk.cell 1
      have f1 := hd.blk.frozen 1
      simp at c0 c1
      obtain ⟨d0, d1, d2, d3⟩ := hd.toks i d ht
      have HS := hide (hd.step ht hk3 (Below.refl _ _))
      have ehd := Th.stAt_tok ht hk3
      have hq4 := unhide HQ4
      rw [ehd, hds] at hq4
      have HQ5 := hide hq4
      have hz := (unhide HG).size
      have hz3 := (unhide HB3).size
      have CON := hide (fun (W : World) (hW : DS W r tb L (Th.stAt L i).adv) => unhide HX _ _ _ _ _ _ (unhide HQ3) hW)
      clear hs2 hd ht d1 d2 d3 hk3 ehd hq4 HQ4
      go_wp2_with fail
      go_region
      all_goals
        go_wp2_with fail
        refine (unhide CON _ (unhide HS).1.drew).mono ?_
        rintro en w4 ⟨v2, rfl, hgot2, hs4, hg4⟩
        obtain ⟨a2, rfl⟩ := hgot2.one
        have hSg := gb_trans (unhide HS).2 (gb_drew _ (some r))
        have Hs4 := hide hs4
        have HG4 := hide (gb_trans (gb_trans (gb_trans (unhide HG) (gb_below _ (unhide HB3))) hSg) hg4)
        have hz4 := hSg.size
        have HGot2 := hide (hgot2.mono (S' := Since w) (fun k _ hk => by simp only [Since] at hk ⊢; omega))
        have HGot1' := hide ((((unhide HGot).gb (gb_below none (unhide HB3)) (by simp)).gb hSg (since_r hrl)).gb hg4 (since_r hrl))
        clear hgot2 hs4 hg4 hSg c0 c1 f1 d0
        go_wp2_with fail
        go_ret
        have hq5 := unhide HQ5
        simp only [Option.some.injEq] at hq5
        subst hq5
        exact ⟨_, rfl, dgot_two (e := Th.mkOp ⟨Th.kd d.k, [60], d.at_⟩ e q2.1) (unhide HG4) (.inr rfl) rfl (unhide HGot1') (unhide HGot2) (fun _ => rfl) rfl, (unhide Hs4).alloc _, gb_trans (unhide HG4) (gb_alloc _ _ _)⟩
  · rw [h1] at hp
    simp only [Bool.true_or, if_true, Option.bind_eq_some_iff] at hp
    obtain ⟨q2, hq2, hq3⟩ := hp
    have HQ3 := hide hq2
    have HQ4 := hide hq3
    have HY := hide h1
    clear h1 hq2 hq3
    go_wp2_with fail
    refine (dis_any hs ⟨#[61, 61]⟩ (by simp)).mono ?_
    rintro en w3 ⟨rfl, hb3⟩
    rw [show s1.is (ByteArray.mk #[61, 61]).data.toList = true from unhide HY]
    have hs2 := hs.below hb3
    have HB3 := hide hb3
    clear hs hb3
    obtain ⟨cap, i, d, hd, ht, rfl⟩ := hs2.at (is_bad (unhide HY))
    have hk3 := (is_not ht (by simp) (unhide HY)).1
    have hds := (is_not ht (by simp) (unhide HY)).2
    have hl := hd.lt
    have hn := hd.good.len
    have htl2 := hs2.tlt
    have hrl3 := hs2.lt
    have c0 := hd.blk.cell 0
    have c1 := hd.blk.cell 1
    have f1 := hd.blk.frozen 1
    simp at c0 c1
    obtain ⟨d0, d1, d2, d3⟩ := hd.toks i d ht
    have HS := hide (hd.step ht hk3 (Below.refl _ _))
    have ehd := Th.stAt_tok ht hk3
    have hq4 := unhide HQ4
    rw [ehd, hds] at hq4
    have HQ5 := hide hq4
    have hz := (unhide HG).size
    have hz3 := (unhide HB3).size
    have CON := hide (fun (W : World) (hW : DS W r tb L (Th.stAt L i).adv) => unhide HX _ _ _ _ _ _ (unhide HQ3) hW)
    clear hs2 hd ht d1 d2 d3 hk3 ehd hq4 HQ4
    go_wp2_with fail
    go_region
    all_goals
      go_wp2_with fail
      refine (unhide CON _ (unhide HS).1.drew).mono ?_
      rintro en w4 ⟨v2, rfl, hgot2, hs4, hg4⟩
      obtain ⟨a2, rfl⟩ := hgot2.one
      have hSg := gb_trans (unhide HS).2 (gb_drew _ (some r))
      have Hs4 := hide hs4
      have HG4 := hide (gb_trans (gb_trans (gb_trans (unhide HG) (gb_below _ (unhide HB3))) hSg) hg4)
      have hz4 := hSg.size
      have HGot2 := hide (hgot2.mono (S' := Since w) (fun k _ hk => by simp only [Since] at hk ⊢; omega))
      have HGot1' := hide ((((unhide HGot).gb (gb_below none (unhide HB3)) (by simp)).gb hSg (since_r hrl)).gb hg4 (since_r hrl))
      clear hgot2 hs4 hg4 hSg c0 c1 f1 d0
      go_wp2_with fail
      go_ret
      have hq5 := unhide HQ5
      simp only [Option.some.injEq] at hq5
      subst hq5
      exact ⟨_, rfl, dgot_two (e := Th.mkOp ⟨Th.kd d.k, [61, 61], d.at_⟩ e q2.1) (unhide HG4) (.inr rfl) rfl (unhide HGot1') (unhide HGot2) (fun _ => rfl) rfl, (unhide Hs4).alloc _, gb_trans (unhide HG4) (gb_alloc _ _ _)⟩

end Go.Proofs.YtgahgkddaljmkaaGreatDoor
