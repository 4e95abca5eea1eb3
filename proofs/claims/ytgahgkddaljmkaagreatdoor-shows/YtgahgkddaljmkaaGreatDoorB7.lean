/- The document's reader: the arms of a case that have been read. The document's reader: the arms of a case. -/
import Derived.Test.YtgahgkddaljmkaaGreatDoorB6
namespace Go.Proofs.YtgahgkddaljmkaaGreatDoor
open Go.RowKit

/-- The cells of a case that is being read. -/
def caseCells (lv av : Value) : List Value :=
  [.int .i64 9, .int .i64 0, .string ⟨#[]⟩, .int .i64 0, .int .i64 0, .int .i64 0, lv, .pointer none, .slice none 0 0, .slice none 0 0, av]

abbrev Off (eb : Nat) (av : Value) : Nat → Prop := fun b => eb < b ∧ some b ≠ av.ownBlock

def ArmsRep (S : Nat → Prop) (w : World) (l : List (Nat × List Th.Tok)) (es : List Th.Ex) (nvs bvs : List Value) : Prop :=
  (∀ (i : Nat) (a : Nat × List Th.Tok) (x : Value), l[i]? = some a → nvs[i]? = some x → Row S w 108 4 x a.2.length (dnsCells a.2)) ∧ ∃ n, ∀ (i : Nat) (x : Value) (p : Th.Ex), bvs[i]? = some x → es[i]? = some p → DRep S w n x p

theorem ArmsRep.gb {S : Nat → Prop} {w w' : World} {l : List (Nat × List Th.Tok)} {es : List Th.Ex} {nvs bvs : List Value} (h : ArmsRep S w l es nvs bvs) {row : Option Nat} (hg : w.grownBy w' row) (hr : ∀ k, row = some k → ¬ S k) : ArmsRep S w' l es nvs bvs := by
  obtain ⟨h1, n, h2⟩ := h
  exact ⟨fun i a x y z => (h1 i a x y z).gb hg hr, n, fun i x p y z => (h2 i x p y z).gb hg hr⟩
theorem ArmsRep.mono {S S' : Nat → Prop} {w : World} {l : List (Nat × List Th.Tok)} {es : List Th.Ex} {nvs bvs : List Value} (h : ArmsRep S w l es nvs bvs) (hs : ∀ k, k < w.heap.size → S k → S' k) : ArmsRep S' w l es nvs bvs := by
  obtain ⟨h1, n, h2⟩ := h
  exact ⟨fun i a x y z => (h1 i a x y z).mono hs, n, fun i x p y z => (h2 i x p y z).mono hs⟩

structure DA (w0 wr : World) (r tb eb : Nat) (L : List Th.DP) (lv : Value) (e0 : Th.Ex) (l : List (Nat × List Th.Tok)) (es : List Th.Ex) (s1 : Th.St) (av : Value) : Prop where
  blk : Blk wr eb (caseCells lv av) 195
  lo : w0.heap.size ≤ eb
  rlo : r < w0.heap.size
  tlo : tb < w0.heap.size
  ds : DS wr r tb L s1
  gb : w0.grownBy wr (some r)
  len : es.length = l.length
  subj : s1.bad = none → ∃ n, DRep (Off eb av) wr n lv e0
  arow : ∃ nvs bvs, nvs.length = l.length ∧ bvs.length = l.length ∧ wr.ownsRow (eb + 1) 304 3 av l.length (armCells l nvs bvs) ∧ (s1.bad = none → ArmsRep (Off eb av) wr l es nvs bvs)

theorem DA.step {w0 wr w' : World} {r tb eb : Nat} {L : List Th.DP} {lv : Value} {e0 : Th.Ex} {l : List (Nat × List Th.Tok)} {es : List Th.Ex} {s1 s2 : Th.St} {av : Value} (h : DA w0 wr r tb eb L lv e0 l es s1 av)
    (hg : wr.grownBy w' (some r)) (hs : DS w' r tb L s2) (hb : s2.bad = none → s1.bad = none) : DA w0 w' r tb eb L lv e0 l es s2 av := by
  have hlo := h.lo
  have hr := h.rlo
  obtain ⟨nvs, bvs, h1, h2, h3, h4⟩ := h.arow
  have hno : ∀ k, some r = some k → ¬ Off eb av k := fun k hk hS => by cases hk; have := hS.1; omega
  refine ⟨h.blk.grown hg (by simp; omega), hlo, hr, h.tlo, hs, gb_trans h.gb hg, h.len, fun hbad => ?_, nvs, bvs, h1, h2, h3.kept hg (own_ne h3 (by omega)), fun hbad => (h4 (hb hbad)).gb hg hno⟩
  obtain ⟨n, hn⟩ := h.subj (hb hbad)
  exact ⟨n, hn.gb hg hno⟩

theorem DA.fresh {w0 wr : World} {r tb eb : Nat} {L : List Th.DP} {lv : Value} {e0 : Th.Ex} {l : List (Nat × List Th.Tok)} {es : List Th.Ex} {s1 : Th.St} {av : Value} (h : DA w0 wr r tb eb L lv e0 l es s1 av) (o : Obj) : DA w0 (wr.alloc o).drew r tb eb L lv e0 l es s1 av :=
  h.step (gb_trans (gb_alloc wr o _) (gb_drew _ _)) (h.ds.alloc o).drew (fun hb => hb)

/-- One arm more. -/
theorem DA.arm {w0 W w3 : World} {r tb eb B g cap : Nat} {L : List Th.DP} {lv nv v av : Value} {e0 e : Th.Ex} {l : List (Nat × List Th.Tok)} {es : List Th.Ex} {s1 : Th.St} {a : Nat × List Th.Tok} {nvs bvs : List Value} {o : Obj} (h : DA w0 W r tb eb L lv e0 l es s1 av)
    (h1 : nvs.length = l.length) (h2 : bvs.length = l.length) (h3 : W.ownsRow (eb + 1) 304 3 av l.length (armCells l nvs bvs)) (h4 : s1.bad = none → ArmsRep (Off eb av) W l es nvs bvs)
    (hnm : Row (fun b => B ≤ b) W 108 4 nv a.2.length (dnsCells a.2)) (hgot : s1.bad = none → ∃ n, DRep (fun b => B ≤ b) W n v e) (hB : eb < B) (hBa : ∀ b, av.ownBlock = some b → b < B)
    (hown : w3.ownsRow (eb + 1) 304 3 (.slice (some ⟨g, 0, none⟩) (l.length + 1) cap) (l.length + 1) (armCells l nvs bvs ++ [.int .i64 a.1, nv, v]))
    (hgrow : (W.alloc o).grownBy w3 av.ownBlock) (hat : av.ownBlock = some g ∨ g = W.heap.size + 1) :
    DA w0 (w3.setCell ⟨eb, 10, none⟩ (.slice (some ⟨g, 0, none⟩) (l.length + 1) cap)) r tb eb L lv e0 (l ++ [a]) (es ++ [e]) s1 (.slice (some ⟨g, 0, none⟩) (l.length + 1) cap) := by
  have hlo := h.lo
  have hr := h.rlo
  have ht := h.tlo
  have heb := h.blk.lt
  have hlen := h.len
  have hpb : ∀ b, av.ownBlock = some b → eb < b ∧ b < W.heap.size := fun b hb => ⟨(h3.lt b hb).1, (h3.lt b hb).2⟩
  have hge : eb < g := by
    rcases hat with h | h
    · exact (hpb g h).1
    · omega
  have hne : some eb ≠ av.ownBlock := fun e => by have := (hpb eb e.symm).1; omega
  have hset := gb_set w3 eb 10 (.slice (some ⟨g, 0, none⟩) (l.length + 1) cap)
  have hGA : w0.grownBy (W.alloc o) (some r) := gb_trans h.gb (gb_alloc W o _)
  have key : ∀ k, eb < k → some k ≠ av.ownBlock → k < W.heap.size → Off eb (.slice (some ⟨g, 0, none⟩) (l.length + 1) cap) k := by
    intro k k1 k2 k3
    refine ⟨k1, ?_⟩
    rw [ownBlock_slice]
    intro e
    cases e
    rcases hat with h4 | h4
    · exact k2 h4.symm
    · omega
  have newOff : ∀ k, B ≤ k → eb < k ∧ some k ≠ av.ownBlock := fun k hk => ⟨by omega, fun e => by have := hBa k e.symm; omega⟩
  have n1 : ∀ k, k < W.heap.size → Off eb av k → (Off eb av k ∧ k < W.heap.size) := fun k hk hS => ⟨hS, hk⟩
  have n2 : ∀ k, none = some k → ¬ (Off eb av k ∧ k < W.heap.size) := by simp
  have n3 : ∀ k, av.ownBlock = some k → ¬ (Off eb av k ∧ k < W.heap.size) := fun k hk hS => hS.1.2 hk.symm
  have n4 : ∀ k, some eb = some k → ¬ (Off eb av k ∧ k < W.heap.size) := fun k hk hS => by cases hk; have := hS.1.1; omega
  have n5 : ∀ W' : World, ∀ k, k < W'.heap.size → (Off eb av k ∧ k < W.heap.size) → Off eb (.slice (some ⟨g, 0, none⟩) (l.length + 1) cap) k := fun _ k _ hS => key k hS.1.1 hS.1.2 hS.2
  have finR : ∀ {n : Nat} {x : Value} {p : Th.Ex}, DRep (Off eb av) W n x p → DRep (Off eb (.slice (some ⟨g, 0, none⟩) (l.length + 1) cap)) (w3.setCell ⟨eb, 10, none⟩ (.slice (some ⟨g, 0, none⟩) (l.length + 1) cap)) n x p :=
    fun hR => ((((hR.mono n1).gb (gb_alloc W o none) n2).gb hgrow n3).gb hset n4).mono (n5 _)
  have finW : ∀ {x : Value} {m : Nat} {xs : List Value}, Row (Off eb av) W 108 4 x m xs → Row (Off eb (.slice (some ⟨g, 0, none⟩) (l.length + 1) cap)) (w3.setCell ⟨eb, 10, none⟩ (.slice (some ⟨g, 0, none⟩) (l.length + 1) cap)) 108 4 x m xs :=
    fun hR => ((((hR.mono n1).gb (gb_alloc W o none) n2).gb hgrow n3).gb hset n4).mono (n5 _)
  refine ⟨((h.blk.alloc o).grown hgrow hne).set 10 _, hlo, hr, ht, ?_, ?_, by simp [hlen], ?_, nvs ++ [nv], bvs ++ [v], by simp [h1], by simp [h2], ?_, ?_⟩
  · exact ((h.ds.alloc o).gb hgrow (fun e => by have := (hpb r e.symm).1; omega) (fun e => by have := (hpb tb e.symm).1; omega)).set eb 10 _ (by omega) (by omega)
  · refine gb_set_new ?_ _ _ hlo
    exact ⟨hgrow.os.trans hGA.os, hgrow.tape.trans hGA.tape, hgrow.output.trans hGA.output, Nat.le_trans hGA.size hgrow.size,
      fun k hk hr => (hgrow.block k (Nat.lt_of_lt_of_le hk hGA.size) (fun e => by have := (hpb k e.symm).1; omega)).trans (hGA.block k hk hr)⟩
  · intro hbad
    obtain ⟨n, hn⟩ := h.subj hbad
    exact ⟨n, finR hn⟩
  · rw [armCells_snoc l nvs bvs a nv v h1.symm h2.symm, List.length_append]
    exact ownsRow_setCell_below (a := ⟨eb, 10, none⟩) hown (by simp) _
  · intro hbad
    obtain ⟨k1, m1, k2⟩ := h4 hbad
    obtain ⟨m2, hm2⟩ := hgot hbad
    refine ⟨fun i b x y z => ?_, m1 + m2, fun i x p y z => ?_⟩
    · rcases get_snoc y with h5 | ⟨h5, rfl⟩
      · rcases get_snoc z with h6 | ⟨h6, rfl⟩
        · exact finW (k1 i b x h5 h6)
        · rw [List.getElem?_eq_none (by omega)] at h5
          simp at h5
      · rcases get_snoc z with h6 | ⟨h6, rfl⟩
        · rw [List.getElem?_eq_none (by omega)] at h6
          simp at h6
        · exact finW (hnm.mono (fun k _ hS => newOff k hS))
    · rcases get_snoc y with h5 | ⟨h5, rfl⟩
      · rcases get_snoc z with h6 | ⟨h6, rfl⟩
        · exact finR ((k2 i x p h5 h6).le (Nat.le_add_right m1 m2))
        · rw [List.getElem?_eq_none (by omega)] at h5
          simp at h5
      · rcases get_snoc z with h6 | ⟨h6, rfl⟩
        · rw [List.getElem?_eq_none (by omega)] at h6
          simp at h6
        · exact finR ((hm2.le (Nat.le_add_left m2 m1)).mono (fun k _ hS => newOff k hS))

/-- The case, when its arms are there. -/
theorem DA.done {w0 W : World} {r tb eb : Nat} {L : List Th.DP} {lv av : Value} {e0 : Th.Ex} {l : List (Nat × List Th.Tok)} {es : List Th.Ex} {s1 : Th.St} (h : DA w0 W r tb eb L lv e0 l es s1 av) :
    DGot (Since w0) W (.pointer (some ⟨eb, 0, none⟩)) (Th.mkCase e0 l es) s1 := by
  have hlo := h.lo
  obtain ⟨nvs, bvs, h1, h2, h3, h4⟩ := h.arow
  have hm : ∀ k, k < W.heap.size → Off eb av k → Since w0 k := fun k _ hS => by simp only [Since]; have := hS.1; omega
  refine ⟨⟨_, rfl⟩, fun hbad => ?_⟩
  obtain ⟨n1, hn1⟩ := h.subj hbad
  obtain ⟨k1, n2, k2⟩ := h4 hbad
  refine ⟨n1 + n2 + 1, eb, lv, .pointer none, .slice none 0 0, .slice none 0 0, av, rfl, hlo, h.blk, .inr (.inr (.inr (.inr ?_)))⟩
  refine ⟨rfl, e0, es, nvs, bvs, rfl, h.len, h1, h2, (Row.of_own h3).mono (fun k _ hk => by simp only [Since]; omega), fun i a x y z => (k1 i a x y z).mono hm, fun i x p y z => ((k2 i x p y z).le (by omega)).mono hm, (hn1.le (by omega)).mono hm⟩

end Go.Proofs.YtgahgkddaljmkaaGreatDoor

namespace Go.Proofs.YtgahgkddaljmkaaGreatDoor
open Go.RowKit
attribute [local go_sem ↓] Go.wp_at_zero Go.wp_at_succ

theorem infoDArm : (Tryz.prog.info? 304).map (fun i => (i.zero, i.size, i.bytes)) = some (some (.agg #[.int .i64 0, .slice none 0 0, .pointer none]), 3, 40) := by kernel_rfl

theorem arm_one {a : Int} {na : Option Addr} {nn nc x : Nat} : ∀ u ∈ [Value.int .i64 a, .slice na nn nc, .pointer (some ⟨x, 0, none⟩)], u.oneCell' = true := by
  intro u hu
  simp at hu
  rcases hu with rfl | rfl | rfl <;> rfl

set_option maxRecDepth 100000 in
set_option maxHeartbeats 8000000 in
theorem darms_ok {ex : Th.Rd} (hx : DExOK ex) (hk : Keeps ex) {w0 w : World} {r tb eb : Nat} {L : List Th.DP} {c : Bool} {st : Th.St} {k : Nat} {lv : Value} {e0 : Th.Ex} {q1 : List (Nat × List Th.Tok) × List Th.Ex × Th.St} (hkk : k ≤ 1000000)
    (hq1 : Th.parms ex c k [] [] st = some q1) (h : DA w0 w r tb eb L lv e0 [] [] st (.slice none 0 0)) :
    Calls Tryz.prog 227 #[.pointer (some ⟨r, 0, none⟩), .pointer (some ⟨eb, 0, none⟩), .bool c] w fun en w' =>
      en = .returned (.tuple #[]) ∧ DGot (Since w0) w' (.pointer (some ⟨eb, 0, none⟩)) (Th.mkCase e0 q1.1 q1.2.1) q1.2.2 ∧ DS w' r tb L q1.2.2 ∧ w0.grownBy w' (some r) := by
  obtain ⟨i0, hi0, hz0, hz1, hz2⟩ := info_parts infoDArm
  have HI := hide hi0; clear hi0
  have HZ := hide (And.intro hz0 (And.intro hz1 hz2)); clear hz0 hz1 hz2
  have hlo := h.lo
  have hrlo := h.rlo
  have htlo := h.tlo
  have HX := hide hx
  have HK := hide hk
  have HQ1 := hide hq1
  have HB0 := hide h
  clear hx hk hq1 h
  go_enter Tryz.func227, Tryz.ntmps227
  go_wp2_with fail
  go_loopg [7] k (fun g _ wr => ∃ l es s1 av, DA w0 wr r tb eb L lv e0 l es s1 av ∧ l.length + g ≤ k ∧ Th.parms ex c g l es s1 = some q1)
  case atStart => exact ⟨_, _, _, _, unhide HB0, by simp, unhide HQ1⟩
  case round =>
    obtain ⟨l, es, s1, av, hB, hlk, hp⟩ := hrel
    cases gk with
    | zero => simp [Th.parms] at hp
    | succ gk =>
      rw [Th.parms] at hp
      simp only [Option.bind_eq_some_iff] at hp
      obtain ⟨q3, hq3, hq4⟩ := hp
      unfold Th.parm at hq3
      simp only [Option.bind_eq_some_iff, Option.some.injEq] at hq3
      obtain ⟨q5, hq5, rfl⟩ := hq3
      simp only at hq4
      generalize ht0 : Th.pnumber 1 99 (Th.want [60] s1) = tg at hq5 hq4
      generalize hl0 : Th.pnames (Th.want [62] tg.2) = ln at hq5 hq4
      have HB := hide hB
      have HQ4 := hide hq4
      have HQ5 := hide hq5
      have HT0 := hide ht0
      have HL0 := hide hl0
      have hs := hB.ds
      have heb := hB.blk.lt
      clear hB hq4 hq5 ht0 hl0
      go_wp2_with fail
      refine (dwant_any hs ⟨#[60]⟩ (by simp)).mono ?_
      rintro e w1 ⟨rfl, hs1, hg1⟩
      have HB1 := hide ((unhide HB).step hg1 hs1 (want_bad [60] s1))
      clear hs hg1
      go_wp2_with fail
      refine (dnumber_any hs1 1 99 (by omega) (by omega)).mono ?_
      rintro e w2 ⟨rfl, hs2, hg2⟩
      rw [show Th.pnumber 1 99 (Th.want (ByteArray.mk #[60]).data.toList s1) = tg from unhide HT0] at hs2 ⊢
      have HB2 := hide ((unhide HB1).step hg2 hs2 (by rw [← unhide HT0]; exact number_bad _ _ _))
      have hl2 := (unhide HB2).blk.lt
      have hs2' := hs2.alloc (.cells #[.int .i64 tg.1, .slice none 0 0, .pointer none] 304)
      have HG2 := hide (gb_alloc w2 (.cells #[.int .i64 tg.1, .slice none 0 0, .pointer none] 304) (some r))
      have HA2 := hide (Blk.new w2 [.int .i64 tg.1, .slice none 0 0, .pointer none] 304)
      clear hs1 hs2 hg2
      go_wp2_with fail
      refine (dwant_any hs2' ⟨#[62]⟩ (by simp)).mono ?_
      rintro e w3 ⟨rfl, hs3, hg3⟩
      have HG3 := hide (gb_trans (unhide HG2) hg3)
      have HA3 := hide ((unhide HA2).grown hg3 (by simp; omega))
      have hl3 : w2.heap.size < w3.heap.size := (unhide HA3).lt
      clear hs2' hg3
      go_wp2_with fail
      refine (dnames_any hs3).mono ?_
      rintro e w4 ⟨nv, rfl, hrow, hs4, hg4⟩
      rw [show Th.pnames (Th.want (ByteArray.mk #[62]).data.toList tg.2) = ln from unhide HL0] at hrow hs4
      obtain ⟨na, nn, nc, rfl⟩ := own_slice hrow
      have hA4 := (unhide HA3).grown hg4 (by simp; omega)
      have a1 := hA4.cell 1
      have f1 := hA4.frozen 1
      simp at a1
      have hl4 : w3.heap.size ≤ w4.heap.size := hg4.size
      have HR4 := hide (((Row.of_own hrow).mono (S' := fun b => w2.heap.size < b) (fun k _ hk => by omega)).gb (gb_set w4 w2.heap.size 1 (.slice na nn nc)) (fun k hk hS => by cases hk; omega))
      have HA4 := hide (hA4.set 1 (.slice na nn nc))
      have HG4 := hide (gb_set_new (gb_trans (unhide HG3) hg4) ⟨w2.heap.size, 1, none⟩ (.slice na nn nc) (Nat.le_refl _))
      have hs4' := hs4.set w2.heap.size 1 (.slice na nn nc) (by omega) (by omega)
      clear hs3 hrow hs4 hg4 hA4
      go_wp2_with fail
      refine (dwant_any hs4' ⟨#[45, 62]⟩ (by simp)).mono ?_
      rintro e w5 ⟨rfl, hs5, hg5⟩
      have HG5 := hide (gb_trans (unhide HG4) hg5)
      have HA5 := hide ((unhide HA4).grown hg5 (by simp; omega))
      have HR5 := hide ((unhide HR4).gb hg5 (fun k hk hS => by cases hk; omega))
      have hl5 : w2.heap.size < w5.heap.size := (unhide HA5).lt
      clear hs4' hg5 a1 f1
      go_wp2_with fail
      refine (unhide HX _ _ _ _ _ _ _ (unhide HQ5) hs5).mono ?_
      rintro e w6 ⟨v6, rfl, hgot, hs6, hg6⟩
      obtain ⟨a6, rfl⟩ := hgot.one
      have hA6 := (unhide HA5).grown hg6 (by simp; omega)
      have a2 := hA6.cell 2
      have f2 := hA6.frozen 2
      simp at a2
      have hset6 := gb_set w6 w2.heap.size 2 (.pointer (some ⟨a6, 0, none⟩))
      have hA7 := hA6.set 2 (.pointer (some ⟨a6, 0, none⟩))
      have hG7 := gb_set_new (gb_trans (unhide HG5) hg6) ⟨w2.heap.size, 2, none⟩ (.pointer (some ⟨a6, 0, none⟩)) (Nat.le_refl _)
      have hs7 := hs6.set w2.heap.size 2 (.pointer (some ⟨a6, 0, none⟩)) (by omega) (by omega)
      have HR7 := hide ((((unhide HR5).gb hg6 (fun k hk hS => by cases hk; omega)).gb hset6 (fun k hk hS => by cases hk; omega)).mono (S' := fun b => w2.heap.size + 1 ≤ b) (fun k _ hk => by omega))
      have HE7 : Hid (q5.2.bad = none → ∃ n, DRep (fun b => w2.heap.size + 1 ≤ b) (w6.setCell ⟨w2.heap.size, 2, none⟩ (.pointer (some ⟨a6, 0, none⟩))) n (.pointer (some ⟨a6, 0, none⟩)) q5.1) := hide (fun hbad => by
        obtain ⟨n, hn⟩ := hgot.rep hbad
        exact ⟨n, (hn.gb hset6 (fun k hk hS => by cases hk; simp only [Since] at hS; omega)).mono (fun k _ hS => by simp only [Since] at hS; omega)⟩)
      have hB7 := (unhide HB2).step hG7 hs7 (fun hbad => by
        have h1 := unhide HK _ _ _ (unhide HQ5) hbad
        have h2 := want_bad [45, 62] _ h1
        rw [← unhide HL0] at h2
        exact want_bad [62] _ (names_bad _ h2))
      obtain ⟨nvs, bvs, hn1, hn2, hn3, hn4⟩ := hB7.arow
      obtain ⟨aa, an, ac, rfl⟩ := own_slice hn3
      have hz7 := hB7.blk.lt
      have HBA : Hid (∀ b, (Value.slice aa an ac).ownBlock = some b → b < w2.heap.size + 1) := hide (fun b hb => by
        obtain ⟨_, _, _, _, h3, _⟩ := (unhide HB2).arow
        have := (h3.lt b hb).2
        omega)
      have HNB : Hid (some eb ≠ (Value.slice aa an ac).ownBlock) := hide (fun e => by have := (hn3.lt eb e.symm).1; omega)
      have p0 := hA7.cell 0
      have p1 := hA7.cell 1
      have p2 := hA7.cell 2
      have c10 := hB7.blk.cell 10
      have f10 := hB7.blk.frozen 10
      simp at p0 p1 p2
      simp [caseCells] at c10
      have HB7 := hide hB7
      have HN7 := hide (And.intro hn1 (And.intro hn2 (And.intro hn3 hn4)))
      have H10 := hide (held_of_blk hB7.blk 10 (v := .slice aa an ac) rfl)
      have hlen7 : w2.heap.size < (w6.setCell ⟨w2.heap.size, 2, none⟩ (.pointer (some ⟨a6, 0, none⟩))).heap.size := hA7.lt
      clear hs5 hgot hs6 hg6 hA6 hset6 hA7 hG7 hs7 hB7 hn1 hn2 hn3 hn4
      go_wp2_with fail
      generalize w6.setCell ⟨w2.heap.size, 2, none⟩ (.pointer (some ⟨a6, 0, none⟩)) = w7 at *
      have HBd := hide ((unhide HB7).step (gb_drew w7 _) (unhide HB7).ds.drew (fun hb => hb))
      have HNd : Hid (nvs.length = l.length ∧ bvs.length = l.length ∧ w7.drew.ownsRow (eb + 1) 304 3 (.slice aa an ac) l.length (armCells l nvs bvs) ∧ (q5.2.bad = none → ArmsRep (Off eb (.slice aa an ac)) w7.drew l es nvs bvs)) := hide ⟨(unhide HN7).1, (unhide HN7).2.1, (unhide HN7).2.2.1.kept (gb_drew w7 none) (own_none _), fun hb => ((unhide HN7).2.2.2 hb).gb (gb_drew w7 none) (by simp)⟩
      have HRd := hide ((unhide HR7).gb (gb_drew w7 none) (by simp))
      have HEd : Hid (q5.2.bad = none → ∃ n, DRep (fun b => w2.heap.size + 1 ≤ b) w7.drew n (.pointer (some ⟨a6, 0, none⟩)) q5.1) := hide (fun hb => by
        obtain ⟨n, hn⟩ := unhide HE7 hb
        exact ⟨n, hn.gb (gb_drew w7 none) (by simp)⟩)
      have Hd10 := hide ((unhide H10).drew)
      clear HB HB1 HB2 HG2 HG3 HG4 HG5 HA2 HA3 HA4 HA5 HR4 HR5 a2 f2 HB7 HN7 HR7 HE7 H10
      go_cut [25] (fun _ wc => ∃ av', DA w0 wc r tb eb L lv e0 (l ++ [(tg.1, ln.1)]) (es ++ [q5.1]) q5.2 av')
      case first =>
        go_region_law (first
          | (refine step_append_lies _ (by rfl) _ _ _ (by rfl) (eb + 1) 304 i0 _ 3 40 Tryz.underlying193 (unhide HI) (unhide HZ).1 (unhide HZ).2.1 (unhide HZ).2.2 rfl (by omega) (.slice aa an ac) l.length (armCells l nvs bvs) (by rfl) ((unhide HNd).2.2.1.alloc _) ⟨w7.heap.size, 0, none⟩ 1 1 [.int .i64 tg.1, .slice na nn nc, .pointer (some ⟨a6, 0, none⟩)] (by rfl) (by rfl) (World.news_of_block (cs := #[.int .i64 tg.1, .slice na nn nc, .pointer (some ⟨a6, 0, none⟩)]) (t := 304) (fr := (0, 0)) (heap_alloc_new w7.drew _)) arm_one (by omega) (by unfold maxLen; omega) (by omega) (by simp; omega) (w7.heap.size + 1) (by simp) ?_; intro g cap w8 hown hgrow hat hlt; have h8 := hide (((unhide Hd10).alloc _).gb hgrow (unhide HNB)); have h8c := (unhide h8).1; have h8f := (unhide h8).2)
          | fail)
        all_goals
          go_wp2_with fail
          go_meet
          case rel =>
            exact ⟨_, (unhide HBd).arm (a := (tg.1, ln.1)) (B := w2.heap.size + 1) (unhide HNd).1 (unhide HNd).2.1 (unhide HNd).2.2.1 (unhide HNd).2.2.2 (unhide HRd) (unhide HEd) (by omega) (unhide HBA) hown hgrow hat⟩
      case rest =>
        obtain ⟨av', hB8⟩ := hcut
        have HB8 := hide hB8
        have hs8 := hB8.ds
        have hq4 := unhide HQ4
        clear hB8 c10 f10 p0 p1 p2 HBd HNd HRd HEd Hd10 HBA HNB
        cases h5 : q5.2.is [59]
        · have hno : Th.armFollows c q5.2 = false := by simp [Th.armFollows, h5]
          rw [hno] at hq4
          simp only [Bool.false_eq_true, if_false, Option.some.injEq] at hq4
          subst hq4
          have H5 := hide h5
          clear h5 hno
          go_wp2_with fail
          refine (dis_any hs8 ⟨#[59]⟩ (by simp)).mono ?_
          rintro e w9 ⟨rfl, hb9⟩
          rw [show q5.2.is (ByteArray.mk #[59]).data.toList = false from unhide H5]
          have HB9 := hide ((unhide HB8).step (gb_below _ hb9) (hs8.below hb9) (fun hb => hb))
          clear hs8 hb9
          go_wp2_with fail
          refine bodyPost_ret (results_none rfl _ _ _) rfl ?_
          exact ⟨rfl, (unhide HB9).done, (unhide HB9).ds, (unhide HB9).gb⟩
        · obtain ⟨cap, i, d, hd, ht, hst⟩ := hs8.at (is_bad h5)
          have hk3 := (is_not (x := [59]) ht (by simp) (by rw [← hst]; exact h5)).1
          have hl1 := Th.not_end hd.good ht hk3
          obtain ⟨d', ht'⟩ : ∃ d', L[i + 1]? = some d' := ⟨_, List.getElem?_eq_getElem hl1⟩
          have hfol : Th.armFollows c q5.2 = (!c || (d'.k == 115 && d'.s == [60])) := by
            rw [Th.armFollows, h5, hst, Th.stAt_next hd.good ht hk3 ht']
            rfl
          rw [hfol] at hq4
          have hl := hd.lt
          have hn := hd.good.len
          have HQ5' := hide hq4
          have HD := hide hd
          have Ht := hide ht
          have Ht' := hide ht'
          have HST := hide hst
          have H5 := hide h5
          have hz : (⟨d'.s.toArray⟩ : ByteArray).toList = d'.s := by rw [ByteArray.toList_eq]
          clear h5 hd ht ht' hq4 hst hfol
          have FACTS : Hid (∀ w9 : World, Below wc.heap.size wc w9 → w9.cell? ⟨r, 0, none⟩ = some (.slice (some ⟨tb, 0, none⟩) L.length cap) ∧ w9.cell? ⟨r, 1, none⟩ = some (.int .i64 i) ∧ w9.frozen? ⟨r, 1, none⟩ = false ∧ (w9.cell? ⟨tb, (i + 1) * 4, none⟩ = some (.string ⟨d'.s.toArray⟩) ∧ w9.cell? ⟨tb, (i + 1) * 4 + 1, none⟩ = some (.int .i64 d'.at_) ∧ w9.cell? ⟨tb, (i + 1) * 4 + 2, none⟩ = some (.int .u8 d'.k) ∧ w9.cell? ⟨tb, (i + 1) * 4 + 3, none⟩ = some (.int .i64 d'.n)) ∧ r < w9.heap.size ∧ tb < w9.heap.size) := hide (fun w9 hb9 => by
            have B := (unhide HD).blk.below hb9 (unhide HD).blk.lt
            have h0 := (unhide HD).toks.gb (gb_below none hb9) (by simp)
            refine ⟨by simpa using B.cell 0, by simpa using B.cell 1, B.frozen 1, h0 (i + 1) d' (unhide Ht'), B.lt, cell_lt (h0 (i + 1) d' (unhide Ht')).1⟩)
          have NEXT : Hid (∀ w9 : World, Below wc.heap.size wc w9 → DA w0 (w9.setCell ⟨r, 1, none⟩ (.int .i64 ((i : Int) + 1))) r tb eb L lv e0 (l ++ [(tg.1, ln.1)]) (es ++ [q5.1]) q5.2.adv av') := hide (fun w9 hb9 => by
            have hS := (unhide HD).step (unhide Ht) hk3 hb9
            rw [← unhide HST] at hS
            exact (unhide HB8).step hS.2 hS.1 (fun hb => hb))
          have STAY : Hid (∀ w9 : World, Below wc.heap.size wc w9 → DA w0 w9 r tb eb L lv e0 (l ++ [(tg.1, ln.1)]) (es ++ [q5.1]) q5.2 av') := hide (fun w9 hb9 => (unhide HB8).step (gb_below _ hb9) ((unhide HB8).ds.below hb9) (fun hb => hb))
          go_wp2_with fail
          refine (dis_any hs8 ⟨#[59]⟩ (by simp)).mono ?_
          rintro e w9 ⟨rfl, hb9⟩
          rw [show q5.2.is (ByteArray.mk #[59]).data.toList = true from unhide H5]
          obtain ⟨c0, c1, f1, ⟨d0, d1, d2, d3⟩, hr9, ht9⟩ := unhide FACTS w9 hb9
          have HB9 := hide hb9
          clear hs8 hb9
          cases c
          · go_wp2_with fail
            go_region
            all_goals
              go_wp2_with fail
              go_roundg gk
              case measure => omega
              case rel => exact ⟨_, _, _, _, (unhide NEXT _ (unhide HB9)).fresh _, by simp; omega, by have := unhide HQ5'; simpa using this⟩
          · have kb : ((d'.k : Int) != 115) = (d'.k != 115) := by rw [Bool.eq_iff_iff]; simp; omega
            by_cases hk5 : d'.k = 115
            · have kb' : ((d'.k : Int) != 115) = false := by rw [kb]; simp [hk5]
              have kb2 : ((d'.k : Int) == 115) = true := by simp; omega
              by_cases hs5 : d'.s = [60]
              · have sb : (d'.s == [60]) = true := by simp [hs5]
                have sb2 : (d'.s != [60]) = false := by simp [hs5]
                have HQ6 : Hid (Th.parms ex true gk (l ++ [(tg.1, ln.1)]) (es ++ [q5.1]) q5.2.adv = some q1) := hide (by have := unhide HQ5'; simpa [hk5, hs5] using this)
                clear kb hk5 hs5
                go_wp2_with fail
                go_region
                all_goals
                  go_wp2_with fail
                  go_roundg gk
                  case measure => omega
                  case rel => exact ⟨_, _, _, _, (unhide NEXT _ (unhide HB9)).fresh _, by simp; omega, unhide HQ6⟩
              · have sb : (d'.s == [60]) = false := beq_eq_false_iff_ne.2 hs5
                have sb2 : (d'.s != [60]) = true := bne_iff_ne.2 hs5
                have hq6 := unhide HQ5'
                rw [sb] at hq6
                simp only [Bool.not_true, Bool.and_false, Bool.or_self, Bool.false_eq_true, if_false, Option.some.injEq] at hq6
                subst hq6
                clear kb hk5 hs5
                go_wp2_with fail
                go_region
                all_goals
                  go_wp2_with fail
                  refine bodyPost_ret (results_none rfl _ _ _) rfl ?_
                  have HBf := (unhide STAY _ (unhide HB9)).fresh (.cells #[.string ⟨d'.s.toArray⟩, .int .i64 d'.at_, .int .u8 d'.k, .int .i64 d'.n] 108)
                  exact ⟨rfl, HBf.done, HBf.ds, HBf.gb⟩
            · have kb' : ((d'.k : Int) != 115) = true := by rw [kb]; exact bne_iff_ne.2 hk5
              have kb2 : ((d'.k : Int) == 115) = false := by simp; omega
              have hq6 := unhide HQ5'
              rw [show (d'.k == 115) = false from beq_eq_false_iff_ne.2 hk5] at hq6
              simp only [Bool.not_true, Bool.false_and, Bool.or_self, Bool.false_eq_true, if_false, Option.some.injEq] at hq6
              subst hq6
              clear kb hk5
              go_wp2_with fail
              go_region
              all_goals
                go_wp2_with fail
                refine bodyPost_ret (results_none rfl _ _ _) rfl ?_
                have HBf := (unhide STAY _ (unhide HB9)).fresh (.cells #[.string ⟨d'.s.toArray⟩, .int .i64 d'.at_, .int .u8 d'.k, .int .i64 d'.n] 108)
                exact ⟨rfl, HBf.done, HBf.ds, HBf.gb⟩

end Go.Proofs.YtgahgkddaljmkaaGreatDoor
