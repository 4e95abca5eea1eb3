/- The document's reader: the names and the parts of a let that have been read. The document's reader: the binds of a let, and what is behind in. -/
import Derived.Test.YtgahgkddaljmkaaGreatDoorB5
namespace Go.Proofs.YtgahgkddaljmkaaGreatDoor
open Go.RowKit

/-- The cells of a let that is being read. -/
def letCells (kk : Nat) (nv pv : Value) : List Value :=
  [.int .i64 kk, .int .i64 0, .string ⟨#[]⟩, .int .i64 0, .int .i64 0, .int .i64 0, .pointer none, .pointer none, nv, pv, .slice none 0 0]

/-- The blocks behind a block that are neither of two rows. -/
abbrev Apart (eb : Nat) (nv pv : Value) : Nat → Prop := fun b => eb < b ∧ some b ≠ nv.ownBlock ∧ some b ≠ pv.ownBlock

structure DB (w0 wr : World) (r tb eb : Nat) (L : List Th.DP) (kk : Nat) (l : List Th.Tok) (es : List Th.Ex) (s1 : Th.St) (nv pv : Value) : Prop where
  blk : Blk wr eb (letCells kk nv pv) 195
  lo : w0.heap.size ≤ eb
  rlo : r < w0.heap.size
  tlo : tb < w0.heap.size
  ds : DS wr r tb L s1
  gb : w0.grownBy wr (some r)
  nrow : wr.ownsRow (eb + 1) 108 4 nv l.length (dnsCells l)
  dis : ∀ b, nv.ownBlock = some b → pv.ownBlock = some b → False
  prow : ∃ pvs, pvs.length = es.length ∧ wr.ownsRow (eb + 1) 110 1 pv es.length pvs ∧
    (s1.bad = none → ∃ n, ∀ (i : Nat) (x : Value) (p : Th.Ex), pvs[i]? = some x → es[i]? = some p → DRep (Apart eb nv pv) wr n x p)

theorem DB.step {w0 wr w' : World} {r tb eb : Nat} {L : List Th.DP} {kk : Nat} {l : List Th.Tok} {es : List Th.Ex} {s1 s2 : Th.St} {nv pv : Value} (h : DB w0 wr r tb eb L kk l es s1 nv pv)
    (hg : wr.grownBy w' (some r)) (hs : DS w' r tb L s2) (hb : s2.bad = none → s1.bad = none) : DB w0 w' r tb eb L kk l es s2 nv pv := by
  have hlo := h.lo
  have hr := h.rlo
  obtain ⟨pvs, h1, h2, h3⟩ := h.prow
  refine ⟨h.blk.grown hg (by simp; omega), hlo, hr, h.tlo, hs, gb_trans h.gb hg, h.nrow.kept hg (own_ne h.nrow (by omega)), h.dis, pvs, h1, h2.kept hg (own_ne h2 (by omega)), fun hbad => ?_⟩
  obtain ⟨n, hn⟩ := h3 (hb hbad)
  exact ⟨n, fun i x p a b => (hn i x p a b).gb hg (fun k hk hS => by cases hk; have := hS.1; omega)⟩

theorem DB.drew {w0 wr : World} {r tb eb : Nat} {L : List Th.DP} {kk : Nat} {l : List Th.Tok} {es : List Th.Ex} {s1 : Th.St} {nv pv : Value} (h : DB w0 wr r tb eb L kk l es s1 nv pv) : DB w0 wr.drew r tb eb L kk l es s1 nv pv :=
  h.step (gb_drew wr _) h.ds.drew (fun hb => hb)

theorem ownBlock_slice (g n cap : Nat) : (Value.slice (some ⟨g, 0, none⟩) n cap).ownBlock = some g := rfl

/-- One name more. -/
theorem DB.name {w0 W w3 : World} {r tb eb : Nat} {L : List Th.DP} {kk : Nat} {l : List Th.Tok} {es : List Th.Ex} {s1 : Th.St} {nv pv : Value} {x : Th.Tok} {g cap : Nat} {o : Obj} (h : DB w0 W r tb eb L kk l es s1 nv pv)
    (hown : w3.ownsRow (eb + 1) 108 4 (.slice (some ⟨g, 0, none⟩) (l.length + 1) cap) (l.length + 1) (dnsCells l ++ dnCells x))
    (hgrow : (W.alloc o).grownBy w3 nv.ownBlock) (hat : nv.ownBlock = some g ∨ g = W.heap.size + 1) :
    DB w0 (w3.setCell ⟨eb, 8, none⟩ (.slice (some ⟨g, 0, none⟩) (l.length + 1) cap)) r tb eb L kk (l ++ [x]) es s1 (.slice (some ⟨g, 0, none⟩) (l.length + 1) cap) pv := by
  have hlo := h.lo
  have hr := h.rlo
  have ht := h.tlo
  have heb := h.blk.lt
  obtain ⟨pvs, h1, h2, h3⟩ := h.prow
  have hnb : ∀ b, nv.ownBlock = some b → eb < b ∧ b < W.heap.size := fun b hb => ⟨(h.nrow.lt b hb).1, (h.nrow.lt b hb).2⟩
  have hpb : ∀ b, pv.ownBlock = some b → eb < b ∧ b < W.heap.size := fun b hb => ⟨(h2.lt b hb).1, (h2.lt b hb).2⟩
  have hge : eb < g := by
    rcases hat with h | h
    · exact (hnb g h).1
    · omega
  have hne : some eb ≠ nv.ownBlock := fun e => by have := (hnb eb e.symm).1; omega
  have hset := gb_set w3 eb 8 (.slice (some ⟨g, 0, none⟩) (l.length + 1) cap)
  have hgp : ∀ b, pv.ownBlock = some b → some b ≠ nv.ownBlock := fun b hb e => h.dis b e.symm hb
  have hGA : w0.grownBy (W.alloc o) (some r) := gb_trans h.gb (gb_alloc W o _)
  refine ⟨((h.blk.alloc o).grown hgrow hne).set 8 _, hlo, hr, ht, ?_, ?_, ?_, ?_, pvs, h1, ?_, ?_⟩
  · exact ((h.ds.alloc o).gb hgrow (fun e => by have := (hnb r e.symm).1; omega) (fun e => by have := (hnb tb e.symm).1; omega)).set eb 8 _ (by omega) (by omega)
  · refine gb_set_new ?_ _ _ hlo
    exact ⟨hgrow.os.trans hGA.os, hgrow.tape.trans hGA.tape, hgrow.output.trans hGA.output, Nat.le_trans hGA.size hgrow.size,
      fun k hk hr => (hgrow.block k (Nat.lt_of_lt_of_le hk hGA.size) (fun e => by have := (hnb k e.symm).1; omega)).trans (hGA.block k hk hr)⟩
  · rw [dnsCells_snoc, List.length_append]
    exact ownsRow_setCell_below (a := ⟨eb, 8, none⟩) hown (by simp) _
  · intro b hb hp
    rw [ownBlock_slice] at hb
    cases hb
    rcases hat with h4 | h4
    · exact h.dis _ h4 hp
    · have := (hpb _ hp).2; omega
  · have a1 := (h2.alloc o).kept hgrow (by
      cases hv : pv.ownBlock with
      | none => exact .inl rfl
      | some b => exact .inr (fun e => hgp b hv (by rw [← e])))
    exact ownsRow_setCell_below (a := ⟨eb, 8, none⟩) a1 (by simp) _
  · intro hbad
    obtain ⟨n, hn⟩ := h3 hbad
    refine ⟨n, fun i x p a b => ?_⟩
    have a0 : DRep (fun b => eb < b ∧ some b ≠ nv.ownBlock ∧ some b ≠ pv.ownBlock ∧ b < W.heap.size) W n x p := (hn i x p a b).mono (fun k hk hS => ⟨hS.1, hS.2.1, hS.2.2, hk⟩)
    have a1 := a0.gb (gb_alloc W o none) (by simp)
    have a2 := a1.gb hgrow (fun k hk hS => hS.2.1 hk.symm)
    have a3 := a2.gb hset (fun k hk hS => by cases hk; have := hS.1; omega)
    refine a3.mono (fun k _ hS => ⟨hS.1, ?_, hS.2.2.1⟩)
    rw [ownBlock_slice]
    intro e
    cases e
    rcases hat with h4 | h4
    · exact hS.2.1 h4.symm
    · have := hS.2.2.2; omega

/-- One part more. -/
theorem DB.part {w0 W w3 : World} {r tb eb B : Nat} {L : List Th.DP} {kk : Nat} {l : List Th.Tok} {es : List Th.Ex} {s1 : Th.St} {nv pv v : Value} {e : Th.Ex} {g cap : Nat} {o : Obj} {pvs : List Value} (h : DB w0 W r tb eb L kk l es s1 nv pv)
    (h1 : pvs.length = es.length) (h2 : W.ownsRow (eb + 1) 110 1 pv es.length pvs)
    (h3 : s1.bad = none → ∃ n, ∀ (i : Nat) (x : Value) (p : Th.Ex), pvs[i]? = some x → es[i]? = some p → DRep (Apart eb nv pv) W n x p)
    (hgot : s1.bad = none → ∃ n, DRep (fun b => B ≤ b) W n v e) (hB : eb < B) (hBn : ∀ b, nv.ownBlock = some b → b < B) (hBp : ∀ b, pv.ownBlock = some b → b < B)
    (hown : w3.ownsRow (eb + 1) 110 1 (.slice (some ⟨g, 0, none⟩) (es.length + 1) cap) (es.length + 1) (pvs ++ [v]))
    (hgrow : (W.alloc o).grownBy w3 pv.ownBlock) (hat : pv.ownBlock = some g ∨ g = W.heap.size + 1) :
    DB w0 (w3.setCell ⟨eb, 9, none⟩ (.slice (some ⟨g, 0, none⟩) (es.length + 1) cap)) r tb eb L kk l (es ++ [e]) s1 nv (.slice (some ⟨g, 0, none⟩) (es.length + 1) cap) := by
  have hlo := h.lo
  have hr := h.rlo
  have ht := h.tlo
  have heb := h.blk.lt
  have hnb : ∀ b, nv.ownBlock = some b → eb < b ∧ b < W.heap.size := fun b hb => ⟨(h.nrow.lt b hb).1, (h.nrow.lt b hb).2⟩
  have hpb : ∀ b, pv.ownBlock = some b → eb < b ∧ b < W.heap.size := fun b hb => ⟨(h2.lt b hb).1, (h2.lt b hb).2⟩
  have hge : eb < g := by
    rcases hat with h | h
    · exact (hpb g h).1
    · omega
  have hne : some eb ≠ pv.ownBlock := fun e => by have := (hpb eb e.symm).1; omega
  have hset := gb_set w3 eb 9 (.slice (some ⟨g, 0, none⟩) (es.length + 1) cap)
  have hgn : ∀ b, nv.ownBlock = some b → some b ≠ pv.ownBlock := fun b hb e => h.dis b hb e.symm
  have hGA : w0.grownBy (W.alloc o) (some r) := gb_trans h.gb (gb_alloc W o _)
  refine ⟨((h.blk.alloc o).grown hgrow hne).set 9 _, hlo, hr, ht, ?_, ?_, ?_, ?_, pvs ++ [v], by simp [h1], ?_, ?_⟩
  · exact ((h.ds.alloc o).gb hgrow (fun e => by have := (hpb r e.symm).1; omega) (fun e => by have := (hpb tb e.symm).1; omega)).set eb 9 _ (by omega) (by omega)
  · refine gb_set_new ?_ _ _ hlo
    exact ⟨hgrow.os.trans hGA.os, hgrow.tape.trans hGA.tape, hgrow.output.trans hGA.output, Nat.le_trans hGA.size hgrow.size,
      fun k hk hr => (hgrow.block k (Nat.lt_of_lt_of_le hk hGA.size) (fun e => by have := (hpb k e.symm).1; omega)).trans (hGA.block k hk hr)⟩
  · have a1 := (h.nrow.alloc o).kept hgrow (by
      cases hv : nv.ownBlock with
      | none => exact .inl rfl
      | some b => exact .inr (fun e => hgn b hv (by rw [← e])))
    exact ownsRow_setCell_below (a := ⟨eb, 9, none⟩) a1 (by simp) _
  · intro b hb hp
    rw [ownBlock_slice] at hp
    cases hp
    rcases hat with h4 | h4
    · exact h.dis _ hb h4
    · have := (hnb _ hb).2; omega
  · rw [List.length_append]
    exact ownsRow_setCell_below (a := ⟨eb, 9, none⟩) hown (by simp) _
  · intro hbad
    obtain ⟨n1, hn1⟩ := h3 hbad
    obtain ⟨n2, hn2⟩ := hgot hbad
    have fin : ∀ (n : Nat) (x : Value) (p : Th.Ex), DRep (fun b => eb < b ∧ some b ≠ nv.ownBlock ∧ some b ≠ pv.ownBlock ∧ b < W.heap.size) W n x p → DRep (Apart eb nv (.slice (some ⟨g, 0, none⟩) (es.length + 1) cap)) (w3.setCell ⟨eb, 9, none⟩ (.slice (some ⟨g, 0, none⟩) (es.length + 1) cap)) n x p := by
      intro n x p a0
      have a1 := a0.gb (gb_alloc W o none) (by simp)
      have a2 := a1.gb hgrow (fun k hk hS => hS.2.2.1 hk.symm)
      have a3 := a2.gb hset (fun k hk hS => by cases hk; have := hS.1; omega)
      refine a3.mono (fun k _ hS => ⟨hS.1, hS.2.1, ?_⟩)
      rw [ownBlock_slice]
      intro e
      cases e
      rcases hat with h4 | h4
      · exact hS.2.2.1 h4.symm
      · have := hS.2.2.2; omega
    refine ⟨n1 + n2, fun i x p hx hp => ?_⟩
    rcases get_snoc hx with h5 | ⟨h5, rfl⟩
    · rcases get_snoc hp with h6 | ⟨h6, rfl⟩
      · exact fin _ _ _ (((hn1 i x p h5 h6).le (Nat.le_add_right n1 n2)).mono (fun k hk hS => ⟨hS.1, hS.2.1, hS.2.2, hk⟩))
      · rw [List.getElem?_eq_none (by omega)] at h5
        simp at h5
    · rcases get_snoc hp with h6 | ⟨h6, rfl⟩
      · rw [List.getElem?_eq_none (by omega)] at h6
        simp at h6
      · refine fin _ _ _ ((hn2.le (Nat.le_add_left n2 n1)).mono (fun k hk hS => ⟨by omega, fun e => ?_, fun e => ?_, hk⟩))
        · have := hBn k e.symm; omega
        · have := hBp k e.symm; omega

/-- The let, when its body is there too. -/
theorem DB.done {w0 W : World} {r tb eb B : Nat} {L : List Th.DP} {rc : Bool} {l : List Th.Tok} {es : List Th.Ex} {s1 : Th.St} {nv pv v : Value} {e : Th.Ex} (h : DB w0 W r tb eb L (if rc then 8 else 7) l es s1 nv pv) (hlen : l.length = es.length)
    (hgot : s1.bad = none → ∃ n, DRep (fun b => B ≤ b) W n v e) (hB : eb < B) :
    DGot (Since w0) (W.setCell ⟨eb, 6, none⟩ v) (.pointer (some ⟨eb, 0, none⟩)) (Th.mkLet rc l es e) s1 ∧ DS (W.setCell ⟨eb, 6, none⟩ v) r tb L s1 ∧ w0.grownBy (W.setCell ⟨eb, 6, none⟩ v) (some r) := by
  have hlo := h.lo
  have hr := h.rlo
  have ht := h.tlo
  obtain ⟨pvs, h1, h2, h3⟩ := h.prow
  have hset := gb_set W eb 6 v
  refine ⟨⟨⟨_, rfl⟩, fun hbad => ?_⟩, h.ds.set eb 6 v (by omega) (by omega), gb_set_new h.gb _ _ hlo⟩
  obtain ⟨n1, hn1⟩ := h3 hbad
  obtain ⟨n2, hn2⟩ := hgot hbad
  refine ⟨n1 + n2 + 1, eb, v, .pointer none, nv, pv, .slice none 0 0, rfl, hlo, ?_, .inr (.inr (.inr (.inl ?_)))⟩
  · have := h.blk.set 6 v
    cases rc <;> exact this
  · refine ⟨by cases rc <;> simp [Th.mkLet], e, es, pvs, rfl, hlen.symm, h1, ?_, ?_, ?_, ?_⟩
    · have a1 := ownsRow_setCell_below (a := ⟨eb, 6, none⟩) h.nrow (by simp) v
      exact (Row.of_own a1).mono (fun k _ hk => by simp only [Since]; omega)
    · have a1 := ownsRow_setCell_below (a := ⟨eb, 6, none⟩) h2 (by simp) v
      exact (Row.of_own a1).mono (fun k _ hk => by simp only [Since]; omega)
    · intro i x p a b
      exact (((hn1 i x p a b).le (by omega)).gb hset (fun k hk hS => by cases hk; have := hS.1; omega)).mono (fun k _ hS => by simp only [Since]; have := hS.1; omega)
    · exact ((hn2.le (by omega)).gb hset (fun k hk hS => by cases hk; omega)).mono (fun k _ hS => by simp only [Since]; omega)

end Go.Proofs.YtgahgkddaljmkaaGreatDoor

namespace Go.Proofs.YtgahgkddaljmkaaGreatDoor
open Go.RowKit
attribute [local go_sem ↓] Go.wp_at_zero Go.wp_at_succ

theorem infoEx : (Tryz.prog.info? 110).map (fun i => (i.zero, i.size, i.bytes)) = some (some (.pointer none), 1, 8) := by kernel_rfl

set_option maxRecDepth 100000 in
set_option maxHeartbeats 8000000 in
theorem dbinds_ok {ex : Th.Rd} (hx : DExOK ex) (hk : Keeps ex) {w0 w : World} {r tb eb : Nat} {L : List Th.DP} {rc c : Bool} {st : Th.St} {k : Nat} {q1 : List Th.Tok × List Th.Ex × Th.St} {q2 : Th.Ex × Th.St} (hkk : k ≤ 1000000)
    (hq1 : Th.pbinds ex k [] [] st = some q1) (hq2 : ex c (Th.want Th.sIn q1.2.2) = some q2) (h : DB w0 w r tb eb L (if rc then 8 else 7) [] [] st (.slice none 0 0) (.slice none 0 0)) :
    Calls Tryz.prog 226 #[.pointer (some ⟨r, 0, none⟩), .pointer (some ⟨eb, 0, none⟩), .bool c] w fun en w' =>
      en = .returned (.tuple #[]) ∧ DGot (Since w0) w' (.pointer (some ⟨eb, 0, none⟩)) (Th.mkLet rc q1.1 q1.2.1 q2.1) q2.2 ∧ DS w' r tb L q2.2 ∧ w0.grownBy w' (some r) := by
  obtain ⟨i0, hi0, hz0, hz1, hz2⟩ := info_parts infoDTok
  have HI := hide hi0; clear hi0
  have HZ := hide (And.intro hz0 (And.intro hz1 hz2)); clear hz0 hz1 hz2
  obtain ⟨i1, hi1, hy0, hy1, hy2⟩ := info_parts infoEx
  have HI1 := hide hi1; clear hi1
  have HZ1 := hide (And.intro hy0 (And.intro hy1 hy2)); clear hy0 hy1 hy2
  have hlo := h.lo
  have hrlo := h.rlo
  have htlo := h.tlo
  have HX := hide hx
  have HK := hide hk
  have HQ1 := hide hq1
  have HQ2 := hide hq2
  have HB0 := hide h
  obtain ⟨kk, hkk2⟩ : ∃ kk : Nat, (if rc then 8 else 7) = kk := ⟨_, rfl⟩
  have HKK := hide hkk2
  rw [hkk2] at HB0
  clear hx hk hq1 hq2 h hkk2
  go_enter Tryz.func226, Tryz.ntmps226
  go_wp2_with fail
  go_loopg [6] k (fun g _ wr => ∃ l es s1 nv pv, DB w0 wr r tb eb L kk l es s1 nv pv ∧ l.length = es.length ∧ l.length + g ≤ k ∧ Th.pbinds ex g l es s1 = some q1)
  case atStart => exact ⟨_, _, _, _, _, unhide HB0, rfl, by simp, unhide HQ1⟩
  case round =>
    obtain ⟨l, es, s1, nv, pv, hB, hlen, hlk, hp⟩ := hrel
    cases gk with
    | zero => simp [Th.pbinds] at hp
    | succ gk =>
      rw [Th.pbinds] at hp
      simp only [Option.bind_eq_some_iff] at hp
      obtain ⟨q3, hq3, hq4⟩ := hp
      obtain ⟨na, nn, nc, rfl⟩ := own_slice hB.nrow
      have HB := hide hB
      have HQ3 := hide hq3
      have HQ4 := hide hq4
      have c8 := hB.blk.cell 8
      have f8 := hB.blk.frozen 8
      simp [letCells] at c8
      have heb := hB.blk.lt
      have HNB : Hid (some eb ≠ (Value.slice na nn nc).ownBlock) := hide (fun e => by have := (hB.nrow.lt eb e.symm).1; omega)
      obtain ⟨xn, hxn⟩ : ∃ x, Th.pname s1 = x := ⟨_, rfl⟩
      rw [hxn] at HQ3 HQ4
      obtain ⟨kn, hkn⟩ : ∃ kn : Nat, (if xn.1.k = 2 then 97 else 0) = kn := ⟨_, rfl⟩
      have HKN : Hid (dnCells xn.1 = [.string ⟨xn.1.s.toArray⟩, .int .i64 xn.1.at_, .int .u8 kn, .int .i64 0]) := hide (by rw [← hkn]; rfl)
      have HNBAD : Hid (xn.2.bad = none → s1.bad = none) := hide (by rw [← hxn]; exact name_bad s1)
      have CON : Hid (∀ W : World, DS W r tb L s1 → Calls Tryz.prog 168 #[.pointer (some ⟨r, 0, none⟩)] W fun e w' => e = .returned (.agg #[.string ⟨xn.1.s.toArray⟩, .int .i64 xn.1.at_, .int .u8 kn, .int .i64 0]) ∧ DS w' r tb L xn.2 ∧ W.grownBy w' (some r)) := hide (fun W hW => by
        have := dname_any hW
        rw [hxn] at this
        simp only [dnV, hkn] at this
        exact this)
      have HLEN := hide hlen
      clear hB hq3 hq4 hxn hkn hlen c8 f8
      have c8 := Blk.cell (unhide HB).blk 8
      have f8 := Blk.frozen (unhide HB).blk 8
      simp [letCells] at c8
      go_wp2_with fail
      go_cut [6] (fun _ wc => ∃ nv', DB w0 wc r tb eb L kk (l ++ [xn.1]) es xn.2 nv' pv)
      case first =>
        go_region_law (first
          | (refine step_append_lies _ (by rfl) _ _ _ (by rfl) (eb + 1) 108 i0 _ 4 40 Tryz.underlying109 (unhide HI) (unhide HZ).1 (unhide HZ).2.1 (unhide HZ).2.2 rfl (by omega) (.slice na nn nc) l.length (dnsCells l) (by rfl) ((unhide HB2).nrow.alloc _) ⟨w2.heap.size, 0, none⟩ 1 1 [.string ⟨xn.1.s.toArray⟩, .int .i64 xn.1.at_, .int .u8 kn, .int .i64 0] (by rfl) (by rfl) (World.news_of_block (cs := #[.string ⟨xn.1.s.toArray⟩, .int .i64 xn.1.at_, .int .u8 kn, .int .i64 0]) (t := 108) (fr := (0, 0)) (heap_alloc_new w2 _)) four_one (by omega) (by unfold maxLen; omega) (by omega) (by simp; omega) (w2.heap.size + 1) (by simp) ?_; intro g cap w3 hown hgrow hat hlt; have h3 := hide (((unhide H2).alloc _).gb hgrow (unhide HNB)); have h3c := (unhide h3).1; have h3f := (unhide h3).2)
          | (go_simp; go_wp2_with (go_at_call 168; refine (unhide CON _ ?_).mono ?_; exact (unhide HB).ds.drew; rintro e w2 ⟨rfl, hs2, hg2⟩; have HB2 := hide ((unhide HB).drew.step hg2 hs2 (unhide HNBAD)); have hl2 := (unhide HB2).blk.lt; have H2 := hide (held_of_blk (unhide HB2).blk 8 (v := .slice na nn nc) rfl); have h2c := (unhide H2).1; have h2f := (unhide H2).2; clear hs2 hg2)))
        all_goals
          go_wp2_with fail
          go_meet
          case rel =>
            exact ⟨_, (unhide HB2).name (by rw [unhide HKN]; exact hown) hgrow hat⟩
      case rest =>
        obtain ⟨nv', hB1⟩ := hcut
        have HB1 := hide hB1
        have hs1 := hB1.ds
        clear hB1 c8 f8
        go_wp2_with fail
        refine (dwant_any hs1 ⟨#[61]⟩ (by simp)).mono ?_
        rintro e w2 ⟨rfl, hs2, hg2⟩
        have hB2 := (unhide HB1).step hg2 hs2 (want_bad [61] xn.2)
        obtain ⟨pvs, hpl, hprow, hprep⟩ := hB2.prow
        obtain ⟨pa, pn, pc, rfl⟩ := own_slice hprow
        have c9 := hB2.blk.cell 9
        have f9 := hB2.blk.frozen 9
        simp [letCells] at c9
        have heb2 := hB2.blk.lt
        have HNB2 : Hid (some eb ≠ (Value.slice pa pn pc).ownBlock) := hide (fun e => by have := (hprow.lt eb e.symm).1; omega)
        have HBN : Hid (∀ b, nv'.ownBlock = some b → b < w2.heap.size) := hide (fun b hb => (hB2.nrow.lt b hb).2)
        have HBP : Hid (∀ b, (Value.slice pa pn pc).ownBlock = some b → b < w2.heap.size) := hide (fun b hb => (hprow.lt b hb).2)
        have HPR := hide (And.intro hpl (And.intro hprow hprep))
        have HB2 := hide hB2
        have hel : es.length ≤ 1000000 := by have := unhide HLEN; omega
        have CON2 := hide (fun (W : World) (hW : DS W r tb L (Th.want [61] xn.2)) => unhide HX true _ _ W r tb L (unhide HQ3) hW)
        clear hs1 hs2 hg2 hB2 hpl hprow hprep
        go_wp2_with fail
        go_cut [19] (fun _ wc => ∃ pv', DB w0 wc r tb eb L kk (l ++ [xn.1]) (es ++ [q3.1]) q3.2 nv' pv')
        case first =>
          go_region_law (first
            | (refine step_append_lies _ (by rfl) _ _ _ (by rfl) (eb + 1) 110 i1 _ 1 8 Tryz.underlying192 (unhide HI1) (unhide HZ1).1 (unhide HZ1).2.1 (unhide HZ1).2.2 rfl (by omega) (.slice pa pn pc) es.length pvs (by rfl) ((unhide HP4).2.1.alloc _) ⟨w4.heap.size, 0, none⟩ 1 1 [.pointer (some ⟨a4, 0, none⟩)] (by rfl) (by rfl) (World.news_of_block (cs := #[.pointer (some ⟨a4, 0, none⟩)]) (t := 110) (fr := (0, 0)) (heap_alloc_new w4 _)) (by simp [Value.oneCell']) (by omega) (by unfold maxLen; omega) (by omega) (by simp; omega) (w4.heap.size + 1) (by simp) ?_; intro g cap w5 hown hgrow hat hlt; have h5 := hide (((unhide H4).alloc _).gb hgrow (unhide HNB2)); have h5c := (unhide h5).1; have h5f := (unhide h5).2)
            | (go_simp; go_wp2_with (go_at_call 171; refine (unhide CON2 _ ?_).mono ?_; exact (unhide HB2).ds.drew; rintro e w4 ⟨v4, rfl, hgot, hs4, hg4⟩; obtain ⟨a4, rfl⟩ := hgot.one; have hgd := gb_trans (gb_drew w2 (some r)) hg4; have HB4 := hide ((unhide HB2).step hgd hs4 (unhide HK _ _ _ (unhide HQ3))); have HP4 : Hid (pvs.length = es.length ∧ w4.ownsRow (eb + 1) 110 1 (.slice pa pn pc) es.length pvs ∧ (q3.2.bad = none → ∃ n, ∀ (i : Nat) (x : Value) (p : Th.Ex), pvs[i]? = some x → es[i]? = some p → DRep (Apart eb nv' (.slice pa pn pc)) w4 n x p)) := hide (And.intro (unhide HPR).1 (And.intro ((unhide HPR).2.1.kept hgd (own_ne (unhide HPR).2.1 (by omega))) (fun hbad => by obtain ⟨n, hn⟩ := (unhide HPR).2.2 (unhide HK _ _ _ (unhide HQ3) hbad); exact ⟨n, fun i x p a b => (hn i x p a b).gb hgd (fun k hk hS => by cases hk; have := hS.1; omega)⟩))); have Hgot := hide hgot.rep; have hl4 := (unhide HB4).blk.lt; have hz4 : w2.heap.size ≤ w4.heap.size := hgd.size; have H4 := hide (held_of_blk (unhide HB4).blk 9 (v := .slice pa pn pc) rfl); have h4c := (unhide H4).1; have h4f := (unhide H4).2; clear hs4 hg4 hgot hgd)))
          all_goals
            go_wp2_with fail
            go_meet
            case rel =>
              exact ⟨_, (unhide HB4).part (B := w2.heap.size) (unhide HP4).1 (unhide HP4).2.1 (unhide HP4).2.2 (unhide Hgot) heb2 (unhide HBN) (unhide HBP) hown hgrow hat⟩
        case rest =>
          obtain ⟨pv', hB3⟩ := hcut
          have HB3 := hide hB3
          have hs3 := hB3.ds
          have hq4 := unhide HQ4
          clear hB3 c9 f9 HB2 HB1 HB HPR CON CON2 HBN HBP HNB HNB2
          cases h5 : q3.2.is [59]
          · rw [h5] at hq4
            simp only [Bool.false_eq_true, if_false, Option.some.injEq] at hq4
            subst hq4
            have H5 := hide h5
            clear h5
            go_wp2_with fail
            refine (dis_any hs3 ⟨#[59]⟩ (by simp)).mono ?_
            rintro e w5 ⟨rfl, hb5⟩
            rw [show q3.2.is (ByteArray.mk #[59]).data.toList = false from unhide H5]
            have HB5 := hide ((unhide HB3).step (gb_below _ hb5) (hs3.below hb5) (fun hb => hb))
            clear hs3 hb5
            go_wp2_with fail
            refine (dwant_any (unhide HB5).ds ⟨#[105, 110]⟩ (by simp)).mono ?_
            rintro e w6 ⟨rfl, hs6, hg6⟩
            have HB6 := hide ((unhide HB5).step hg6 hs6 (want_bad [105, 110] q3.2))
            clear hg6
            go_wp2_with fail
            refine (unhide HX _ _ _ _ _ _ _ (unhide HQ2) hs6).mono ?_
            rintro e w7 ⟨v7, rfl, hgot, hs7, hg7⟩
            have hB7 := (unhide HB6).step hg7 hs7 (unhide HK _ _ _ (unhide HQ2))
            have hz6 := (unhide HB6).blk.lt
            obtain ⟨a7, rfl⟩ := hgot.one
            have FIN := hide (DB.done (rc := rc) (B := w6.heap.size) (by rw [unhide HKK]; exact hB7) (by simp; exact unhide HLEN) hgot.rep hz6)
            have c6 := hB7.blk.cell 6
            have f6 := hB7.blk.frozen 6
            simp [letCells] at c6
            clear hs6 hgot hs7 hg7 hB7
            go_wp2_with fail
            go_end0
            exact ⟨rfl, unhide FIN⟩
          · rw [h5] at hq4
            simp only [if_true] at hq4
            have HQ5 := hide hq4
            obtain ⟨cap, i, d, hd, ht, hst⟩ := hs3.at (is_bad h5)
            have hk3 := (is_not (x := [59]) ht (by simp) (by rw [← hst]; exact h5)).1
            have hl := hd.lt
            have hn := hd.good.len
            have HD := hide hd
            have Ht := hide ht
            have HST := hide hst
            have H5 := hide h5
            clear h5 hd ht hq4 hst
            go_wp2_with fail
            refine (dis_any hs3 ⟨#[59]⟩ (by simp)).mono ?_
            rintro e w5 ⟨rfl, hb5⟩
            rw [show q3.2.is (ByteArray.mk #[59]).data.toList = true from unhide H5]
            have hS := (unhide HD).step (unhide Ht) hk3 hb5
            rw [← unhide HST] at hS
            have HB5 := hide ((unhide HB3).step hS.2 hS.1 (fun hb => hb))
            have B := (unhide HD).blk.below hb5 (unhide HD).blk.lt
            have c1 := B.cell 1
            have f1 := B.frozen 1
            simp at c1
            clear hs3 hb5 hS B
            go_wp2_with fail
            go_roundg gk
            case measure => omega
            case rel =>
              exact ⟨_, _, _, _, _, unhide HB5, by simp; exact unhide HLEN, by simp; omega, unhide HQ5⟩

end Go.Proofs.YtgahgkddaljmkaaGreatDoor
