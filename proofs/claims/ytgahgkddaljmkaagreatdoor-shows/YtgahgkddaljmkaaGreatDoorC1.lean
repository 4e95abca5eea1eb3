/- The document's reader: the lines of a program that have been read. The document's reader: a program. -/
import Derived.Test.YtgahgkddaljmkaaGreatDoorB9
namespace Go.Proofs.YtgahgkddaljmkaaGreatDoor
open Go.RowKit

theorem infoDLine : (Tryz.prog.info? 112).map (fun i => (i.zero, i.size, i.bytes)) = some (some (.agg #[.string ⟨#[]⟩, .int .i64 0, .int .u8 0, .int .i64 0, .slice none 0 0, .pointer none]), 6, 72) := by kernel_rfl

def dlineCells : List Th.Line → List Value → List Value → List Value
  | a :: l, n :: ns, v :: vs => (dnCells a.name ++ [n, v]) ++ dlineCells l ns vs
  | _, _, _ => []
theorem dlineCells_snoc : ∀ (l : List Th.Line) (ns vs : List Value) (a : Th.Line) (n v : Value), l.length = ns.length → l.length = vs.length → dlineCells (l ++ [a]) (ns ++ [n]) (vs ++ [v]) = dlineCells l ns vs ++ (dnCells a.name ++ [n, v])
  | [], [], [], _, _, _, _, _ => by simp [dlineCells]
  | x :: l, y :: ns, z :: vs, a, n, v, h1, h2 => by
    simp only [List.cons_append, dlineCells]
    rw [dlineCells_snoc l ns vs a n v (by simpa using h1) (by simpa using h2)]
    simp
  | [], _ :: _, _, _, _, _, h, _ => by simp at h
  | [], [], _ :: _, _, _, _, _, h => by simp at h
  | _ :: _, [], _, _, _, _, h, _ => by simp at h
  | _ :: _, _ :: _, [], _, _, _, _, h => by simp at h

/-- What the values of a program's lines stand for. -/
def DLinesRep (S : Nat → Prop) (w : World) (n : Nat) (l : List Th.Line) (nvs bvs : List Value) : Prop :=
  ∀ (i : Nat) (x : Th.Line) (nv bv : Value), l[i]? = some x → nvs[i]? = some nv → bvs[i]? = some bv → Row S w 108 4 nv x.params.length (dnsCells x.params) ∧ DRep S w n bv x.e

/-- The lines that have been read: their slice, and what each stands for. -/
structure DLines (w wr : World) (r tb : Nat) (L : List Th.DP) (l : List Th.Line) (s1 : Th.St) (sv : Value) : Prop where
  rs : DS wr r tb L s1
  gb : w.grownBy wr (some r)
  parts : ∃ nvs bvs, nvs.length = l.length ∧ bvs.length = l.length ∧ wr.ownsRow w.heap.size 112 6 sv l.length (dlineCells l nvs bvs) ∧
    (s1.bad = none → ∃ n, DLinesRep (fun b => Since w b ∧ some b ≠ sv.ownBlock) wr n l nvs bvs)

theorem DLines.add {w wr w2 w3 : World} {r tb : Nat} {L : List Th.DP} {l : List Th.Line} {s1 s2 : Th.St} {sv nv v : Value} {x : Th.Line} {g cap : Nat} {nvs bvs : List Value} {o : Obj}
    (hB : DLines w wr r tb L l s1 sv) (hl1 : nvs.length = l.length) (hl2 : bvs.length = l.length) (hro : wr.ownsRow w.heap.size 112 6 sv l.length (dlineCells l nvs bvs))
    (hre : s1.bad = none → ∃ n, DLinesRep (fun b => Since w b ∧ some b ≠ sv.ownBlock) wr n l nvs bvs)
    (hrl : r < w.heap.size) (htl : tb < w.heap.size)
    (hnv : Row (Since wr) w2 108 4 nv x.params.length (dnsCells x.params)) (hgot : DGot (Since wr) w2 v x.e s2) (hs2 : DS w2 r tb L s2) (hg2 : wr.grownBy w2 (some r))
    (hown : w3.ownsRow w.heap.size 112 6 (.slice (some ⟨g, 0, none⟩) (l.length + 1) cap) (l.length + 1) (dlineCells l nvs bvs ++ (dnCells x.name ++ [nv, v])))
    (hgrow : (w2.alloc o).grownBy w3 sv.ownBlock) (hat : sv.ownBlock = some g ∨ g = w2.heap.size + 1) (hbad : s2.bad = none → s1.bad = none) :
    DLines w w3 r tb L (l ++ [x]) s2 (.slice (some ⟨g, 0, none⟩) (l.length + 1) cap) := by
  have hz2 : wr.heap.size ≤ w2.heap.size := hg2.size
  have hz1 := hB.gb.size
  have hsvb : ∀ b, sv.ownBlock = some b → w.heap.size ≤ b ∧ b < wr.heap.size := fun b hb => ⟨(hro.lt b hb).1, (hro.lt b hb).2⟩
  have hrs : some r ≠ sv.ownBlock := fun e => by have := (hsvb r e.symm).1; omega
  have hts : some tb ≠ sv.ownBlock := fun e => by have := (hsvb tb e.symm).1; omega
  have key : ∀ b, some b ≠ sv.ownBlock → b < w2.heap.size → some b ≠ some g := by
    intro b hb2 hb3 e
    cases e
    rcases hat with h | h
    · exact hb2 h.symm
    · omega
  have oldR : ∀ {ty : TypeId} {sz m : Nat} {u : Value} {ys : List Value}, Row (fun b => Since w b ∧ some b ≠ sv.ownBlock) wr ty sz u m ys →
      Row (fun b => Since w b ∧ some b ≠ some g) w3 ty sz u m ys := by
    intro ty sz m u ys hr
    have a2 := hr.gb hg2 (fun k hk h => by cases hk; simp only [Since] at h; omega)
    have a3 : Row (fun b => Since w b ∧ some b ≠ sv.ownBlock ∧ b < w2.heap.size) w2 ty sz u m ys := a2.mono (fun k hk h => ⟨h.1, h.2, hk⟩)
    have a4 := a3.gb (gb_alloc w2 o none) (by simp)
    have a5 := a4.gb hgrow (fun k hk h => h.2.1 hk.symm)
    exact a5.mono (fun k _ h => ⟨h.1, key k h.2.1 h.2.2⟩)
  have newR : ∀ {ty : TypeId} {sz m : Nat} {u : Value} {ys : List Value}, Row (Since wr) w2 ty sz u m ys →
      Row (fun b => Since w b ∧ some b ≠ some g) w3 ty sz u m ys := by
    intro ty sz m u ys hr
    have a3 : Row (fun b => wr.heap.size ≤ b ∧ b < w2.heap.size) w2 ty sz u m ys := hr.mono (fun k hk h => ⟨h, hk⟩)
    have a4 := a3.gb (gb_alloc w2 o none) (by simp)
    have a5 := a4.gb hgrow (fun k hk h => by have := (hsvb k hk).2; omega)
    exact a5.mono (fun k _ h => ⟨by simp only [Since]; omega, key k (fun e => by have := (hsvb k e.symm).2; omega) h.2⟩)
  have oldD : ∀ {m : Nat} {u : Value} {p : Th.Ex}, DRep (fun b => Since w b ∧ some b ≠ sv.ownBlock) wr m u p →
      DRep (fun b => Since w b ∧ some b ≠ some g) w3 m u p := by
    intro m u p hr
    have a2 := hr.gb hg2 (fun k hk h => by cases hk; simp only [Since] at h; omega)
    have a3 : DRep (fun b => Since w b ∧ some b ≠ sv.ownBlock ∧ b < w2.heap.size) w2 m u p := a2.mono (fun k hk h => ⟨h.1, h.2, hk⟩)
    have a4 := a3.gb (gb_alloc w2 o none) (by simp)
    have a5 := a4.gb hgrow (fun k hk h => h.2.1 hk.symm)
    exact a5.mono (fun k _ h => ⟨h.1, key k h.2.1 h.2.2⟩)
  have newD : ∀ {m : Nat} {u : Value} {p : Th.Ex}, DRep (Since wr) w2 m u p →
      DRep (fun b => Since w b ∧ some b ≠ some g) w3 m u p := by
    intro m u p hr
    have a3 : DRep (fun b => wr.heap.size ≤ b ∧ b < w2.heap.size) w2 m u p := hr.mono (fun k hk h => ⟨h, hk⟩)
    have a4 := a3.gb (gb_alloc w2 o none) (by simp)
    have a5 := a4.gb hgrow (fun k hk h => by have := (hsvb k hk).2; omega)
    exact a5.mono (fun k _ h => ⟨by simp only [Since]; omega, key k (fun e => by have := (hsvb k e.symm).2; omega) h.2⟩)
  refine ⟨(hs2.alloc o).gb hgrow hrs hts, ?_, nvs ++ [nv], bvs ++ [v], by simp [hl1], by simp [hl2], ?_, ?_⟩
  · have h1 : w.grownBy (w2.alloc o) (some r) := gb_trans (gb_trans hB.gb hg2) (gb_alloc w2 o _)
    exact ⟨hgrow.os.trans h1.os, hgrow.tape.trans h1.tape, hgrow.output.trans h1.output, Nat.le_trans h1.size hgrow.size,
      fun k hk hr => (hgrow.block k (Nat.lt_of_lt_of_le hk h1.size) (fun e => by have := (hsvb k e.symm).1; omega)).trans (h1.block k hk hr)⟩
  · rw [dlineCells_snoc l nvs bvs x nv v hl1.symm hl2.symm, List.length_append]
    exact hown
  · intro hb
    obtain ⟨n1, hn1⟩ := hre (hbad hb)
    obtain ⟨n2, hn2⟩ := hgot.rep hb
    refine ⟨n1 + n2, fun i a u p ha hu hp => ?_⟩
    rcases get_snoc ha with h1 | ⟨h1, rfl⟩
    · have hi : i < l.length := (List.getElem?_eq_some_iff.1 h1).1
      rcases get_snoc hu with h2 | ⟨h2, rfl⟩
      · rcases get_snoc hp with h3 | ⟨h3, rfl⟩
        · exact ⟨oldR (hn1 i a u p h1 h2 h3).1, oldD ((hn1 i a u p h1 h2 h3).2.le (Nat.le_add_right n1 n2))⟩
        · omega
      · omega
    · rcases get_snoc hu with h2 | ⟨h2, rfl⟩
      · rw [List.getElem?_eq_none (by omega)] at h2
        simp at h2
      · rcases get_snoc hp with h3 | ⟨h3, rfl⟩
        · rw [List.getElem?_eq_none (by omega)] at h3
          simp at h3
        · exact ⟨newR hnv, newD (hn2.le (Nat.le_add_left n2 n1))⟩

theorem DLines.step {w wr w' : World} {r tb : Nat} {L : List Th.DP} {l : List Th.Line} {s1 s2 : Th.St} {sv : Value} (hB : DLines w wr r tb L l s1 sv) (hrl : r < w.heap.size)
    (hg : wr.grownBy w' (some r)) (hs : DS w' r tb L s2) (hb : s2.bad = none → s1.bad = none) : DLines w w' r tb L l s2 sv := by
  obtain ⟨nvs, bvs, h1, h1', h2, h3⟩ := hB.parts
  refine ⟨hs, gb_trans hB.gb hg, nvs, bvs, h1, h1', h2.kept hg (own_ne h2 hrl), fun hbad => ?_⟩
  obtain ⟨n, hn⟩ := h3 (hb hbad)
  exact ⟨n, fun i a u p x y z => ⟨(hn i a u p x y z).1.gb hg (fun k hk h => by cases hk; simp only [Since] at h; omega), (hn i a u p x y z).2.gb hg (fun k hk h => by cases hk; simp only [Since] at h; omega)⟩⟩

end Go.Proofs.YtgahgkddaljmkaaGreatDoor

namespace Go.Proofs.YtgahgkddaljmkaaGreatDoor
open Go.RowKit
attribute [local go_sem ↓] Go.wp_at_zero Go.wp_at_succ

theorem line_one {a : ByteArray} {b c d : Int} {na : Option Addr} {nn nc x : Nat} : ∀ u ∈ [Value.string a, .int .i64 b, .int .u8 c, .int .i64 d, .slice na nn nc, .pointer (some ⟨x, 0, none⟩)], u.oneCell' = true := by
  intro u hu
  simp at hu
  rcases hu with rfl | rfl | rfl | rfl | rfl | rfl <;> rfl

/-- What the document's reader leaves of a program. -/
def DProgRep (S : Nat → Prop) (w : World) (pv : Value) (l : List Th.Line) : Prop :=
  ∃ nvs bvs n, nvs.length = l.length ∧ bvs.length = l.length ∧ Row S w 112 6 pv l.length (dlineCells l nvs bvs) ∧ DLinesRep S w n l nvs bvs

set_option maxRecDepth 100000 in
set_option maxHeartbeats 8000000 in
theorem dprogram_any {w : World} {r tb : Nat} {L : List Th.DP} {st : Th.St} (n k : Nat) (hn : n ≤ 1000000) (hk : k ≤ 1000000) (q : List Th.Line × Th.St) (hq : Th.plines (Th.pexpr n) k [] st = some q) (h : DS w r tb L st) :
    Calls Tryz.prog 98 #[.pointer (some ⟨r, 0, none⟩)] w fun e w' => ∃ pv, e = .returned pv ∧ (∃ a k c, pv = .slice a k c) ∧ DS w' r tb L q.2 ∧ w.grownBy w' (some r) ∧ (q.2.bad = none → DProgRep (Since w) w' pv q.1) := by
  obtain ⟨i0, hi0, hz0, hz1, hz2⟩ := info_parts infoDLine
  have HI := hide hi0; clear hi0
  have HZ := hide (And.intro hz0 (And.intro hz1 hz2)); clear hz0 hz1 hz2
  have hrl := h.lt
  have htl := h.tlt
  have HQ := hide hq
  have HX := hide (dexpr_ok n hn)
  have HL0 : Hid (DLines w w r tb L [] st (.slice none 0 0)) := hide ⟨h, gb_refl _ _, [], [], rfl, rfl, World.ownsRow_nil _ _ _ _, fun _ => ⟨0, fun i x nv bv hh _ _ => by simp at hh⟩⟩
  clear hq h
  go_enter Tryz.func98, Tryz.ntmps98
  go_wp2_with fail
  go_loopg [3] k (fun g sv wr => ∃ l s1, DLines w wr r tb L l s1 sv ∧ l.length + g ≤ k ∧ Th.plines (Th.pexpr n) g l s1 = some q)
  case atStart => exact ⟨[], _, unhide HL0, by simp, unhide HQ⟩
  case round =>
    obtain ⟨l, s1, hL, hlk, hp⟩ := hrel
    have HL := hide hL
    have hs1 := hL.rs
    have hl1 := hs1.lt
    have hl2 := hs1.tlt
    have END : Hid (s1 = q.2 ∧ l = q.1 → ∀ nq, (∃ a k c, u3 = .slice a k c) ∧ DS (wr.drewN nq) r tb L q.2 ∧ w.grownBy (wr.drewN nq) (some r) ∧ (q.2.bad = none → DProgRep (Since w) (wr.drewN nq) u3 q.1)) := hide (by
      rintro ⟨e1, e2⟩ nq
      rw [← e1, ← e2]
      have hb : Below wr.heap.size wr (wr.drewN nq) := below_drewN (Below.refl _ _) nq
      have hL2 := hL.step hrl (gb_below _ hb) (hL.rs.below hb) (fun hb => hb)
      obtain ⟨nvs, bvs, h1, h2, hro, hre⟩ := hL2.parts
      refine ⟨own_slice hro, hL2.rs, hL2.gb, fun hbad => ?_⟩
      obtain ⟨m, hm⟩ := hre hbad
      refine ⟨nvs, bvs, m, h1, h2, Row.of_own hro, fun i x nv bv a b c => ?_⟩
      have := hm i x nv bv a b c
      exact ⟨this.1.mono (fun k _ hk => hk.1), this.2.mono (fun k _ hk => hk.1)⟩)
    clear hL
    cases gk with
    | zero => simp [Th.plines] at hp
    | succ gg =>
      rw [Th.plines] at hp
      rcases hs1.begin with ⟨b, hb, hbad, c2⟩ | ⟨cap, i, d, hd, ht, rfl⟩
      · have hb1 : (b < 0) = False := eq_false (by omega)
        have e0 : s1.bad.isNone = false := by cases hx : s1.bad with
          | none => exact absurd hx hbad
          | some p => rfl
        rw [e0] at hp
        simp only [Bool.false_and, Bool.false_eq_true, if_false, Option.some.injEq] at hp
        have HP := hide hp
        clear hb hbad hs1 e0 hp
        go_wp2_with fail
        go_quiet (fail)
        go_wp2_with fail
        go_ret
        exact ⟨_, rfl, unhide END ⟨by rw [← unhide HP], by rw [← unhide HP]⟩ _⟩
      · have hl := hd.lt
        have hng := hd.good.len
        have c0 := hd.blk.cell 0
        have c1 := hd.blk.cell 1
        have c2 := hd.blk.cell 2
        simp at c0 c1 c2
        have hen := Th.stAt_end hd.good ht
        by_cases hlast : i + 1 = L.length
        · have i1 : ((i : Int) < (L.length : Int) - 1) = False := eq_false (by omega)
          have e0 : ((Th.stAt L i).bad.isNone && (Th.stAt L i).hd.k != 0) = false := by rw [hen.2 hlast]; rfl
          rw [e0] at hp
          simp only [Bool.false_eq_true, if_false, Option.some.injEq] at hp
          have HP := hide hp
          clear hs1 e0 hp hd ht hen hlast
          go_wp2_with fail
          go_quiet (fail)
          go_wp2_with fail
          go_ret
          exact ⟨_, rfl, unhide END ⟨by rw [← unhide HP], by rw [← unhide HP]⟩ _⟩
        · have i1 : ((i : Int) < (L.length : Int) - 1) = True := eq_true (by omega)
          have e0 : ((Th.stAt L i).bad.isNone && (Th.stAt L i).hd.k != 0) = true := by
            have : (Th.stAt L i).hd.k ≠ 0 := fun e => hlast (hen.1 e)
            simp [Th.stAt] at this ⊢
            exact this
          rw [e0] at hp
          simp only [if_true, Option.bind_eq_some_iff] at hp
          obtain ⟨q2, hq2, hp2⟩ := hp
          have HKP := hide (line_keeps (expr_keeps n) hq2)
          unfold Th.pline at hq2
          simp only [Option.bind_eq_some_iff, Option.some.injEq] at hq2
          obtain ⟨q5, hq5, rfl⟩ := hq2
          generalize hst : Th.stAt L i = s1 at *
          obtain ⟨xn, hxn⟩ : ∃ x, Th.pname s1 = x := ⟨_, rfl⟩
          rw [hxn] at hq5 hp2 HKP
          obtain ⟨ln, hln⟩ : ∃ x, Th.pnames xn.2 = x := ⟨_, rfl⟩
          rw [hln] at hq5 hp2 HKP
          obtain ⟨kn, hkn⟩ : ∃ kn : Nat, (if xn.1.k = 2 then 97 else 0) = kn := ⟨_, rfl⟩
          have HKN : Hid (dnCells xn.1 = [.string ⟨xn.1.s.toArray⟩, .int .i64 xn.1.at_, .int .u8 kn, .int .i64 0]) := hide (by rw [← hkn]; rfl)
          have CON : Hid (∀ W : World, DS W r tb L s1 → Calls Tryz.prog 168 #[.pointer (some ⟨r, 0, none⟩)] W fun e w' => e = .returned (.agg #[.string ⟨xn.1.s.toArray⟩, .int .i64 xn.1.at_, .int .u8 kn, .int .i64 0]) ∧ DS w' r tb L xn.2 ∧ W.grownBy w' (some r)) := hide (fun W hW => by
            have := dname_any hW
            rw [hxn] at this
            simp only [dnV, hkn] at this
            exact this)
          have CON2 : Hid (∀ W : World, DS W r tb L xn.2 → Calls Tryz.prog 169 #[.pointer (some ⟨r, 0, none⟩)] W fun e w' => ∃ v, e = .returned v ∧ w'.ownsRow W.heap.size 108 4 v ln.1.length (dnsCells ln.1) ∧ DS w' r tb L ln.2 ∧ W.grownBy w' (some r)) := hide (fun W hW => by
            have := dnames_any hW
            rw [hln] at this
            exact this)
          have HP2 := hide hp2
          have HQ5 := hide hq5
          have HS1 := hide hs1
          clear hs1 e0 hd ht hen hlast hq5 hp2 END hst hxn hln hkn
          go_wp2_with fail
          go_quiet (fail)
          go_wp2_with fail
          have hb0 : Below wr.heap.size wr (wr.drewN nq) := below_drewN (Below.refl _ _) nq
          refine (unhide CON _ ((unhide HS1).below hb0)).mono ?_
          rintro e w1 ⟨rfl, hs2, hg2⟩
          have hG2 := gb_trans (gb_below (some r) hb0) hg2
          have hz2 : wr.heap.size ≤ w1.heap.size := hG2.size
          have HG2 := hide (gb_trans hG2 (gb_alloc w1 (.cells #[.string ⟨xn.1.s.toArray⟩, .int .i64 xn.1.at_, .int .u8 kn, .int .i64 0, .slice none 0 0, .pointer none] 112) (some r)))
          have HA2 := hide (Blk.new w1 [.string ⟨xn.1.s.toArray⟩, .int .i64 xn.1.at_, .int .u8 kn, .int .i64 0, .slice none 0 0, .pointer none] 112)
          have hs2' := hs2.alloc (.cells #[.string ⟨xn.1.s.toArray⟩, .int .i64 xn.1.at_, .int .u8 kn, .int .i64 0, .slice none 0 0, .pointer none] 112)
          clear hs2 hg2 hG2 hb0 c0 c1 c2
          go_wp2_with fail
          refine (unhide CON2 _ hs2').mono ?_
          rintro e w4 ⟨nv, rfl, hrow, hs4, hg4⟩
          obtain ⟨na, nn, nc, rfl⟩ := own_slice hrow
          have hA4 := (unhide HA2).grown hg4 (by simp; omega)
          have a4 := hA4.cell 4
          have f4 := hA4.frozen 4
          simp at a4
          have hl4 : w1.heap.size < w4.heap.size := hA4.lt
          have HR4 := hide (((Row.of_own hrow).mono (S' := fun b => w1.heap.size < b) (fun k _ hk => by simp at hk; omega)).gb (gb_set w4 w1.heap.size 4 (.slice na nn nc)) (fun k hk hS => by cases hk; omega))
          have HA4 := hide (hA4.set 4 (.slice na nn nc))
          have HG4 := hide (gb_set_new (gb_trans (unhide HG2) hg4) ⟨w1.heap.size, 4, none⟩ (.slice na nn nc) hz2)
          have hs4' := hs4.set w1.heap.size 4 (.slice na nn nc) (by omega) (by omega)
          clear hs2' hrow hs4 hg4 hA4
          go_wp2_with fail
          refine (dwant_any hs4' ⟨#[61]⟩ (by simp)).mono ?_
          rintro e w5 ⟨rfl, hs5, hg5⟩
          have HG5 := hide (gb_trans (unhide HG4) hg5)
          have HA5 := hide ((unhide HA4).grown hg5 (by simp; omega))
          have HR5 := hide ((unhide HR4).gb hg5 (fun k hk hS => by cases hk; omega))
          have hl5 : w1.heap.size < w5.heap.size := (unhide HA5).lt
          clear hs4' hg5 a4 f4
          go_wp2_with fail
          refine (unhide HX _ _ _ _ _ _ _ (unhide HQ5) hs5).mono ?_
          rintro e w6 ⟨v6, rfl, hgot, hs6, hg6⟩
          obtain ⟨a6, rfl⟩ := hgot.one
          have hA6 := (unhide HA5).grown hg6 (by simp; omega)
          have a5 := hA6.cell 5
          have f5 := hA6.frozen 5
          simp at a5
          have hset6 := gb_set w6 w1.heap.size 5 (.pointer (some ⟨a6, 0, none⟩))
          have HA7 := hide (hA6.set 5 (.pointer (some ⟨a6, 0, none⟩)))
          have HG7 := hide (gb_set_new (gb_trans (unhide HG5) hg6) ⟨w1.heap.size, 5, none⟩ (.pointer (some ⟨a6, 0, none⟩)) hz2)
          have hs7 := hs6.set w1.heap.size 5 (.pointer (some ⟨a6, 0, none⟩)) (by omega) (by omega)
          have HR7 := hide (((unhide HR5).gb hg6 (fun k hk hS => by cases hk; omega)).gb hset6 (fun k hk hS => by cases hk; omega))
          have HE7 : Hid (DGot (fun b => w1.heap.size < b) (w6.setCell ⟨w1.heap.size, 5, none⟩ (.pointer (some ⟨a6, 0, none⟩))) (.pointer (some ⟨a6, 0, none⟩)) q5.1 q5.2) := hide ((hgot.gb hset6 (fun k hk hS => by cases hk; simp only [Since] at hS; omega)).mono (fun k _ hS => by simp only [Since] at hS; omega))
          clear hs5 hgot hs6 hg6 hA6 hset6
          go_wp2_with fail
          refine (dwant_any hs7 ⟨#[59]⟩ (by simp)).mono ?_
          rintro e w8 ⟨rfl, hs8, hg8⟩
          have hG8 := gb_trans (unhide HG7) hg8
          have hA8 := (unhide HA7).grown hg8 (by simp; omega)
          have hR8 := (unhide HR7).gb hg8 (fun k hk hS => by cases hk; omega)
          have hE8 := ((unhide HE7).gb hg8 (fun k hk hS => by cases hk; omega)).st (want_bad [59] q5.2)
          obtain ⟨nvs, bvs, hn1, hn2, hro, hre⟩ := (unhide HL).parts
          have hro8 := (hro.kept hG8 (own_ne hro (by omega))).alloc (.cells #[.string ⟨xn.1.s.toArray⟩, .int .i64 xn.1.at_, .int .u8 kn, .int .i64 0, .slice na nn nc, .pointer (some ⟨a6, 0, none⟩)] 112)
          have p0 := hA8.cell 0
          have p1 := hA8.cell 1
          have p2 := hA8.cell 2
          have p3 := hA8.cell 3
          have p4 := hA8.cell 4
          have p5 := hA8.cell 5
          simp at p0 p1 p2 p3 p4 p5
          have hz8 := hG8.size
          have hzw := (unhide HL).gb.size
          have H8 := hide (And.intro (hR8.mono (S' := Since wr) (fun k _ hk => by simp only [Since]; omega)) (And.intro (hE8.mono (S' := Since wr) (fun k _ hk => by simp only [Since]; omega)) (And.intro hs8 hG8)))
          have HPN := hide (And.intro hn1 (And.intro hn2 (And.intro hro hre)))
          obtain ⟨sa, sn, sc, rfl⟩ := own_slice hro
          clear hs7 hs8 hg8 hG8 hA8 hR8 hE8 hn1 hn2 hro hre a5 f5
          go_wp2_with (at_builtin; refine wpList_append_lies _ rfl _ _ _ rfl w.heap.size 112 i0 _ 6 72 Tryz.underlying104 (unhide HI) (unhide HZ).1 (unhide HZ).2.1 (unhide HZ).2.2 rfl (by omega) _ l.length (dlineCells l nvs bvs) rfl hro8 ⟨w8.heap.size, 0, none⟩ 1 1 [.string ⟨xn.1.s.toArray⟩, .int .i64 xn.1.at_, .int .u8 kn, .int .i64 0, .slice na nn nc, .pointer (some ⟨a6, 0, none⟩)] rfl rfl (World.news_of_block (cs := #[.string ⟨xn.1.s.toArray⟩, .int .i64 xn.1.at_, .int .u8 kn, .int .i64 0, .slice na nn nc, .pointer (some ⟨a6, 0, none⟩)]) (t := 112) (fr := (0, 0)) (heap_alloc_new w8 _)) line_one (by omega) (by unfold maxLen; omega) (by omega) (by simp; omega) (w8.heap.size + 1) (by simp) ?_; intro g cap w9 hown hgrow hat hlt)
          go_roundg gg
          case measure => omega
          case rel =>
            refine ⟨l ++ [⟨xn.1, ln.1, q5.1⟩], _, (unhide HL).add (x := ⟨xn.1, ln.1, q5.1⟩) (unhide HPN).1 (unhide HPN).2.1 (unhide HPN).2.2.1 (unhide HPN).2.2.2 hrl htl (unhide H8).1 (unhide H8).2.1 (unhide H8).2.2.1 (unhide H8).2.2.2 ?_ hgrow hat (unhide HKP), by simp; omega, unhide HP2⟩
            rw [unhide HKN]
            exact hown

end Go.Proofs.YtgahgkddaljmkaaGreatDoor
