/- The lines of a program in memory, one line more. What parse.Program answers, given what collect does. The iterator of package scan: it hands over the tokens of a source, in their order. What collect gathers: the tokens of a source. -/
import Derived.Test.YtgahgkddaljmkaaGreatDoorA5
import Derived.Deep.AppendLies
import Derived.RangeFuncNested
import Derived.RangeFuncBound
import Derived.RangeFuncCalls
import Derived.RangeFuncLeaves
import Derived.RangeFuncBox
import Derived.Shelf.Abstract
import Derived.OwnWalkIn
import Derived.TacticsInMore
import Derived.LoopNIn
import Derived.LoopIn
import Derived.Maps.AppendAt
namespace Go.Proofs.YtgahgkddaljmkaaGreatDoor
open Go.RowKit

theorem infoFunction : (Tryz.prog.info? 93).map (fun i => (i.zero, i.size, i.bytes)) = some (some (.agg #[.string ⟨#[]⟩, .int .i64 0, .slice none 0 0, .nilIface]), 4, 64) := by kernel_rfl

def lineCells : List Th.Line → List Value → List Value → List Value
  | x :: l, n :: ns, v :: vs => [.string ⟨x.name.s.toArray⟩, .int .i64 x.name.at_, n, v] ++ lineCells l ns vs
  | _, _, _ => []
theorem lineCells_snoc : ∀ (l : List Th.Line) (ns vs : List Value) (a : Th.Line) (n v : Value), l.length = ns.length → l.length = vs.length → lineCells (l ++ [a]) (ns ++ [n]) (vs ++ [v]) = lineCells l ns vs ++ [.string ⟨a.name.s.toArray⟩, .int .i64 a.name.at_, n, v]
  | [], [], [], _, _, _, _, _ => rfl
  | x :: l, y :: ns, z :: vs, a, n, v, h1, h2 => by
    simp only [List.cons_append, lineCells]
    rw [lineCells_snoc l ns vs a n v (by simpa using h1) (by simpa using h2)]
    simp
  | [], _ :: _, _, _, _, _, h, _ => by simp at h
  | [], [], _ :: _, _, _, _, _, h => by simp at h
  | _ :: _, [], _, _, _, _, h, _ => by simp at h
  | _ :: _, _ :: _, [], _, _, _, _, h => by simp at h

theorem onel {s : ByteArray} {p : Int} {u v : Value} (h1 : u.oneCell' = true) (h : v.oneCell' = true) : ∀ x ∈ [Value.string s, .int .i64 p, u, v], x.oneCell' = true := by
  intro x hu
  simp only [List.mem_cons, List.not_mem_nil, or_false] at hu
  rcases hu with rfl | rfl | rfl | rfl
  · rfl
  · rfl
  · exact h1
  · exact h

/-- What the values of a program's lines stand for. -/
def LinesRep (S : Nat → Prop) (w : World) (n : Nat) (l : List Th.Line) (nvs bvs : List Value) : Prop :=
  ∀ (i : Nat) (x : Th.Line) (nv bv : Value), l[i]? = some x → nvs[i]? = some nv → bvs[i]? = some bv → Row S w 88 2 nv x.params.length (namesCells x.params) ∧ Rep S w n bv x.e

/-- The lines that have been read: their slice, and what each stands for. -/
structure Lines (w wr : World) (r tb : Nat) (T : List Th.Tok) (l : List Th.Line) (s1 : Th.St) (sv : Value) : Prop where
  rs : RS wr r tb T s1
  gb : w.grownBy wr (some r)
  parts : ∃ nvs bvs, nvs.length = l.length ∧ bvs.length = l.length ∧ wr.ownsRow w.heap.size 93 4 sv l.length (lineCells l nvs bvs) ∧
    (s1.bad = none → ∃ n, LinesRep (fun b => Since w b ∧ some b ≠ sv.ownBlock) wr n l nvs bvs)

theorem Lines.add {w wr w2 w3 : World} {r tb : Nat} {T : List Th.Tok} {l : List Th.Line} {s1 s2 : Th.St} {sv nv v : Value} {x : Th.Line} {g cap : Nat} {nvs bvs : List Value} {o : Obj}
    (hB : Lines w wr r tb T l s1 sv) (hl1 : nvs.length = l.length) (hl2 : bvs.length = l.length) (hro : wr.ownsRow w.heap.size 93 4 sv l.length (lineCells l nvs bvs))
    (hre : s1.bad = none → ∃ n, LinesRep (fun b => Since w b ∧ some b ≠ sv.ownBlock) wr n l nvs bvs)
    (hrl : r < w.heap.size) (htl : tb < w.heap.size)
    (hnv : Row (Since wr) w2 88 2 nv x.params.length (namesCells x.params)) (hgot : Got (Since wr) w2 v x.e s2) (hs2 : RS w2 r tb T s2) (hg2 : wr.grownBy w2 (some r))
    (hown : w3.ownsRow w.heap.size 93 4 (.slice (some ⟨g, 0, none⟩) (l.length + 1) cap) (l.length + 1) (lineCells l nvs bvs ++ [.string ⟨x.name.s.toArray⟩, .int .i64 x.name.at_, nv, v]))
    (hgrow : (w2.alloc o).grownBy w3 sv.ownBlock) (hat : sv.ownBlock = some g ∨ g = w2.heap.size + 1) (hbad : s2.bad = none → s1.bad = none) :
    Lines w w3 r tb T (l ++ [x]) s2 (.slice (some ⟨g, 0, none⟩) (l.length + 1) cap) := by
  have hz2 : wr.heap.size ≤ w2.heap.size := hg2.size
  have hz1 := hB.gb.size
  have hsvb : ∀ b, sv.ownBlock = some b → w.heap.size ≤ b ∧ b < wr.heap.size := fun b hb => ⟨(hro.lt b hb).1, (hro.lt b hb).2⟩
  have hrs : some r ≠ sv.ownBlock := fun e => by have := (hsvb r e.symm).1; omega
  have hts : some tb ≠ sv.ownBlock := fun e => by have := (hsvb tb e.symm).1; omega
  have key : ∀ b, some b ≠ sv.ownBlock → b < w2.heap.size → some b ≠ some g := by
    intro b hb2 hb3 e
    cases e
    rcases hat with h | h
    · exact hb2 h.symm
    · omega
  have oldR : ∀ {ty : TypeId} {sz m : Nat} {u : Value} {ys : List Value}, Row (fun b => Since w b ∧ some b ≠ sv.ownBlock) wr ty sz u m ys →
      Row (fun b => Since w b ∧ some b ≠ some g) w3 ty sz u m ys := by
    intro ty sz m u ys hr
    have a2 := hr.gb hg2 (fun k hk h => by cases hk; simp only [Since] at h; omega)
    have a3 : Row (fun b => Since w b ∧ some b ≠ sv.ownBlock ∧ b < w2.heap.size) w2 ty sz u m ys := a2.mono (fun k hk h => ⟨h.1, h.2, hk⟩)
    have a4 := a3.gb (gb_alloc w2 o none) (by simp)
    have a5 := a4.gb hgrow (fun k hk h => h.2.1 hk.symm)
    exact a5.mono (fun k _ h => ⟨h.1, key k h.2.1 h.2.2⟩)
  have newR : ∀ {ty : TypeId} {sz m : Nat} {u : Value} {ys : List Value}, Row (Since wr) w2 ty sz u m ys →
      Row (fun b => Since w b ∧ some b ≠ some g) w3 ty sz u m ys := by
    intro ty sz m u ys hr
    have a3 : Row (fun b => wr.heap.size ≤ b ∧ b < w2.heap.size) w2 ty sz u m ys := hr.mono (fun k hk h => ⟨h, hk⟩)
    have a4 := a3.gb (gb_alloc w2 o none) (by simp)
    have a5 := a4.gb hgrow (fun k hk h => by have := (hsvb k hk).2; omega)
    exact a5.mono (fun k _ h => ⟨by simp only [Since]; omega, key k (fun e => by have := (hsvb k e.symm).2; omega) h.2⟩)
  refine ⟨(hs2.alloc o).gb hgrow hrs hts, ?_, nvs ++ [nv], bvs ++ [v], by simp [hl1], by simp [hl2], ?_, ?_⟩
  · have h1 : w.grownBy (w2.alloc o) (some r) := gb_trans (gb_trans hB.gb hg2) (gb_alloc w2 o _)
    exact ⟨hgrow.os.trans h1.os, hgrow.tape.trans h1.tape, hgrow.output.trans h1.output, Nat.le_trans h1.size hgrow.size,
      fun k hk hr => (hgrow.block k (Nat.lt_of_lt_of_le hk h1.size) (fun e => by have := (hsvb k e.symm).1; omega)).trans (h1.block k hk hr)⟩
  · rw [lineCells_snoc l nvs bvs x nv v hl1.symm hl2.symm, List.length_append]
    exact hown
  · intro hb
    obtain ⟨n1, hn1⟩ := hre (hbad hb)
    obtain ⟨n2, hn2⟩ := hgot.rep hb
    refine ⟨n1 + n2, fun i a u p ha hu hp => ?_⟩
    rcases get_snoc ha with h1 | ⟨h1, rfl⟩
    · have hi : i < l.length := (List.getElem?_eq_some_iff.1 h1).1
      rcases get_snoc hu with h2 | ⟨h2, rfl⟩
      · rcases get_snoc hp with h3 | ⟨h3, rfl⟩
        · exact ⟨oldR (hn1 i a u p h1 h2 h3).1, Rep.imp (fun _ _ _ _ _ hR => oldR hR) _ _ _ ((hn1 i a u p h1 h2 h3).2.le (Nat.le_add_right n1 n2))⟩
        · omega
      · omega
    · rcases get_snoc hu with h2 | ⟨h2, rfl⟩
      · rw [List.getElem?_eq_none (by omega)] at h2
        simp at h2
      · rcases get_snoc hp with h3 | ⟨h3, rfl⟩
        · rw [List.getElem?_eq_none (by omega)] at h3
          simp at h3
        · exact ⟨newR hnv, Rep.imp (fun _ _ _ _ _ hR => newR hR) _ _ _ (hn2.le (Nat.le_add_left n2 n1))⟩

theorem Lines.step {w wr w' : World} {r tb : Nat} {T : List Th.Tok} {l : List Th.Line} {s1 s2 : Th.St} {sv : Value} (hB : Lines w wr r tb T l s1 sv) (hrl : r < w.heap.size)
    (hg : wr.grownBy w' (some r)) (hs : RS w' r tb T s2) (hb : s2.bad = none → s1.bad = none) : Lines w w' r tb T l s2 sv := by
  obtain ⟨nvs, bvs, h1, h1', h2, h3⟩ := hB.parts
  refine ⟨hs, gb_trans hB.gb hg, nvs, bvs, h1, h1', h2.kept hg (own_ne h2 hrl), fun hbad => ?_⟩
  obtain ⟨n, hn⟩ := h3 (hb hbad)
  exact ⟨n, fun i a u p x y z => ⟨(hn i a u p x y z).1.gb hg (fun k hk h => by cases hk; simp only [Since] at h; omega), (hn i a u p x y z).2.gb hg (fun k hk h => by cases hk; simp only [Since] at h; omega)⟩⟩

end Go.Proofs.YtgahgkddaljmkaaGreatDoor

namespace Go.Proofs.YtgahgkddaljmkaaGreatDoor
open Go.RowKit
attribute [local go_sem] fld_tok0 fld_tok1 fld_tok2

def tokCells (t : Th.Tok) : List Value := [.int .i64 t.k, .string ⟨t.s.toArray⟩, .int .i64 t.at_]
def toksCells (l : List Th.Tok) : List Value := l.flatMap tokCells

theorem toksCells_get : ∀ (l : List Th.Tok) (i : Nat) (t : Th.Tok), l[i]? = some t → (toksCells l)[i * 3]? = some (.int .i64 t.k) ∧ (toksCells l)[i * 3 + 1]? = some (.string ⟨t.s.toArray⟩) ∧ (toksCells l)[i * 3 + 2]? = some (.int .i64 t.at_)
  | [], i, t, h => by simp at h
  | x :: l, 0, t, h => by
    simp only [List.getElem?_cons_zero, Option.some.injEq] at h
    subst h
    exact ⟨rfl, rfl, rfl⟩
  | x :: l, i + 1, t, h => by
    have ih := toksCells_get l i t (by simpa using h)
    have e : ∀ c, (toksCells (x :: l))[(i + 1) * 3 + c]? = (toksCells l)[i * 3 + c]? := by
      intro c
      rw [show toksCells (x :: l) = tokCells x ++ toksCells l from rfl, List.getElem?_append_right (by simp [tokCells]; omega)]
      congr 1
      simp [tokCells]
      omega
    refine ⟨?_, ?_, ?_⟩
    · have := e 0; simp only [Nat.add_zero] at this; rw [this]; exact ih.1
    · rw [e 1]; exact ih.2.1
    · rw [e 2]; exact ih.2.2

theorem toksCells_len (l : List Th.Tok) : (toksCells l).length = l.length * 3 := by
  induction l with
  | nil => rfl
  | cons t l ih =>
    rw [show toksCells (t :: l) = tokCells t ++ toksCells l from rfl, List.length_append, ih]
    simp only [tokCells, List.length_cons, List.length_nil]
    omega

/-- The tokens of a source. -/
def theToks (s : ByteArray) : List Th.Tok := Th.toks (s.size + 1) s.data.toList 0

/-- What collect is to do. -/
def CollectOK : Prop := ∀ (s : ByteArray) (w : World), s.size ≤ 600 →
  Calls Tryz.prog 66 #[.string s] w fun e w' => ∃ v, e = .returned v ∧ w'.ownsRow w.heap.size 135 3 v (theToks s).length (toksCells (theToks s)) ∧ Below w.heap.size w w'

theorem RS.failed {w : World} {r tb : Nat} {T : List Th.Tok} {st : Th.St} (h : RS w r tb T st) : w.cell? ⟨r, 2, none⟩ = some (.bool st.bad.isSome) ∧ (∀ p, st.bad = some p → w.cell? ⟨r, 3, none⟩ = some (.int .i64 p)) := by
  obtain ⟨cap, n, f, p, h, rfl⟩ := h
  have h2 := h.blk.cell 2
  have h3 := h.blk.cell 3
  simp at h2 h3
  cases f with
  | false => exact ⟨h2, fun p hp => by simp [absSt] at hp⟩
  | true => exact ⟨h2, fun p hp => by simp [absSt] at hp; rw [h3, hp]⟩

/-- A program in memory. -/
def ProgRep (S : Nat → Prop) (w : World) (pv : Value) (l : List Th.Line) : Prop :=
  ∃ nvs bvs n, nvs.length = l.length ∧ bvs.length = l.length ∧ Row S w 93 4 pv l.length (lineCells l nvs bvs) ∧ LinesRep S w n l nvs bvs

theorem line_keeps {ex : Th.Rd} (hk : Keeps ex) {st : Th.St} {q : Th.Line × Th.St} (h : Th.pline ex st = some q) : q.2.bad = none → st.bad = none := by
  unfold Th.pline at h
  simp only [Option.bind_eq_some_iff, Option.some.injEq] at h
  obtain ⟨r, h1, rfl⟩ := h
  exact fun hb => name_bad _ (names_bad _ (want_bad _ _ (hk _ _ _ h1 (want_bad _ _ hb))))

/-- What parse.Program answers. -/
def ProgPost (w : World) (q : List Th.Line × Th.St) (e : Ending) (w' : World) : Prop :=
  Below w.heap.size w w' ∧ ((∃ p, q.2.bad = some p ∧ e = .returned (.tuple #[.slice none 0 0, .int .i64 p, .bool false])) ∨
      (q.2.bad = none ∧ ∃ pv, e = .returned (.tuple #[pv, .int .i64 0, .bool true]) ∧ ProgRep (Since w) w' pv q.1))

theorem below_of_lines {w wr : World} {r tb : Nat} {T : List Th.Tok} {l : List Th.Line} {s1 : Th.St} {sv : Value} {B : Nat} (h : Lines w wr r tb T l s1 sv) (hB : B ≤ r) (hr : r < w.heap.size) : Below B w wr :=
  ⟨h.gb.os, h.gb.tape, h.gb.output, h.gb.size, fun k hk => h.gb.block k (by omega) (by simp; omega)⟩

set_option maxRecDepth 100000 in
set_option maxHeartbeats 8000000 in
theorem program_any (hC : CollectOK) (s : ByteArray) (w : World) (hs : s.size ≤ 600) (hgood : Good (theToks s)) (hne : theToks s ≠ []) (n k : Nat) (hn : n ≤ 1000000) (hk : k ≤ 1000000) (q : List Th.Line × Th.St)
    (hq : Th.plines (Th.pexpr n) k [] ⟨theToks s, none⟩ = some q) :
    Calls Tryz.prog 41 #[.string s] w fun e w' => ProgPost w q e w' := by
  obtain ⟨i0, hi0, hz0, hz1, hz2⟩ := info_parts infoFunction
  have HI := hide hi0; clear hi0
  have HZ := hide (And.intro hz0 (And.intro hz1 hz2)); clear hz0 hz1 hz2
  have HQ := hide hq
  have HX := hide (expr_ok n hn)
  have HG := hide hgood
  generalize hT : theToks s = T at *
  have HT := hide hT
  clear hT hq hgood
  go_enter Tryz.func41, Tryz.ntmps41
  go_wp2_with fail
  refine (hC s _ hs).mono ?_
  rintro e w1 ⟨v, rfl, hrow, hb1⟩
  rw [unhide HT] at hrow
  obtain ⟨tb, cap, rfl⟩ := own_some hrow (List.length_pos_iff.2 hne)
  have htb := (hrow.lt tb rfl)
  have hRI : RI (w1.alloc (.cells #[.slice (some ⟨tb, 0, none⟩) T.length cap, .int .i64 0, .bool false, .int .i64 0] 132)) w1.heap.size tb cap T 0 false 0 := by
    refine ⟨Blk.new w1 [.slice (some ⟨tb, 0, none⟩) T.length cap, .int .i64 0, .bool false, .int .i64 0] 132, ?_, by omega, List.length_pos_iff.2 hne, unhide HG, by simp, ?_⟩
    · intro i t ht
      have hlt : i < T.length := (List.getElem?_eq_some_iff.1 ht).1
      have hc := toksCells_get T i t ht
      have hrow2 := hrow.alloc (.cells #[.slice (some ⟨tb, 0, none⟩) T.length cap, .int .i64 0, .bool false, .int .i64 0] 132)
      refine ⟨?_, ?_, ?_⟩
      · rw [hrow2.cellAt _ (by omega)]; exact hc.1
      · rw [hrow2.cellAt _ (by omega)]; exact hc.2.1
      · rw [hrow2.cellAt _ (by omega)]; exact hc.2.2
    · rcases hrow.2 with ⟨h, _⟩ | ⟨g, c, cur, h, _, _, hle, _⟩
      · cases h
      · cases h; exact hle
  have hL0 : Lines (w1.alloc (.cells #[.slice (some ⟨tb, 0, none⟩) T.length cap, .int .i64 0, .bool false, .int .i64 0] 132)) (w1.alloc (.cells #[.slice (some ⟨tb, 0, none⟩) T.length cap, .int .i64 0, .bool false, .int .i64 0] 132)) w1.heap.size tb T [] ⟨T, none⟩ (.slice none 0 0) :=
    ⟨⟨cap, 0, false, 0, hRI, by simp [absSt]⟩, gb_refl _ _, [], [], rfl, rfl, World.ownsRow_nil _ _ _ _, fun _ => ⟨0, fun i x nv bv hh _ _ => by simp at hh⟩⟩
  have HL0 := hide hL0
  have hz1 := hb1.size
  have HB1 := hide ((hb1.trans ((below_alloc w1 _).mono hz1)) : Below w.heap.size w (w1.alloc (.cells #[.slice (some ⟨tb, 0, none⟩) T.length cap, .int .i64 0, .bool false, .int .i64 0] 132)))
  clear hRI hL0 hrow hb1
  go_wp2_with fail
  generalize hW0 : w1.alloc (.cells #[.slice (some ⟨tb, 0, none⟩) T.length cap, .int .i64 0, .bool false, .int .i64 0] 132) = W0 at *
  have hWs : w1.heap.size < W0.heap.size := by rw [← hW0]; simp
  clear hW0
  go_loopg [2] k (fun g sv wr => ∃ l s1, Lines W0 wr w1.heap.size tb T l s1 sv ∧ l.length + g ≤ k ∧ Th.plines (Th.pexpr n) g l s1 = some q)
  case atStart => exact ⟨[], _, unhide HL0, by simp, unhide HQ⟩
  case round =>
    obtain ⟨l, s1, hL, hlk, hp⟩ := hrel
    have HL := hide hL
    have hs1 := hL.rs
    have hf := hs1.failed
    have hl1 := hs1.lt
    clear hL
    cases gk with
    | zero => simp [Th.plines] at hp
    | succ gg =>
      rw [Th.plines] at hp
      cases hbd : s1.bad with
      | some p =>
        rw [hbd] at hp hf
        simp only [Option.isNone_some, Bool.false_and, Bool.false_eq_true, if_false, Option.some.injEq] at hp
        subst hp
        have c2 := hf.1
        have c3 := hf.2 p rfl
        simp at c2
        have Hbd := hide hbd
        clear hf hbd hs1
        go_wp2_with fail
        go_quiet (fail)
        go_wp2_with fail
        go_ret3
        exact ⟨below_drewN ((unhide HB1).trans (below_of_lines (unhide HL) hz1 hWs)) _, .inl ⟨p, unhide Hbd, rfl⟩⟩
      | none =>
        rw [hbd] at hp hf
        obtain ⟨t, tk, ti, th, tm, tc⟩ := tokenS hs1
        have hth := th hbd
        have c2 := hf.1
        simp at c2
        have Hbd := hide hbd
        have Hs1 := hide hs1
        clear hf hbd tk ti th tm hs1
        cases hk0 : (t.k == 0)
        · have hk1 : ((t.k : Int) == 0) = false := by simp at hk0 ⊢; omega
          have hk2 : ((t.k : Int) != 0) = true := by simp at hk0 ⊢; omega
          rw [hth] at hp
          have e0 : (t.k != 0) = true := by simpa using hk0
          simp only [Option.isNone_none, Bool.true_and, e0, if_true, Option.bind_eq_some_iff] at hp
          obtain ⟨q2, hq2, hp2⟩ := hp
          have HQ2 := hide hq2
          have HP2 := hide hp2
          clear hk0 e0 hth hq2 hp2
          go_wp2_with fail
          refine tc.mono ?_
          rintro e w2 ⟨rfl, hb2⟩
          have HL2 := hide ((unhide HL).step hWs (gb_below _ hb2) ((unhide Hs1).below hb2) (fun hb => hb))
          clear tc hb2 c2
          go_wp2_with fail
          refine (function_ok (unhide HX) (unhide HQ2) (unhide HL2).rs).mono ?_
          rintro e w3 ⟨nv, bv, rfl, hnv, hgot, hs3, hg3⟩
          obtain ⟨nvs, bvs, hl1, hl2, hro, hre⟩ := (unhide HL2).parts
          have hone := hgot.one.one
          have hone1 := row_one hnv
          have hro3 := (hro.kept hg3 (own_ne hro hWs)).alloc (.cells #[.string ⟨q2.1.name.s.toArray⟩, .int .i64 q2.1.name.at_, nv, bv] 93)
          have hz3 : W0.heap.size ≤ w3.heap.size := Nat.le_trans (unhide HL2).gb.size hg3.size
          have H3 := hide (And.intro hnv (And.intro hgot (And.intro hs3 hg3)))
          have HP := hide (And.intro hl1 (And.intro hl2 (And.intro hro hre)))
          have hsh := row_shape hnv
          have hsh2 := hgot.one.shape
          clear hnv hgot hs3 hg3 hl1 hl2 hro hre
          go_wp2_with (at_builtin; refine wpList_append_lies _ rfl _ _ _ rfl W0.heap.size 93 i0 _ 4 64 Tryz.underlying60 (unhide HI) (unhide HZ).1 (unhide HZ).2.1 (unhide HZ).2.2 rfl (by omega) _ l.length (lineCells l nvs bvs) rfl hro3 ⟨w3.heap.size, 0, none⟩ 1 1 [.string ⟨q2.1.name.s.toArray⟩, .int .i64 q2.1.name.at_, nv, bv] rfl rfl (World.news_of_block (cs := #[.string ⟨q2.1.name.s.toArray⟩, .int .i64 q2.1.name.at_, nv, bv]) (t := 93) (fr := (0, 0)) (heap_alloc_new w3 _)) (onel hone1 hone) (by omega) (by unfold maxLen; omega) (by omega) (by simp; omega) (w3.heap.size + 1) (by simp) ?_; intro g cap w4 hown hgrow hat hlt)
          go_roundg gg
          case measure => omega
          case rel =>
            exact ⟨l ++ [q2.1], q2.2, (unhide HL2).add (unhide HP).1 (unhide HP).2.1 (unhide HP).2.2.1 (unhide HP).2.2.2 hWs (by omega) (unhide H3).1 (unhide H3).2.1 (unhide H3).2.2.1 (unhide H3).2.2.2 hown hgrow hat (line_keeps (expr_keeps n) (unhide HQ2)), by simp; omega, unhide HP2⟩
        · have hk1 : ((t.k : Int) == 0) = true := by simp at hk0 ⊢; omega
          have hk2 : ((t.k : Int) != 0) = false := by simp at hk0 ⊢; omega
          rw [hth] at hp
          have e0 : (t.k != 0) = false := by simpa using hk0
          simp only [Option.isNone_none, Bool.true_and, e0, Bool.false_eq_true, if_false, Option.some.injEq] at hp
          subst hp
          clear hk0 e0 hth
          go_wp2_with fail
          refine tc.mono ?_
          rintro e w2 ⟨rfl, hb2⟩
          have HL2 := hide ((unhide HL).step hWs (gb_below _ hb2) ((unhide Hs1).below hb2) (fun hb => hb))
          have c2' := (unhide HL2).rs.failed.1
          rw [unhide Hbd] at c2'
          simp at c2'
          clear tc hb2 c2
          go_wp2_with fail
          go_ret3
          refine ⟨(unhide HB1).trans (below_of_lines (unhide HL2) hz1 hWs), .inr ⟨unhide Hbd, u2, rfl, ?_⟩⟩
          obtain ⟨nvs, bvs, hl1, hl2, hro, hre⟩ := (unhide HL2).parts
          obtain ⟨m, hm⟩ := hre (unhide Hbd)
          have hzz : w.heap.size ≤ W0.heap.size := by omega
          refine ⟨nvs, bvs, m, hl1, hl2, (Row.of_own hro).mono (fun k _ hk => Nat.le_trans hzz hk), fun i x nv bv a b c => ?_⟩
          have := hm i x nv bv a b c
          exact ⟨this.1.mono (fun k _ hk => Nat.le_trans hzz hk.1), this.2.mono (fun k _ hk => Nat.le_trans hzz hk.1)⟩

end Go.Proofs.YtgahgkddaljmkaaGreatDoor

namespace Go.Proofs.YtgahgkddaljmkaaGreatDoor
open Go.RowKit Go.Shelf
attribute [local go_sem] Oper.semAt_some

theorem word_len {t : List UInt8} (h : t ≠ []) : 1 ≤ (Th.word t).2.length := by
  have : 0 < t.length := List.length_pos_iff.2 h
  unfold Th.word
  split <;> exact this
theorem tw_pos {q : UInt8 → Bool} {c : UInt8} {r : List UInt8} (h : q c = true) : (c :: r).takeWhile q ≠ [] := by simp [h]
/-- A token that is one has a text; it is no longer than what is left. -/
theorem first_len (t : List UInt8) (h : 2 ≤ (Th.first t).1) : 1 ≤ (Th.first t).2.length := by
  cases t with
  | nil => simp [Th.first] at h
  | cons c r =>
    simp only [Th.first] at h ⊢
    split
    · next hc => exact word_len (tw_pos (by simp [Th.isWc, hc]))
    · split
      · next hc hd =>
        rw [if_neg hc, if_pos hd] at h
        have hp := tw_pos (q := Th.isDig) (r := r) hd
        have : 0 < ((c :: r).takeWhile Th.isDig).length := List.length_pos_iff.2 hp
        unfold Th.numb at h ⊢
        split
        · next h9 => rw [if_pos h9] at h; simp at h
        · exact this
      · split
        · next hc hd hs => rw [if_neg hc, if_neg hd, if_pos hs] at h; simp at h
        · next hs =>
          have := signLen_le (c :: r)
          simp only [List.length_take]
          omega
theorem first_le (t : List UInt8) : (Th.first t).2.length ≤ t.length := by
  cases t with
  | nil => simp [Th.first]
  | cons c r =>
    simp only [Th.first]
    split
    · have := tw_le Th.isWc (c :: r)
      unfold Th.word
      split <;> exact this
    · split
      · have := tw_le Th.isDig (c :: r)
        unfold Th.numb
        split
        · simp
        · exact this
      · split
        · simp
        · simp only [List.length_take]; omega

theorem toks_succ (f : Nat) (t : List UInt8) (p : Nat) : Th.toks (f + 1) t p = ⟨(Th.first (t.drop (t.takeWhile Th.isBl).length)).1, (Th.first (t.drop (t.takeWhile Th.isBl).length)).2, p + (t.takeWhile Th.isBl).length⟩ ::
    (if (Th.first (t.drop (t.takeWhile Th.isBl).length)).1 ≤ 1 then [] else Th.toks f ((t.drop (t.takeWhile Th.isBl).length).drop (Th.first (t.drop (t.takeWhile Th.isBl).length)).2.length) (p + (t.takeWhile Th.isBl).length + (Th.first (t.drop (t.takeWhile Th.isBl).length)).2.length)) := rfl

/-- A token as it is handed over. -/
def tokAgg (t : Th.Tok) : Value := .agg #[.int .i64 t.k, .string ⟨t.s.toArray⟩, .int .i64 t.at_]

/-- What a round keeps: what lay below, and every variable that holds one token. -/
def Kp3 (n₀ Bn : Nat) (A B : World) : Prop := Below n₀ A B ∧ B.heap[Bn]? = A.heap[Bn]? ∧ ∀ (b : Nat) (cs : Array Value), A.heap[b]? = some (.cells cs 135 (0, 0)) → cs.size = 3 → B.heap[b]? = some (.cells cs 135 (0, 0))

theorem ext_drop (s : ByteArray) (p : Nat) : (s.extract p s.size).data.toList = s.data.toList.drop p := by
  rw [Lib.extract_data, List.take_of_length_le]
  simp

theorem J_below {J : List Th.Tok → World → Prop} {B : Nat} (hJ : AbidesFrom B J) {pre : List Th.Tok} {A C : World} (h : J pre A) (hb : Below A.heap.size A C) : J pre C :=
  hJ pre A C none h (gb_below none hb) (by simp)

set_option maxRecDepth 100000 in
set_option maxHeartbeats 2000000 in
theorem tokens1_in (n : Nat) (hn : 1 ≤ n) (l Bn n₀ : Nat) (s : ByteArray) (hs : s.size ≤ 600) (J Jx : List Th.Tok → World → Prop)
    (hY : ∀ pre x W, J pre W → pre.length < (theToks s).length → YieldAt Fence.wide (n - 1) Tryz.prog l #[tokAgg x] W fun e W' =>
      (e = .returned (.bool true) ∧ J (pre ++ [x]) W' ∧ Kp3 n₀ Bn W W') ∨ (e = .returned (.bool false) ∧ Jx (pre ++ [x]) W'))
    (W : World) (hn₀ : n₀ ≤ W.heap.size) (hJ : AbidesFrom W.heap.size J) (hBn : W.cell? ⟨Bn, 0, none⟩ = some (.string s)) (h0 : J [] W) :
    CallsIn Fence.wide n Tryz.prog 187 #[.func (.yield l) #[] #[], .pointer (some ⟨Bn, 0, none⟩)] W fun e W' => (∃ v, e = .returned v) ∧
      ((∃ ys, ys = theToks s ∧ J ys W') ∨ (∃ pre, pre <+: theToks s ∧ Jx pre W')) := by
  have HY := hide hY
  have HJ := hide hJ
  clear hY hJ
  refine callsIn_of_wp Tryz.func187 rfl trivial ?_ rfl
  simp only [Tryz.ntmps187, List.size_toArray, List.length_cons, List.length_nil, Nat.reduceAdd, Nat.reduceSub, Array.replicate_succ, Array.replicate_zero, List.push_toArray, List.append_toArray, List.nil_append, List.cons_append]
  gi_wp2
  gi_loopw [3] (fun i wr => ∃ (pre : List Th.Tok) (p f : Nat), i = .int .i64 p ∧ p ≤ s.size ∧ s.size - p ≤ f ∧ Hid (theToks s = pre ++ Th.toks (f + 1) (s.data.toList.drop p) p) ∧ wr.cell? ⟨Bn, 0, none⟩ = some (.string s) ∧ n₀ ≤ wr.heap.size ∧ Hid (Below n₀ W wr) ∧ Hid (J pre wr))
    (fun i _ => s.size + 1 - (intOf i).toNat)
  case atStart => exact ⟨[], 0, s.size, rfl, Nat.zero_le _, by omega, hide (by simp [theToks]), hBn, hn₀, hide (Below.refl _ _), hide h0⟩
  case round =>
    obtain ⟨pre, p, f, rfl, hp, hf, hT, hB, hz, hBe, hJp⟩ := hrel
    obtain ⟨b, hb⟩ : ∃ b, ((s.data.toList.drop p).takeWhile Th.isBl).length = b := ⟨_, rfl⟩
    have hbl : b ≤ s.size - p := by
      have := tw_le Th.isBl (s.data.toList.drop p)
      rw [hb] at this
      simpa using this
    obtain ⟨a, ha⟩ : ∃ a, p + b = a := ⟨_, rfl⟩
    have hal : a ≤ s.size := by omega
    have hpa : p ≤ a := by omega
    obtain ⟨⟨k, t⟩, hkt⟩ : ∃ x, Th.first (s.data.toList.drop a) = x := ⟨_, rfl⟩
    have htl := first_le (s.data.toList.drop a)
    rw [hkt] at htl
    simp only [List.length_drop] at htl
    have htl2 : t.length ≤ s.size - a := by simpa using htl
    have hT2 : Hid (theToks s = pre ++ ⟨k, t, a⟩ :: (if k ≤ 1 then [] else Th.toks f (s.data.toList.drop (a + t.length)) (a + t.length))) := hide (by
      have e := unhide hT
      rw [toks_succ, hb, List.drop_drop, ha, hkt] at e
      simp only [List.drop_drop] at e
      exact e)
    have hpos : Hid (2 ≤ k → 1 ≤ t.length) := hide (fun h => by have := first_len (s.data.toList.drop a) (by rw [hkt]; exact h); rw [hkt] at this; exact this)
    have Ha := hide ha
    clear ha
    have Hb := hide hb
    have Hkt := hide hkt
    clear hb hkt htl hT
    gi_wp2
    refine ⟨trivial, ?_⟩
    refine (callsIn_wide.2 (span_bl _ _ (by rw [ByteArray.size_extract]; omega))).mono ?_
    rintro e w1 ⟨rfl, pos, hw1⟩
    rw [ext_drop, unhide Hb]
    have hb1 : Below wr.heap.size wr w1 := by rw [hw1]; exact below_alloc _ _
    have hJ1 := hide (J_below (unhide HJ) (unhide hJp) hb1)
    have hBe1 := hide ((unhide hBe).trans (hb1.mono hz))
    have hB1 : w1.cell? ⟨Bn, 0, none⟩ = some (.string s) := (hb1.cell (p := ⟨Bn, 0, none⟩) (cell_lt hB)).trans hB
    have hz1 : n₀ ≤ w1.heap.size := Nat.le_trans hz hb1.size
    clear hb1 hw1 hB hJp hBe hz
    gi_wp2
    refine ⟨trivial, ?_⟩
    rw [show ((p : Int) + (b : Int)) = (a : Int) by have := unhide Ha; omega, show p + b = a from unhide Ha]
    refine (callsIn_wide.2 (first_any _ _ (by rw [ByteArray.size_extract]; omega))).mono ?_
    rintro e w2 ⟨rfl, hb2⟩
    rw [ext_drop, unhide Hkt]
    have hJ2 := hide (J_below (unhide HJ) (J_below (unhide HJ) (unhide hJ1) hb2) (below_alloc w2 (.cells #[.int .i64 k, .string ⟨t.toArray⟩, .int .i64 (a : Int)] 135)))
    have hBe2 := hide (((unhide hBe1).trans (hb2.mono hz1)).trans ((below_alloc w2 (.cells #[.int .i64 k, .string ⟨t.toArray⟩, .int .i64 (a : Int)] 135)).mono (Nat.le_trans hz1 hb2.size)))
    have hB2 : w2.cell? ⟨Bn, 0, none⟩ = some (.string s) := (hb2.cell (p := ⟨Bn, 0, none⟩) (cell_lt hB1)).trans hB1
    have hz2 : n₀ ≤ w2.heap.size := Nat.le_trans hz1 hb2.size
    have hlen : pre.length < (theToks s).length := by rw [unhide hT2]; simp
    obtain ⟨fn, tmps, assign, body, hy, hR⟩ := unhide HY pre ⟨k, t, a⟩ _ (unhide hJ2) hlen
    have HR := hide hR
    simp only [tokAgg] at hy
    clear hR hb2 hB1 hJ1 hBe1
    gi_wp2
    refine (unhide HR).mono ?_
    rintro e w3 (⟨rfl, hJ3, hk3⟩ | ⟨rfl, hJx3⟩)
    · have hBk : Blk w3 w2.heap.size [.int .i64 k, .string ⟨t.toArray⟩, .int .i64 a] 135 := hk3.2.2 _ _ (heap_alloc_new w2 _) rfl
      have c0 := hBk.cell 0
      have c1 := hBk.cell 1
      simp at c0 c1
      have hB3 : w3.cell? ⟨Bn, 0, none⟩ = some (.string s) := (World.cell?_of_block (a := ⟨Bn, 0, none⟩) hk3.2.1).trans ((((below_alloc w2 (.cells #[.int .i64 k, .string ⟨t.toArray⟩, .int .i64 (a : Int)] 135)).cell (p := ⟨Bn, 0, none⟩) (cell_lt hB2))).trans hB2)
      have hz3 : n₀ ≤ w3.heap.size := by have := hk3.1.size; simp at this; omega
      have hBe3 := hide ((unhide hBe2).trans hk3.1)
      have HJ3 := hide hJ3
      clear hBk hk3 hJ3 hy HR hJ2 hBe2 hB2 hz2
      by_cases hk0 : k = 0
      · have hT3 : Hid (theToks s = pre ++ [⟨k, t, a⟩]) := hide (by have e := unhide hT2; rw [if_pos (by omega)] at e; exact e)
        have hk0' : ((k : Int) == 0) = true := by simp; omega
        have HK := hide hk0
        clear hk0
        gi_wp2
        refine bodyPost_ret (results_none rfl _ _ _) rfl ?_
        exact ⟨⟨_, rfl⟩, .inl ⟨_, (unhide hT3).symm, unhide HJ3⟩⟩
      · have hk0' : ((k : Int) == 0) = false := by simp; omega
        by_cases hk1 : k = 1
        · have hT3 : Hid (theToks s = pre ++ [⟨k, t, a⟩]) := hide (by have e := unhide hT2; rw [if_pos (by omega)] at e; exact e)
          have hk1' : ((k : Int) == 1) = true := by simp; omega
          clear hk0 hk1
          gi_wp2
          refine bodyPost_ret (results_none rfl _ _ _) rfl ?_
          exact ⟨⟨_, rfl⟩, .inl ⟨_, (unhide hT3).symm, unhide HJ3⟩⟩
        · have hk1' : ((k : Int) == 1) = false := by simp; omega
          have hT3 : Hid (theToks s = (pre ++ [⟨k, t, a⟩]) ++ Th.toks f (s.data.toList.drop (a + t.length)) (a + t.length)) := hide (by have e := unhide hT2; rw [if_neg (by omega)] at e; rw [e]; simp)
          have hp1 := unhide hpos (by omega)
          clear hk0 hk1
          gi_wp2
          go_roundw
          case rel =>
            cases f with
            | zero => omega
            | succ f =>
              refine ⟨pre ++ [⟨k, t, a⟩], a + t.length, f, ?_, by omega, by omega, hT3, hB3, hz3, hBe3, HJ3⟩
              first | rfl | (congr 1; simp; omega) | go_num
          case measure =>
            simp [intOf]
            omega
    · have HJx := hide hJx3
      clear hJx3 hy HR hJ2 hBe2 hB2
      gi_wp2
      refine bodyPost_ret (results_none rfl _ _ _) rfl ?_
      refine ⟨⟨_, rfl⟩, .inr ⟨pre ++ [⟨k, t, a⟩], ?_, unhide HJx⟩⟩
      rw [unhide hT2]
      exact ⟨_, by simp; rfl⟩

end Go.Proofs.YtgahgkddaljmkaaGreatDoor

namespace Go.Proofs.YtgahgkddaljmkaaGreatDoor
open Go.RowKit Go.Shelf
attribute [local go_sem] Oper.semAt_some

theorem infoTok : (Tryz.prog.info? 135).map (fun i => (i.zero, i.size, i.bytes)) = some (some (.agg #[.int .i64 0, .string ⟨#[]⟩, .int .i64 0]), 3, 32) := by kernel_rfl

/-- An append of one token: the variables that hold one token are as they were. -/
theorem append_tok {P : Program} (w : World) (base : Nat) (t ty e : TypeId) (i : TypeInfo) (z : Value) (bytes : Nat) (ht : P.underlying t = some (.slice e)) (hi : P.info? e = some i) (hz : i.zero = some z)
    (hsize : i.size = 3) (hby : i.bytes = bytes) (hzs : z.cells.size = 3) (v : Value) (n : Nat) (xs : List Value) (hown : w.ownsRow base e 3 v n xs) (hnil : v = .slice none 0 0 ∨ 1 ≤ n)
    (a : Addr) (c : Nat) (news : List Value) (hl : news.length = 1 * 3) (hnews : ∀ j u, news[j]? = some u → w.cell? (a.add j) = some u) (h1 : ∀ u ∈ news, u.oneCell' = true)
    (h63 : n + 1 ≤ maxLen) (hbytes : (n + 1) * bytes ≤ 140737488355328) (hbase : base ≤ w.heap.size) :
    ∃ v' w', (Builtin.append_ #[t, t] ty #[v, .slice (some a) 1 c]).run P w = .ok v' w' ∧ w'.ownsRow base e 3 v' (n + 1) (xs ++ news) ∧ w.grownBy w' v.ownBlock ∧ (v' = .slice none 0 0 ↔ v = .slice none 0 0 ∧ 1 = 0) ∧
      (∀ (b : Nat) (cs : Array Value), w.heap[b]? = some (.cells cs e (0, 0)) → cs.size = 3 → w'.heap[b]? = some (.cells cs e (0, 0))) := by
  obtain ⟨v', w', hr, h2, h3, h4⟩ := run_append_own (P := P) w base t ty e i z 3 bytes ht hi hz hsize hby hzs (by omega) v n xs hown a 1 c news hl hnews h1 h63 hbytes hbase
  refine ⟨v', w', hr, h2, h3, h4, fun b cs hb hcs => ?_⟩
  have hlt : b < w.heap.size := (Array.getElem?_eq_some_iff.1 hb).1
  by_cases hv : some b = v.ownBlock
  · rcases hown.2 with ⟨rfl, _⟩ | ⟨g, cap, cur, rfl, hbg, hg, hnc, hcm, hcur, htake⟩
    · simp [Value.ownBlock] at hv
    · simp only [Value.ownBlock, Option.some.injEq] at hv
      subst hv
      rw [hg] at hb
      simp only [Option.some.injEq, Obj.cells.injEq] at hb
      have hcap : cap = 1 := by rw [← hb.1, hcur] at hcs; omega
      rcases hnil with hnil | hnil
      · cases hnil
      · have holds : ∀ j u, xs[j]? = some u → w.cell? ((⟨b, 0, none⟩ : Addr).add j) = some u := hown.cells (g := b) rfl
        have hr2 := run_append_grow (P := P) w t ty e i z ht hi hz ⟨b, 0, none⟩ n cap xs (by rw [hsize]; exact hown.1) holds a 1 c news (by rw [hsize]; exact hl) hnews (by omega) (by unfold maxLen at h63; omega) (growslice_fits (by omega) (by rw [hby]; exact hbytes))
        rw [hr2] at hr
        simp only [Result.ok.injEq] at hr
        rw [← hr.2]
        exact (Below.heap_alloc w.drew _ b hlt).trans (by rw [← hb.1]; exact hg)
  · rw [h3.block b hlt hv]
    exact hb

theorem wpListIn_append_tok {F : Fence} {nF : Nat} {P : Program} (w : World) {ops : Array Oper} {rest : List Oper} {o : Oper} {a : Act} {Q : Exit → Act → World → Prop} (hgd : o.guard = none) (s x : Operand) (t : TypeId)
    (ho : o.op = .call { callee := .builtin .append, args := #[s, x], argTypes := #[t, t] })
    (base : Nat) (e : TypeId) (i : TypeInfo) (z : Value) (bytes : Nat) (ht : P.underlying t = some (.slice e)) (hi : P.info? e = some i) (hz : i.zero = some z)
    (hsize : i.size = 3) (hby : i.bytes = bytes) (hzs : z.cells.size = 3) (v : Value) (n : Nat) (xs : List Value) (hs : a.eval s = v) (hown : w.ownsRow base e 3 v n xs) (hnil : v = .slice none 0 0 ∨ 1 ≤ n)
    (ad : Addr) (c : Nat) (news : List Value) (hx : a.eval x = .slice (some ad) 1 c) (hl : news.length = 1 * 3) (hnews : ∀ j u, news[j]? = some u → w.cell? (ad.add j) = some u) (h1 : ∀ u ∈ news, u.oneCell' = true)
    (h63 : n + 1 ≤ maxLen) (hbytes : (n + 1) * bytes ≤ 140737488355328) (hbase : base ≤ w.heap.size)
    (h : ∀ v' w', w'.ownsRow base e 3 v' (n + 1) (xs ++ news) → w.grownBy w' v.ownBlock →
      (∀ (b : Nat) (cs : Array Value), w.heap[b]? = some (.cells cs e (0, 0)) → cs.size = 3 → w'.heap[b]? = some (.cells cs e (0, 0))) → wpListIn F nF P ops Q rest (a.put o.dst v') w') :
    wpListIn F nF P ops Q (o :: rest) a w := by
  refine wpListIn_plain hgd fun K hK => ?_
  obtain ⟨v', w', hr, h2, h3, h4, h5⟩ := append_tok (P := P) w base t o.type e i z bytes ht hi hz hsize hby hzs v n xs hown hnil ad c news hl hnews h1 h63 hbytes hbase
  unfold Oper.wpIn
  refine ⟨by simp [Oper.about, ho, resolve, Target.leads, Sem.run_pure], ?_⟩
  rw [Oper.semAt_plain F _ _ (by rw [ho]; intro c hc'; cases hc')]
  simp [execOp, ho, resolve, invoke, builtin, hs, hx, hr, Result.andThen]
  exact hK _ _ (h v' w' h2 h3 h5)

theorem kp3_t {n₀ Bn : Nat} {A B C : World} (h : Kp3 n₀ Bn A B) (k : Kp3 n₀ Bn B C) : Kp3 n₀ Bn A C := ⟨h.1.trans k.1, k.2.1.trans h.2.1, fun b cs hb hc => k.2.2 b cs (h.2.2 b cs hb hc) hc⟩
theorem kp3_b {n₀ Bn : Nat} {w : World} (hn : n₀ ≤ w.heap.size) (hB : Bn < w.heap.size) (W : World) (l : Nat) (o o' : Obj) (hl : w.heap.size ≤ l) (h : W.heap[l]? = some o) (hc : o.isCells = false) (hw : o.isWalk = false) : Kp3 n₀ Bn W (W.putObj l o') := by
  refine ⟨belowK_b hn W l o o' hl h hc hw, World.putObj_heap_other (by omega), fun b cs hb _ => ?_⟩
  have hne : b ≠ l := by
    intro e
    subst e
    rw [h] at hb
    cases hb
    cases hc
  rw [World.putObj_heap_other hne]
  exact hb
theorem kp3_alloc {n₀ Bn : Nat} (W : World) (hn : n₀ ≤ W.heap.size) (hB : Bn < W.heap.size) (o : Obj) : Kp3 n₀ Bn W (W.alloc o) :=
  ⟨(Below.refl n₀ W).alloc hn o, Below.heap_alloc _ _ _ hB, fun b cs hb _ => by rw [Below.heap_alloc _ _ _ (Array.getElem?_eq_some_iff.1 hb).1]; exact hb⟩

theorem Blk.own (Bx : Nat) (vs : List Value) (t : TypeId) {X Y : World} {row : Option Nat} (h : Blk X Bx vs t) (hg : X.grownBy Y row) (hr : ∀ r, row = some r → ∃ o : Obj, X.heap[r]? = some o ∧ o.isCells = false) : Blk Y Bx vs t := by
  refine h.grown hg (fun e => ?_)
  obtain ⟨o, ho, hc⟩ := hr Bx e.symm
  unfold Blk at h
  rw [h] at ho
  cases ho
  cases hc

theorem toksCells_snoc (l : List Th.Tok) (t : Th.Tok) : toksCells (l ++ [t]) = toksCells l ++ tokCells t := by simp [toksCells]
theorem tok_one (t : Th.Tok) : ∀ u ∈ tokCells t, u.oneCell' = true := by
  intro u hu
  simp only [tokCells, List.mem_cons, List.not_mem_nil, or_false] at hu
  rcases hu with rfl | rfl | rfl <;> rfl

/-- The iterator's maker: the source is boxed; the function value captures the box. -/
theorem tokens_in (n : Nat) (s : ByteArray) (w : World) :
    CallsIn Fence.wide n Tryz.prog 114 #[.string s] w fun e w' => e = .returned (.func (.func 187) #[] #[.pointer (some ⟨w.heap.size, 0, none⟩)]) ∧ w' = w.alloc (.cells #[.string s] 9) := by
  refine callsIn_of_wp Tryz.func114 rfl trivial ?_ rfl
  simp only [Tryz.ntmps114, List.size_toArray, List.length_cons, List.length_nil, Nat.reduceAdd, Nat.reduceSub, Array.replicate_succ, Array.replicate_zero, List.push_toArray, List.append_toArray, List.nil_append, List.cons_append]
  gi_wp2
  go_ret
  exact ⟨rfl, rfl⟩

theorem toks_len : ∀ (f : Nat) (t : List UInt8) (p : Nat), (Th.toks f t p).length ≤ f + 1
  | 0, _, _ => by simp [Th.toks]
  | f + 1, t, p => by
    rw [toks_succ]
    simp only [List.length_cons]
    split
    · simp
    · have := toks_len f ((t.drop (t.takeWhile Th.isBl).length).drop (Th.first (t.drop (t.takeWhile Th.isBl).length)).2.length) (p + (t.takeWhile Th.isBl).length + (Th.first (t.drop (t.takeWhile Th.isBl).length)).2.length)
      omega

set_option maxRecDepth 100000 in
set_option maxHeartbeats 4000000 in
theorem collect_in (s : ByteArray) (w : World) (hs : s.size ≤ 600) :
    CallsIn Fence.wide 5 Tryz.prog 66 #[.string s] w fun e w' => ∃ v, e = .returned v ∧ w'.ownsRow w.heap.size 135 3 v (theToks s).length (toksCells (theToks s)) ∧ Below w.heap.size w w' := by
  have hTl : (theToks s).length ≤ 602 := by have := toks_len (s.size + 1) s.data.toList 0; unfold theToks; omega
  obtain ⟨i0, hi, hz0, hz1, hz2⟩ := info_parts infoTok
  have HI := hide hi; clear hi
  have HZ := hide (And.intro hz0 (And.intro hz1 hz2)); clear hz0 hz1 hz2
  refine callsIn_of_wp_marks Tryz.func66 rfl trivial ?_ rfl
  simp only [Tryz.ntmps66, List.size_toArray, List.length_cons, List.length_nil, Nat.reduceAdd, Nat.reduceSub, Array.replicate_succ, Array.replicate_zero, List.push_toArray, List.append_toArray, List.nil_append, List.cons_append]
  gi_wp2
  refine ⟨trivial, ?_⟩
  refine (tokens_in 4 s _).mono ?_
  rintro e w1 ⟨rfl, rfl⟩
  gi_wp2
  have bO := Boxed.new w 129 (.slice none 0 0)
  have bN := Boxed.new (w.alloc (.cells #[.slice none 0 0] 129)) 9 (.string s)
  simp only [World.size_alloc] at bN ⊢
  have hB0 : Below w.heap.size w ((w.alloc (.cells #[.slice none 0 0] 129)).alloc (.cells #[.string s] 9)) := ((Below.refl _ w).alloc (Nat.le_refl _) _).alloc (by simp) _
  have bO2 := bO.alloc (.cells #[.string s] 9)
  have hsz : ((w.alloc (.cells #[.slice none 0 0] 129)).alloc (.cells #[.string s] 9)).heap.size = w.heap.size + 2 := by simp
  obtain ⟨W0, hW0⟩ : ∃ W0, (w.alloc (.cells #[.slice none 0 0] 129)).alloc (.cells #[.string s] 9) = W0 := ⟨_, rfl⟩
  rw [hW0] at bO2 bN hB0 hsz ⊢
  clear hW0 bO
  refine wpIn_rangeFunc_ownH rfl (by omega) (gf := 187) (lb := #[.pointer (some ⟨w.heap.size + 1, 0, none⟩)]) rfl trivial (enters_of Tryz.func187 (by kernel_rfl) rfl)
    (encs := fun x : Th.Tok => #[tokAgg x]) (Kp := Kp3 w.heap.size (w.heap.size + 1)) (S := fun ys => ys = theToks s) (Sp := fun pre => pre <+: theToks s) (N := (theToks s).length) (w0 := W0)
    (fun l J Jx W hW hJ hJx hY h0 => tokens1_in _ (by omega) l (w.heap.size + 1) w.heap.size s hs J Jx hY W (by have := hW.size; omega) hJ ((hW.cell (p := ⟨w.heap.size + 1, 0, none⟩) (by simp; omega)).trans bN.cell) h0)
    kp3_t (kp3_b (by omega) (by omega)) (Below.refl _ _) (fun _ => rfl)
    (fun pre W => (∃ v, Boxed W w.heap.size 129 v ∧ W.ownsRow w.heap.size 135 3 v pre.length (toksCells pre) ∧ (v = .slice none 0 0 ↔ pre = [])) ∧ (Below w.heap.size w W ∧ Boxed W (w.heap.size + 1) 9 (.string s)))
    (fun _ _ _ => False)
    (OwnFrom.and (Own.from (holdsRow_own w.heap.size w.heap.size 129 135 3 (fun pre : List Th.Tok => pre.length) (fun pre => toksCells pre) (fun pre v => v = .slice none 0 0 ↔ pre = [])) _) (OwnFrom.and (ownFrom_below (Nat.le_refl _) (by omega)) (Own.from (boxed_own _ _ _) _)))
    (fun _ _ _ _ _ hs _ _ => hs)
    ⟨⟨_, bO2, World.ownsRow_nil _ _ _ _, by simp⟩, hB0, bN⟩
    (fun x a' W => ∃ Bx, w.heap.size + 1 < Bx ∧ Blk W Bx (tokCells x) 135 ∧ a' = { tmps := #[.string s, undef, .slice none 0 0, .pointer (some ⟨w.heap.size, 0, none⟩), .pointer (some ⟨Bx, 0, none⟩), .string s, .func (.func 187) #[] #[.pointer (some ⟨w.heap.size + 1, 0, none⟩)], tokAgg x, undef, undef, undef, undef, undef], defers := [] })
    (fun x a' _ X Y row hs hg hr => by obtain ⟨Bx, h1, h2, h3⟩ := hs; exact ⟨Bx, h1, h2.own _ _ _ hg (fun r e => (hr r e).2), h3⟩)
    ?assign ?body ?done ?stop
  case assign =>
    rintro l pre x W K ⟨⟨v, hv, hrow, hnil⟩, ⟨hB1, hW1⟩⟩ hK
    unfold tokAgg at *
    gi_wp2
    exact hK _ _ ((KeepsOthers.alloc _ _).from _) (kp3_alloc W hB1.size hW1.lt _) ⟨⟨v, hv.alloc _, hrow.alloc _, hnil⟩, hB1.alloc hB1.size _, hW1.alloc _⟩ ⟨W.heap.size, hW1.lt, Blk.new W _ _, rfl⟩
  case body =>
    rintro l pre x a' W hl ⟨r, hr⟩ ⟨⟨v, hv, hrow, hnil⟩, ⟨hB1, hW1⟩⟩ ⟨Bx, hBx, bX, rfl⟩ hlt
    have hc := hv.cell
    have x0 := bX.cell 0
    have x1 := bX.cell 1
    have x2 := bX.cell 2
    simp [tokCells] at x0 x1 x2
    have hpl : pre.length ≤ 602 := by omega
    have hn1 : v = .slice none 0 0 ∨ 1 ≤ pre.length := by
      by_cases he : pre = []
      · exact .inl (hnil.2 he)
      · exact .inr (List.length_pos_iff.2 he)
    gi_wp2_with (gi_at_builtin; refine wpListIn_append_tok _ rfl _ _ 129 rfl w.heap.size 135 i0 _ 32 Tryz.underlying129 (unhide HI) (unhide HZ).1 (unhide HZ).2.1 (unhide HZ).2.2 rfl _ pre.length (toksCells pre) rfl (hrow.alloc _) hn1 ⟨W.heap.size, 0, none⟩ 1 (tokCells x) rfl rfl (World.news_of_block (cs := #[.int .i64 x.k, .string ⟨x.s.toArray⟩, .int .i64 x.at_]) (t := 135) (fr := (0, 0)) (heap_alloc_new W _)) (tok_one x) (by unfold maxLen; omega) (by omega) (by have := hB1.size; simp; omega) ?_; intro v' w1 hown' hgrow h5; obtain ⟨g', cap', rfl⟩ := ownsRow_succ hown'; obtain ⟨hv1, hv2, hr2, hk2, hb2⟩ := hv.appended (by decide) hrow hB1.size (Nat.le_refl _) hown' hgrow; have hc1 := hv1.cell; have hf1 := hv1.frozen)
    refine ⟨hk2.from _, ⟨hb2, ?_, ?_⟩, ⟨_, hv2, ?_, ?_⟩, hB1.trans hb2, ?_⟩
    · rw [Below.heap_setCell _ _ _ _ (by simp), hgrow.block _ (by simp; have := hW1.lt; omega) (hW1.not_row (by decide) hrow), Below.heap_alloc _ _ _ hW1.lt]
    · intro b cs hb hcs
      have hne : b ≠ w.heap.size := by
        intro e
        subst e
        rw [show W.heap[w.heap.size]? = _ from hv] at hb
        cases hb
      rw [Below.heap_setCell _ _ _ _ hne]
      exact h5 b cs (by rw [Below.heap_alloc _ _ _ (Array.getElem?_eq_some_iff.1 hb).1]; exact hb) hcs
    · rw [toksCells_snoc, List.length_append]
      exact hr2
    · simp
    · exact ((hW1.alloc _).kept hgrow (hW1.not_row (by decide) hrow)).other (by omega) _
  case done =>
    rintro D ys W hD rfl ⟨⟨v, hv, hrow, hnil⟩, ⟨hB, _⟩⟩ hK
    have hc := hv.cell
    gi_wp2
    refine ⟨by simp, .inl ⟨_, _, rfl, run_takeDeferred hK, ?_⟩⟩
    exact ⟨_, results_tmp rfl _ _ _, v, rfl, ownsRow_putObj hrow _ hK rfl, hB.trans (belowK_b (w := w) (Nat.le_refl _) W D _ _ (by omega) hK rfl rfl)⟩
  case stop =>
    rintro D c pre W _ _ h _
    exact h.elim

/-- collect does what it is to do. -/
theorem collect_ok : CollectOK := fun s w hs => callsIn_wide.1 (collect_in s w hs)

end Go.Proofs.YtgahgkddaljmkaaGreatDoor
