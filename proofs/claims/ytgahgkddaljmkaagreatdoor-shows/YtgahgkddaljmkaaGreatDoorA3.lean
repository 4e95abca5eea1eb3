/- The reader of package parse: its state in memory, and what its small methods do. The reader of package parse: a name, names, a number. The reader of package parse: as many names as stand there. The reader of package parse: a number within bounds, a tag. The reader of package parse: what may follow; a maker. How a tree of package tree lies in memory, and what leaves it as it is; an append that tells where its row lies. -/
import Derived.Test.YtgahgkddaljmkaaGreatDoorA2
import Derived.Test.YtgahgkddaljmkaaGreatDoorA1
import Derived.RegionTactic
import Derived.BigRegion
import Derived.ChangeAlike
import Derived.Deep.LoopGhost
import Derived.Deep.QuietTactic
import Derived.BigQuiet
namespace Go.Proofs.YtgahgkddaljmkaaGreatDoor
open Go.RowKit

attribute [local go_sem] fld_tok0 fld_tok1 fld_tok2

/-- The tokens of a list, three cells each, from the head of a block on. -/
def ToksAt (w : World) (tb : Nat) (T : List Th.Tok) : Prop :=
  ∀ i t, T[i]? = some t → w.cell? ⟨tb, i * 3, none⟩ = some (.int .i64 t.k) ∧ w.cell? ⟨tb, i * 3 + 1, none⟩ = some (.string ⟨t.s.toArray⟩) ∧ w.cell? ⟨tb, i * 3 + 2, none⟩ = some (.int .i64 t.at_)

/-- What is known of the tokens themselves. -/
structure Good (T : List Th.Tok) : Prop where
  len : T.length ≤ 100000
  last : ∀ i t, T[i]? = some t → (t.k ≤ 1 ↔ i + 1 = T.length)
  text : ∀ t ∈ T, (t.k ≤ 1 → t.s = []) ∧ (2 ≤ t.k → t.s ≠ []) ∧ t.k ≤ 4 ∧ t.at_ ≤ 100000 ∧ t.s.length ≤ 100000
  num : ∀ t ∈ T, t.k = 3 → t.s.length ≤ 9 ∧ ∀ c ∈ t.s, Th.isDig c = true

/-- The reader in block r: at token n; f: it has failed, at the place p. -/
structure RI (w : World) (r tb cap : Nat) (T : List Th.Tok) (n : Nat) (f : Bool) (p : Nat) : Prop where
  blk : Blk w r [.slice (some ⟨tb, 0, none⟩) T.length cap, .int .i64 n, .bool f, .int .i64 p] 132
  toks : ToksAt w tb T
  ne : tb ≠ r
  lt : n < T.length
  good : Good T
  end_ : f = true → n + 1 = T.length
  cap_ : T.length ≤ cap

def absSt (T : List Th.Tok) (n : Nat) (f : Bool) (p : Nat) : Th.St := if f then ⟨[], some p⟩ else ⟨T.drop n, none⟩

set_option maxHeartbeats 400000 in
theorem token_raw {w : World} {r tb cap : Nat} {T : List Th.Tok} {n : Nat} {t : Th.Tok} (c0 : w.cell? ⟨r, 0, none⟩ = some (.slice (some ⟨tb, 0, none⟩) T.length cap)) (c1 : w.cell? ⟨r, 1, none⟩ = some (.int .i64 n))
    (hk : ToksAt w tb T) (hn : n < T.length) (_hg : T.length ≤ 100000) (ht : T[n]? = some t) :
    Calls Tryz.prog 67 #[.pointer (some ⟨r, 0, none⟩)] w fun e w' => e = .returned (.agg #[.int .i64 t.k, .string ⟨t.s.toArray⟩, .int .i64 t.at_]) ∧ Below w.heap.size w w' := by
  have hl := cell_lt c0
  obtain ⟨d0, d1, d2⟩ := hk n t ht
  have hb := cell_lt d0
  clear hk ht
  go_enter Tryz.func67, Tryz.ntmps67
  go_wp2_with fail
  go_region
  go_wp2_with fail
  go_returns
  exact ⟨rfl, (below_alloc _ _).drew⟩

theorem token_any {w : World} {r tb cap : Nat} {T : List Th.Tok} {n : Nat} {f : Bool} {p : Nat} (h : RI w r tb cap T n f p) {t : Th.Tok} (ht : T[n]? = some t) :
    Calls Tryz.prog 67 #[.pointer (some ⟨r, 0, none⟩)] w fun e w' => e = .returned (.agg #[.int .i64 t.k, .string ⟨t.s.toArray⟩, .int .i64 t.at_]) ∧ Below w.heap.size w w' :=
  token_raw (cap := cap) (by simpa using h.blk.cell 0) (by simpa using h.blk.cell 1) h.toks h.lt h.good.len ht

theorem ToksAt.gb {w w' : World} {tb : Nat} {T : List Th.Tok} (h : ToksAt w tb T) {row : Option Nat} (hg : w.grownBy w' row) (hr : some tb ≠ row) : ToksAt w' tb T :=
  fun i t ht => ⟨cell_gb hg (h i t ht).1 hr, cell_gb hg (h i t ht).2.1 hr, cell_gb hg (h i t ht).2.2 hr⟩

theorem RI.gb {w w' : World} {r tb cap : Nat} {T : List Th.Tok} {n : Nat} {f : Bool} {p : Nat} (h : RI w r tb cap T n f p) {row : Option Nat} (hg : w.grownBy w' row) (hr : some r ≠ row) (ht : some tb ≠ row) : RI w' r tb cap T n f p :=
  ⟨h.blk.grown hg hr, h.toks.gb hg ht, h.ne, h.lt, h.good, h.end_, h.cap_⟩
theorem RI.below {w w' : World} {r tb cap : Nat} {T : List Th.Tok} {n : Nat} {f : Bool} {p : Nat} (h : RI w r tb cap T n f p) (hb : Below w.heap.size w w') : RI w' r tb cap T n f p :=
  h.gb (gb_below none hb) (by simp) (by simp)

/-- The reader in block r stands for a state of the grammar. -/
def RS (w : World) (r tb : Nat) (T : List Th.Tok) (st : Th.St) : Prop := ∃ cap n f p, RI w r tb cap T n f p ∧ st = absSt T n f p

theorem RS.below {w w' : World} {r tb : Nat} {T : List Th.Tok} {st : Th.St} (h : RS w r tb T st) (hb : Below w.heap.size w w') : RS w' r tb T st := by
  obtain ⟨cap, n, f, p, h, e⟩ := h
  exact ⟨cap, n, f, p, h.below hb, e⟩
theorem RS.gb {w w' : World} {r tb : Nat} {T : List Th.Tok} {st : Th.St} (h : RS w r tb T st) {row : Option Nat} (hg : w.grownBy w' row) (hr : some r ≠ row) (ht : some tb ≠ row) : RS w' r tb T st := by
  obtain ⟨cap, n, f, p, h, e⟩ := h
  exact ⟨cap, n, f, p, h.gb hg hr ht, e⟩
theorem RS.tlt {w : World} {r tb : Nat} {T : List Th.Tok} {st : Th.St} (h : RS w r tb T st) : tb < w.heap.size := by
  obtain ⟨cap, n, f, p, h, e⟩ := h
  exact cell_lt (h.toks n (T[n]'h.lt) (List.getElem?_eq_getElem h.lt)).1
theorem RS.ne {w : World} {r tb : Nat} {T : List Th.Tok} {st : Th.St} (h : RS w r tb T st) : tb ≠ r := by
  obtain ⟨cap, n, f, p, h, e⟩ := h
  exact h.ne
/-- A store into a block that is neither the reader's nor the tokens'. -/
theorem RS.set {w : World} {r tb : Nat} {T : List Th.Tok} {st : Th.St} (h : RS w r tb T st) (b o : Nat) (v : Value) (hr : r ≠ b) (ht : tb ≠ b) : RS (w.setCell ⟨b, o, none⟩ v) r tb T st :=
  h.gb (gb_set w b o v) (by simp; exact hr) (by simp; exact ht)
theorem RS.alloc {w : World} {r tb : Nat} {T : List Th.Tok} {st : Th.St} (h : RS w r tb T st) (o : Obj) : RS (w.alloc o) r tb T st := h.below (below_alloc w o)
theorem RS.good {w : World} {r tb : Nat} {T : List Th.Tok} {st : Th.St} (h : RS w r tb T st) : Good T := by
  obtain ⟨cap, n, f, p, h, e⟩ := h
  exact h.good
theorem RS.lt {w : World} {r tb : Nat} {T : List Th.Tok} {st : Th.St} (h : RS w r tb T st) : r < w.heap.size := by
  obtain ⟨cap, n, f, p, h, e⟩ := h
  exact h.blk.lt

theorem RI.tok {w : World} {r tb cap : Nat} {T : List Th.Tok} {n : Nat} {f : Bool} {p : Nat} (h : RI w r tb cap T n f p) : ∃ t, T[n]? = some t :=
  ⟨T[n]'h.lt, List.getElem?_eq_getElem h.lt⟩

theorem hd_drop {T : List Th.Tok} {n : Nat} {t : Th.Tok} (h : T[n]? = some t) : (T.drop n).headD Th.tok0 = t := by
  rw [List.headD_eq_head?_getD, List.head?_drop, h]; rfl

theorem abs_is {w : World} {r tb cap : Nat} {T : List Th.Tok} {n : Nat} {f : Bool} {p : Nat} (h : RI w r tb cap T n f p) {t : Th.Tok} (ht : T[n]? = some t) (x : List UInt8) (hx : x ≠ []) :
    (absSt T n f p).is x = (t.s == x) := by
  cases f with
  | false => simp [absSt, Th.St.is, Th.St.hd, ht]
  | true =>
    have e := h.end_ rfl
    have hk := (h.good.last n t ht).2 e
    have hs := (h.good.text t (List.mem_of_getElem? ht)).1 hk
    rw [hs]
    simp [absSt, Th.St.is]
    exact hx

theorem abs_kind {w : World} {r tb cap : Nat} {T : List Th.Tok} {n : Nat} {f : Bool} {p : Nat} (h : RI w r tb cap T n f p) {t : Th.Tok} (ht : T[n]? = some t) (k : Nat) (hk : 2 ≤ k) :
    (absSt T n f p).kind k = (t.k == k) := by
  cases f with
  | false => simp [absSt, Th.St.kind, Th.St.hd, ht]
  | true =>
    have e := h.end_ rfl
    have h1 := (h.good.last n t ht).2 e
    simp [absSt, Th.St.kind]
    omega

theorem RI.fail {w w' : World} {r tb cap : Nat} {T : List Th.Tok} {n : Nat} {p : Nat} (h : RI w r tb cap T n false p) {t : Th.Tok} (ht : T[n]? = some t)
    (hb : Blk w' r [.slice (some ⟨tb, 0, none⟩) T.length cap, .int .i64 (T.length - 1 : Nat), .bool true, .int .i64 t.at_] 132) (hg : w.grownBy w' (some r)) : RS w' r tb T (absSt T n false p).fail := by
  have hl := h.lt
  refine ⟨cap, T.length - 1, true, t.at_, ⟨hb, h.toks.gb hg (by simp; exact h.ne), h.ne, by omega, h.good, fun _ => by omega, h.cap_⟩, ?_⟩
  simp [absSt, Th.St.fail, Th.St.hd, ht]
theorem RI.failed {w w' : World} {r tb cap : Nat} {T : List Th.Tok} {n : Nat} {p : Nat} (h : RI w r tb cap T n true p)
    (hb : Blk w' r [.slice (some ⟨tb, 0, none⟩) T.length cap, .int .i64 (T.length - 1 : Nat), .bool true, .int .i64 p] 132) (hg : w.grownBy w' (some r)) : RS w' r tb T (absSt T n true p).fail := by
  have hl := h.lt
  refine ⟨cap, T.length - 1, true, p, ⟨hb, h.toks.gb hg (by simp; exact h.ne), h.ne, by omega, h.good, fun _ => by omega, h.cap_⟩, ?_⟩
  simp [absSt, Th.St.fail]
theorem RI.adv {w w' : World} {r tb cap : Nat} {T : List Th.Tok} {n : Nat} {f : Bool} {p : Nat} (h : RI w r tb cap T n f p) {t : Th.Tok} (ht : T[n]? = some t) (hk : 2 ≤ t.k)
    (hb : Blk w' r [.slice (some ⟨tb, 0, none⟩) T.length cap, .int .i64 (n + 1 : Nat), .bool f, .int .i64 p] 132) (hg : w.grownBy w' (some r)) : RS w' r tb T (absSt T n f p).adv := by
  have hl := h.lt
  have h1 := h.good.last n t ht
  have h2 : ¬ (n + 1 = T.length) := fun e => by have := h1.2 e; omega
  cases f with
  | true => exact absurd (h.end_ rfl) h2
  | false =>
    refine ⟨cap, n + 1, false, p, ⟨hb, h.toks.gb hg (by simp; exact h.ne), h.ne, by omega, h.good, (fun e => by cases e), h.cap_⟩, ?_⟩
    simp [absSt, Th.St.adv]

set_option maxRecDepth 100000 in
set_option maxHeartbeats 400000 in
theorem is_any {w : World} {r tb : Nat} {T : List Th.Tok} {st : Th.St} (h : RS w r tb T st) (x : ByteArray) (hx : x.data.toList ≠ []) :
    Calls Tryz.prog 248 #[.pointer (some ⟨r, 0, none⟩), .string x] w fun e w' => e = .returned (.bool (st.is x.data.toList)) ∧ Below w.heap.size w w' := by
  obtain ⟨cap, n, f, p, h, rfl⟩ := h
  obtain ⟨t, ht⟩ := h.tok
  have H : Hid (_ = _) := hide (abs_is h ht x.data.toList hx)
  go_enter Tryz.func248, Tryz.ntmps248
  go_wp2_with fail
  refine (token_any h ht).mono ?_
  rintro e w1 ⟨rfl, hb⟩
  clear h ht hx
  go_wp2_with fail
  go_ret
  refine ⟨?_, hb⟩
  rw [unhide H, ← ByteArray.toList_eq]
  rfl

set_option maxRecDepth 100000 in
set_option maxHeartbeats 1000000 in
theorem fail_any {w : World} {r tb : Nat} {T : List Th.Tok} {st : Th.St} (h : RS w r tb T st) :
    Calls Tryz.prog 191 #[.pointer (some ⟨r, 0, none⟩)] w fun e w' => e = .returned (.tuple #[]) ∧ RS w' r tb T st.fail ∧ w.grownBy w' (some r) := by
  obtain ⟨cap, n, f, p, h, rfl⟩ := h
  obtain ⟨t, ht⟩ := h.tok
  have hl := h.lt
  have hg := h.good.len
  have H := hide h
  cases f with
  | true =>
    have B := h.blk
    have c0 := B.cell 0
    have c1 := B.cell 1
    have c2 := B.cell 2
    have c3 := B.cell 3
    have f1 := B.frozen 1
    have BB := hide B
    simp at c0 c1 c2 c3
    clear h ht B
    go_enter Tryz.func191, Tryz.ntmps191
    go_wp2_with fail
    go_end0
    rw [show ((T.length : Int) - 1) = ((T.length - 1 : Nat) : Int) by omega]
    have B2 := (unhide BB).set 1 (.int .i64 ((T.length - 1 : Nat) : Int))
    exact ⟨rfl, (unhide H).failed B2 (gb_set _ _ _ _), gb_set _ _ _ _⟩
  | false =>
    have B := h.blk
    have c0 := B.cell 0
    have c1 := B.cell 1
    have c2 := B.cell 2
    have c3 := B.cell 3
    have f2 := B.frozen 2
    have hb := hide B
    have Ht := hide ht
    simp at c0 c1 c2 c3
    clear h ht B
    go_enter Tryz.func191, Tryz.ntmps191
    go_wp2_with fail
    have B1 := (unhide hb).set 2 (.bool true)
    refine (token_raw (cap := cap) (by simpa using B1.cell 0) (by simpa using B1.cell 1) ((unhide H).toks.gb (gb_set _ _ _ _) (by simp; exact (unhide H).ne)) hl hg (unhide Ht)).mono ?_
    rintro e w1 ⟨rfl, hw⟩
    have B2 := B1.below hw B1.lt
    clear c0 c1 c2 c3 f2
    have c0 := B2.cell 0
    have c1 := B2.cell 1
    have c2 := B2.cell 2
    have c3 := B2.cell 3
    have f3 := B2.frozen 3
    have f1 := B2.frozen 1
    simp at c0 c1 c2 c3
    have hB2 := hide B2
    clear B1 B2
    go_wp2_with fail
    go_end0
    rw [show ((T.length : Int) - 1) = ((T.length - 1 : Nat) : Int) by omega]
    have B3 := ((unhide hB2).set 3 (.int .i64 (t.at_ : Int))).set 1 (.int .i64 ((T.length - 1 : Nat) : Int))
    have hG := gb_trans (gb_trans (gb_trans (gb_set w r 2 (.bool true)) (gb_below (some r) hw)) (gb_set _ _ 3 (.int .i64 (t.at_ : Int)))) (gb_set _ _ 1 (.int .i64 ((T.length - 1 : Nat) : Int)))
    exact ⟨rfl, (unhide H).fail (unhide Ht) B3 hG, hG⟩

theorem abs_is_tok {w : World} {r tb cap : Nat} {T : List Th.Tok} {n : Nat} {f : Bool} {p : Nat} (h : RI w r tb cap T n f p) {t : Th.Tok} (ht : T[n]? = some t) (x : List UInt8) (hx : x ≠ [])
    (hi : (absSt T n f p).is x = true) : 2 ≤ t.k := by
  rw [abs_is h ht x hx] at hi
  rcases Nat.lt_or_ge t.k 2 with hk | hk
  · have := (h.good.text t (List.mem_of_getElem? ht)).1 (by omega)
    rw [this] at hi
    simp at hi
    exact absurd hi hx
  · exact hk

/-- What moves the reader on by one token. -/
theorem RI.step {w w1 : World} {r tb cap : Nat} {T : List Th.Tok} {n : Nat} {f : Bool} {p : Nat} (h : RI w r tb cap T n f p) {t : Th.Tok} (ht : T[n]? = some t) (hk : 2 ≤ t.k)
    (hw : Below w.heap.size w w1) : RS (w1.setCell ⟨r, 1, none⟩ (.int .i64 ((n : Int) + 1))) r tb T (absSt T n f p).adv ∧ w.grownBy (w1.setCell ⟨r, 1, none⟩ (.int .i64 ((n : Int) + 1))) (some r) := by
  have hG := gb_trans (gb_below (some r) hw) (gb_set w1 r 1 (.int .i64 ((n : Int) + 1)))
  exact ⟨h.adv ht hk (by have := (h.blk.below hw h.blk.lt).set 1 (.int .i64 ((n : Int) + 1)); simpa using this) hG, hG⟩

set_option maxRecDepth 100000 in
set_option maxHeartbeats 1000000 in
theorem accept_any {w : World} {r tb : Nat} {T : List Th.Tok} {st : Th.St} (h : RS w r tb T st) (x : ByteArray) (hx : x.data.toList ≠ []) :
    Calls Tryz.prog 192 #[.pointer (some ⟨r, 0, none⟩), .string x] w fun e w' => e = .returned (.bool (st.is x.data.toList)) ∧ RS w' r tb T (if st.is x.data.toList then st.adv else st) ∧ w.grownBy w' (some r) := by
  have H := hide h
  cases hi : st.is x.data.toList
  · have Hi := hide hi
    clear hi
    go_enter Tryz.func192, Tryz.ntmps192
    go_wp2_with fail
    refine (is_any h x hx).mono ?_
    rintro e w1 ⟨rfl, hb⟩
    rw [unhide Hi]
    clear h hx
    go_wp2_with fail
    go_ret
    exact ⟨rfl, (unhide H).below hb, gb_below _ hb⟩
  · have Hi := hide hi
    have h0 := h
    obtain ⟨cap, n, f, p, hri, rfl⟩ := h0
    obtain ⟨t, ht⟩ := hri.tok
    have hk := hide (abs_is_tok hri ht _ hx hi)
    have hn := hri.lt
    have hg := hri.good.len
    have HR := hide hri
    have Ht := hide ht
    clear hi hri ht
    go_enter Tryz.func192, Tryz.ntmps192
    go_wp2_with fail
    refine (is_any h x hx).mono ?_
    rintro e w1 ⟨rfl, hb⟩
    rw [unhide Hi]
    have B := (unhide HR).blk.below hb (unhide HR).blk.lt
    have c1 := B.cell 1
    have f1 := B.frozen 1
    simp at c1
    have hS := hide ((unhide HR).step (unhide Ht) (unhide hk) hb)
    clear h hx B
    go_wp2_with fail
    go_ret
    exact ⟨rfl, (unhide hS).1, (unhide hS).2⟩

set_option maxRecDepth 100000 in
set_option maxHeartbeats 1000000 in
theorem expect_any {w : World} {r tb : Nat} {T : List Th.Tok} {st : Th.St} (h : RS w r tb T st) (x : ByteArray) (hx : x.data.toList ≠ []) :
    Calls Tryz.prog 117 #[.pointer (some ⟨r, 0, none⟩), .string x] w fun e w' => e = .returned (.tuple #[]) ∧ RS w' r tb T (Th.want x.data.toList st) ∧ w.grownBy w' (some r) := by
  have H := hide h
  cases hi : st.is x.data.toList
  · have Hi := hide hi
    have Hw : Hid (Th.want x.data.toList st = st.fail) := hide (by simp [Th.want, hi])
    clear hi
    go_enter Tryz.func117, Tryz.ntmps117
    go_wp2_with fail
    refine (accept_any h x hx).mono ?_
    rintro e w1 ⟨rfl, hs, hg⟩
    rw [unhide Hi] at hs ⊢
    have Hs : Hid (RS w1 r tb T st) := hide (by simpa using hs)
    have Hg := hide hg
    clear h hx hs hg
    go_wp2_with fail
    refine (fail_any (unhide Hs)).mono ?_
    rintro e w2 ⟨rfl, hs2, hg2⟩
    have Hs2 := hide hs2
    have Hg2 := hide hg2
    clear hs2 hg2
    go_wp2_with fail
    go_end0
    exact ⟨rfl, by rw [unhide Hw]; exact unhide Hs2, gb_trans (unhide Hg) (unhide Hg2)⟩
  · have Hi := hide hi
    have Hw : Hid (Th.want x.data.toList st = st.adv) := hide (by simp [Th.want, hi])
    clear hi
    go_enter Tryz.func117, Tryz.ntmps117
    go_wp2_with fail
    refine (accept_any h x hx).mono ?_
    rintro e w1 ⟨rfl, hs, hg⟩
    rw [unhide Hi] at hs ⊢
    have Hs : Hid (RS w1 r tb T st.adv) := hide (by simpa using hs)
    have Hg := hide hg
    clear h hx hs hg
    go_wp2_with fail
    go_end0
    exact ⟨rfl, by rw [unhide Hw]; exact unhide Hs, unhide Hg⟩

end Go.Proofs.YtgahgkddaljmkaaGreatDoor

namespace Go.Proofs.YtgahgkddaljmkaaGreatDoor
open Go.RowKit
attribute [local go_sem] fld_tok0 fld_tok1 fld_tok2

set_option maxRecDepth 100000 in
set_option maxHeartbeats 1000000 in
theorem name_any {w : World} {r tb : Nat} {T : List Th.Tok} {st : Th.St} (h : RS w r tb T st) :
    Calls Tryz.prog 115 #[.pointer (some ⟨r, 0, none⟩)] w fun e w' => e = .returned (.agg #[.string ⟨(Th.pname st).1.s.toArray⟩, .int .i64 (Th.pname st).1.at_]) ∧ RS w' r tb T (Th.pname st).2 ∧ w.grownBy w' (some r) := by
  have hrl := h.lt
  have htl := h.tlt
  obtain ⟨cap, n, f, p, hri, rfl⟩ := h
  obtain ⟨t, ht⟩ := hri.tok
  have hn := hri.lt
  have hg := hri.good.len
  have HR := hide hri
  have Ht := hide ht
  have hkd := abs_kind hri ht 2 (by omega)
  have h0 := hri.below (below_alloc w (.cells #[.string ⟨#[]⟩, .int .i64 0] 88))
  cases hk : (t.k == 2)
  · have e : Th.pname (absSt T n f p) = (Th.tok0, (absSt T n f p).fail) := by rw [Th.pname, hkd, hk]; rfl
    rw [e]
    have hk' : ((t.k : Int) == 2) = false := by simp at hk ⊢; omega
    clear hri hkd e hk
    go_enter Tryz.func115, Tryz.ntmps115
    go_wp2_with fail
    refine (token_any h0 ht).mono ?_
    rintro e w1 ⟨rfl, hb⟩
    have h1 := hide (h0.below hb)
    clear h0 ht
    have B := (Blk.new w [.string ⟨#[]⟩, .int .i64 0] 88).below hb (by simp)
    have q0 := B.cell 0
    have q1 := B.cell 1
    have g0 := B.frozen 0
    have g1 := B.frozen 1
    have HB := hide B
    have hr1 := B.lt
    simp at q0 q1
    clear B
    go_wp2_with fail
    have h2 : RS _ r tb T (absSt T n f p) := ⟨cap, n, f, p, (unhide h1).below (below_alloc w1 (.cells #[.int .i64 t.k, .string ⟨t.s.toArray⟩, .int .i64 t.at_] 135)), rfl⟩
    refine (fail_any h2).mono ?_
    rintro e w2 ⟨rfl, hs, hg2⟩
    clear h2
    have B2 := ((unhide HB).alloc (.cells #[.int .i64 t.k, .string ⟨t.s.toArray⟩, .int .i64 t.at_] 135)).grown hg2 (by simp; omega)
    clear q0 q1 g0 g1
    have q0 := B2.cell 0
    have q1 := B2.cell 1
    have g0 := B2.frozen 0
    have g1 := B2.frozen 1
    simp at q0 q1
    have Hs := hide hs
    have HG := hide (gb_trans (gb_trans (gb_trans (gb_alloc w _ (some r)) (gb_below (some r) hb)) (gb_alloc w1 _ (some r))) hg2)
    have HB2 := hide B2
    clear hs hg2 B2 hb hr1
    go_wp2_with fail
    have B3 := ((unhide HB2).set 0 (.string ⟨#[]⟩)).set 1 (.int .i64 0)
    have p0 := B3.cell 0
    have p1 := B3.cell 1
    simp at p0 p1
    refine bodyPost_ret (v := .agg #[.string ⟨#[]⟩, .int .i64 0]) (by simp [results, Tryz.results115, go_sem, p0, p1]) rfl ⟨rfl, ?_, ?_⟩
    · exact ((unhide Hs).set _ _ _ (by omega) (by omega)).set _ _ _ (by omega) (by omega)
    · exact gb_set_new (gb_set_new (unhide HG) _ _ (Nat.le_refl _)) _ _ (Nat.le_refl _)
  · have e : Th.pname (absSt T n f p) = (t, (absSt T n f p).adv) := by
      rw [Th.pname, hkd, hk]
      cases f with
      | false => simp [absSt, Th.St.hd, ht]
      | true => 
        have e1 := (hri.good.last n t ht).2 (hri.end_ rfl)
        simp at hk
        omega
    rw [e]
    have hk2 : 2 ≤ t.k := by simp at hk; omega
    have hk' : ((t.k : Int) == 2) = true := by simp at hk ⊢; omega
    clear hri hkd e hk
    go_enter Tryz.func115, Tryz.ntmps115
    go_wp2_with fail
    refine (token_any h0 ht).mono ?_
    rintro e w1 ⟨rfl, hb⟩
    have hri1 := h0.below hb
    have hS := hide ((unhide HR).step (unhide Ht) hk2 (w1 := w1) (((below_alloc w _).trans (hb.mono (by simp)))))
    have c1 := hri1.blk.cell 1
    have f1 := hri1.blk.frozen 1
    simp at c1
    clear h0 ht hri1
    have B := (Blk.new w [.string ⟨#[]⟩, .int .i64 0] 88).below hb (by simp)
    have q0 := B.cell 0
    have q1 := B.cell 1
    have g0 := B.frozen 0
    have g1 := B.frozen 1
    have HB := hide B
    have hr1 := B.lt
    have hr2 : r < w1.heap.size := by omega
    simp at q0 q1
    clear B
    go_wp2_with fail
    have B3 := ((((unhide HB).other ⟨r, 1, none⟩ (.int .i64 ((n : Int) + 1)) (by simp; omega)).set 0 (.string ⟨t.s.toArray⟩)).set 1 (.int .i64 t.at_)).alloc (.cells #[.int .i64 t.k, .string ⟨t.s.toArray⟩, .int .i64 t.at_] 135)
    have p0 := B3.cell 0
    have p1 := B3.cell 1
    simp at p0 p1
    refine bodyPost_ret (v := .agg #[.string ⟨t.s.toArray⟩, .int .i64 t.at_]) (by simp [results, Tryz.results115, go_sem, p0, p1]) rfl ⟨rfl, ?_, ?_⟩
    · exact (((unhide hS).1.set _ _ _ (by omega) (by omega)).set _ _ _ (by omega) (by omega)).alloc _
    · exact gb_trans (gb_set_new (gb_set_new (unhide hS).2 _ _ (Nat.le_refl _)) _ _ (Nat.le_refl _)) (gb_alloc _ _ _)

end Go.Proofs.YtgahgkddaljmkaaGreatDoor

namespace Go.Proofs.YtgahgkddaljmkaaGreatDoor
open Go.RowKit
attribute [local go_sem] fld_tok0 fld_tok1 fld_tok2

/-- The token at which the reader stands, and what the state says of it. -/
theorem tokenS {w : World} {r tb : Nat} {T : List Th.Tok} {st : Th.St} (h : RS w r tb T st) :
    ∃ t : Th.Tok, (∀ k, 2 ≤ k → st.kind k = (t.k == k)) ∧ (∀ x, x ≠ [] → st.is x = (t.s == x)) ∧ (st.bad = none → st.hd = t) ∧ t ∈ T ∧
      Calls Tryz.prog 67 #[.pointer (some ⟨r, 0, none⟩)] w fun e w' => e = .returned (.agg #[.int .i64 t.k, .string ⟨t.s.toArray⟩, .int .i64 t.at_]) ∧ Below w.heap.size w w' := by
  obtain ⟨cap, n, f, p, h, rfl⟩ := h
  obtain ⟨t, ht⟩ := h.tok
  refine ⟨t, fun k hk => abs_kind h ht k hk, fun x hx => abs_is h ht x hx, ?_, List.mem_of_getElem? ht, token_any h ht⟩
  intro hb
  cases f with
  | true => simp [absSt] at hb
  | false => simp [absSt, Th.St.hd, ht]

def nameCells (t : Th.Tok) : List Value := [.string ⟨t.s.toArray⟩, .int .i64 t.at_]
def namesCells (l : List Th.Tok) : List Value := l.flatMap nameCells

theorem namesCells_snoc (l : List Th.Tok) (t : Th.Tok) : namesCells (l ++ [t]) = namesCells l ++ nameCells t := by simp [namesCells]

theorem pnames_yes {st : Th.St} (h : st.kind 2 = true) : Th.pnames st = (st.hd :: (Th.pnames st.adv).1, (Th.pnames st.adv).2) := by
  obtain ⟨rest, bad⟩ := st
  cases bad with
  | some p => simp [Th.St.kind] at h
  | none =>
    cases rest with
    | nil => simp [Th.St.kind, Th.St.hd, Th.tok0] at h
    | cons t r =>
      simp [Th.St.kind, Th.St.hd] at h
      simp [Th.pnames, Th.St.hd, Th.St.adv, h]
theorem pnames_no {st : Th.St} (h : st.kind 2 = false) : Th.pnames st = ([], st) := by
  obtain ⟨rest, bad⟩ := st
  cases bad with
  | some p => rfl
  | none =>
    cases rest with
    | nil => rfl
    | cons t r =>
      simp [Th.St.kind, Th.St.hd] at h
      simp [Th.pnames, h]
theorem kind_bad {st : Th.St} {k : Nat} (h : st.kind k = true) : st.bad = none := by
  obtain ⟨rest, bad⟩ := st
  cases bad with
  | some p => simp [Th.St.kind] at h
  | none => rfl
theorem kind_len {st : Th.St} {k : Nat} (hk : 2 ≤ k) (h : st.kind k = true) : st.adv.rest.length < st.rest.length := by
  obtain ⟨rest, bad⟩ := st
  cases rest with
  | nil => simp [Th.St.kind, Th.St.hd, Th.tok0] at h; omega
  | cons t r => simp [Th.St.adv]

theorem infoName : (Tryz.prog.info? 88).map (fun i => (i.zero, i.size, i.bytes)) = some (some (.agg #[.string ⟨#[]⟩, .int .i64 0]), 2, 24) := by kernel_rfl

theorem rest_le {w : World} {r tb : Nat} {T : List Th.Tok} {st : Th.St} (h : RS w r tb T st) : st.rest.length ≤ 100000 := by
  obtain ⟨cap, n, f, p, h, rfl⟩ := h
  have := h.good.len
  cases f <;> simp [absSt]
  omega

theorem own_none (v : Value) : v.ownBlock = none ∨ v.ownBlock ≠ none := by
  cases v.ownBlock with
  | none => exact .inl rfl
  | some k => exact .inr (by simp)
theorem own_ne {w : World} {base : Nat} {e : TypeId} {size n : Nat} {v : Value} {xs : List Value} (h : w.ownsRow base e size v n xs) {r : Nat} (hr : r < base) : v.ownBlock = none ∨ v.ownBlock ≠ some r := by
  cases hv : v.ownBlock with
  | none => exact .inl rfl
  | some k => exact .inr (by have := (h.lt k hv).1; simp; omega)

theorem own_row {w : World} {base : Nat} {e : TypeId} {size n : Nat} {v : Value} {xs : List Value} (h : w.ownsRow base e size v n xs) {r : Nat} (hr : r < base) : some r ≠ v.ownBlock := by
  intro e
  have := (h.lt r e.symm).1
  omega
/-- Behind an append: the row that may have been written lies beyond all that was there at the start. -/
theorem gb_own {a b c : World} {r : Option Nat} {e : TypeId} {size n : Nat} {v : Value} {xs : List Value} (h : a.grownBy b r) (ho : b.ownsRow a.heap.size e size v n xs) (hg : b.grownBy c v.ownBlock) : a.grownBy c r :=
  ⟨hg.os.trans h.os, hg.tape.trans h.tape, hg.output.trans h.output, Nat.le_trans h.size hg.size,
    fun k hk hr => (hg.block k (Nat.lt_of_lt_of_le hk h.size) (own_row ho hk)).trans (h.block k hk hr)⟩

set_option maxRecDepth 100000 in
set_option maxHeartbeats 2000000 in
theorem names_full {w : World} {r tb : Nat} {T : List Th.Tok} {st : Th.St} (h : RS w r tb T st) :
    Calls Tryz.prog 116 #[.pointer (some ⟨r, 0, none⟩)] w fun e w' => ∃ v, e = .returned v ∧ ((Th.pnames st).1 = [] → v = .slice none 0 0) ∧ w'.ownsRow w.heap.size 88 2 v (Th.pnames st).1.length (namesCells (Th.pnames st).1) ∧
      RS w' r tb T (Th.pnames st).2 ∧ w.grownBy w' (some r) := by
  have hrl := h.lt
  have htl := h.tlt
  have hne := h.ne
  have hlen := rest_le h
  obtain ⟨i0, hi, hz0, hz1, hz2⟩ := info_parts infoName
  have HI := hide hi; clear hi
  have HZ := hide (And.intro hz0 (And.intro hz1 hz2)); clear hz0 hz1 hz2
  have H := hide h; clear h
  go_enter Tryz.func116, Tryz.ntmps116
  go_wp2_with fail
  go_loopg [3] st.rest.length (fun k v wr => ∃ (l : List Th.Tok) (s1 : Th.St), RS wr r tb T s1 ∧ s1.rest.length ≤ k ∧ l.length + s1.rest.length ≤ 100000 ∧ wr.ownsRow w.heap.size 88 2 v l.length (namesCells l) ∧ w.grownBy wr (some r) ∧ (l = [] → v = .slice none 0 0) ∧ Th.pnames st = (l ++ (Th.pnames s1).1, (Th.pnames s1).2))
  case atStart => exact ⟨[], st, unhide H, Nat.le_refl _, by simpa using hlen, World.ownsRow_nil _ _ _ _, gb_refl _ _, fun _ => rfl, by simp⟩
  case round =>
    obtain ⟨l, s1, hs, hk, hl, hown, hg, hnil, he⟩ := hrel
    have Hnil := hide hnil
    clear hnil
    obtain ⟨t, tk, ti, th, tm, tc⟩ := tokenS hs
    have Hs := hide hs
    have He := hide he
    have Hg := hide hg
    have Ho := hide hown
    cases hv : s1.kind 2
    · have hk' : ((t.k : Int) == 2) = false := by rw [tk 2 (by omega)] at hv; simp at hv ⊢; omega
      have Hv := hide hv
      clear hs he hg hown tk ti th tm hv
      go_wp2_with fail
      refine tc.mono ?_
      rintro e w1 ⟨rfl, hb⟩
      clear tc
      have Hb := hide hb
      clear hb
      go_wp2_with fail
      go_ret
      have e := unhide He
      rw [pnames_no (unhide Hv)] at e
      rw [e]
      simp only [List.append_nil]
      exact ⟨_, rfl, unhide Hnil, (unhide Ho).kept (gb_below none (unhide Hb)) (own_none _), (unhide Hs).below (unhide Hb), gb_trans (unhide Hg) (gb_below _ (unhide Hb))⟩
    · have hk' : ((t.k : Int) == 2) = true := by rw [tk 2 (by omega)] at hv; simp at hv ⊢; omega
      have Hv := hide hv
      clear hs he hg hown tk ti th tm hv
      go_wp2_with fail
      refine tc.mono ?_
      rintro e w1 ⟨rfl, hb⟩
      clear tc
      have Hb := hide hb
      have hs1 := (unhide Hs).below hb
      clear hb
      go_wp2_with fail
      refine (name_any hs1).mono ?_
      rintro e w2 ⟨rfl, hs2, hg2⟩
      have e2 : Th.pname s1 = (s1.hd, s1.adv) := by simp [Th.pname, unhide Hv]
      rw [e2] at hs2 ⊢
      have He2 : Hid (Th.pnames st = ((l ++ [s1.hd]) ++ (Th.pnames s1.adv).1, (Th.pnames s1.adv).2)) := hide (by rw [unhide He, pnames_yes (unhide Hv)]; simp)
      have hl2 := kind_len (by omega) (unhide Hv)
      have hown2 := ((unhide Ho).kept (gb_below none (unhide Hb)) (own_none _)).kept hg2 (own_ne (unhide Ho) hrl)
      have hg3 := gb_trans (gb_trans (unhide Hg) (gb_below _ (unhide Hb))) hg2
      have hsz := hg3.size
      have Hs2 := hide hs2
      have Hg3 := hide hg3
      clear hs1 hs2 hg2 e2 hg3
      generalize s1.hd = x at *
      generalize s1.adv = s2 at *
      have hown3 := hown2.alloc (.cells #[.string ⟨x.s.toArray⟩, .int .i64 x.at_] 88)
      go_wp2_with (at_builtin; go_loud (refine wpList_append_own _ rfl _ _ 89 rfl w.heap.size 88 i0 _ 2 24 Tryz.underlying89 (unhide HI) (unhide HZ).1 (unhide HZ).2.1 (unhide HZ).2.2 rfl (by decide) _ _ _ rfl hown3 ⟨w2.heap.size, 0, none⟩ 1 1 (nameCells x) rfl rfl (cell_two_new _ _ _ _) (by simp [Value.oneCell', nameCells]) (by unfold maxLen; omega) (by omega) (by simp; omega) ?_); intro v' w3 hown' hgrow _)
      go_roundg s2.rest.length
      case measure => omega
      case rel =>
        refine ⟨l ++ [x], s2, ((unhide Hs2).alloc _).gb hgrow (own_row hown3 hrl) (own_row hown3 htl), Nat.le_refl _, by simp; omega, ?_, gb_own (gb_trans (unhide Hg3) (gb_alloc _ _ _)) hown3 hgrow, fun e => by simp at e, unhide He2⟩
        rw [namesCells_snoc, List.length_append]
        exact hown'

theorem names_any {w : World} {r tb : Nat} {T : List Th.Tok} {st : Th.St} (h : RS w r tb T st) :
    Calls Tryz.prog 116 #[.pointer (some ⟨r, 0, none⟩)] w fun e w' => ∃ v, e = .returned v ∧ w'.ownsRow w.heap.size 88 2 v (Th.pnames st).1.length (namesCells (Th.pnames st).1) ∧
      RS w' r tb T (Th.pnames st).2 ∧ w.grownBy w' (some r) :=
  (names_full h).mono fun _ _ ⟨v, h1, _, h3⟩ => ⟨v, h1, h3⟩

end Go.Proofs.YtgahgkddaljmkaaGreatDoor

namespace Go.Proofs.YtgahgkddaljmkaaGreatDoor
open Go.RowKit
attribute [local go_sem] fld_tok0 fld_tok1 fld_tok2

theorem decFrom_digits : ∀ (l : List UInt8) (acc : Nat), (∀ c ∈ l, Th.isDig c = true) → Lib.decFrom acc l = some (l.foldl (fun a c => 10 * a + (c.toNat - 48)) acc)
  | [], acc, _ => rfl
  | c :: l, acc, h => by
    have hc := h c (by simp)
    simp only [Th.isDig, Bool.and_eq_true, decide_eq_true_eq] at hc
    have ih := decFrom_digits l (10 * acc + (c.toNat - 48)) (fun d hd => h d (by simp [hd]))
    simp only [Lib.decFrom, Lib.digitVal]
    rw [if_pos hc]
    simp only [List.foldl_cons]
    rw [show acc * 10 + (c.toNat - 48) = 10 * acc + (c.toNat - 48) by omega]
    exact ih

theorem atoi_digits (l : List UInt8) (h0 : l ≠ []) (h : ∀ c ∈ l, Th.isDig c = true) : Lib.atoi l = some (Th.val l : Int) := by
  cases l with
  | nil => exact absurd rfl h0
  | cons c r =>
    have hc := h c (by simp)
    simp only [Th.isDig, Bool.and_eq_true, decide_eq_true_eq] at hc
    have h1 : (c == 45) = false := by rw [← Bool.not_eq_true]; intro e; have := eq_of_beq e; subst this; simp at hc
    have h2 : (c == 43) = false := by rw [← Bool.not_eq_true]; intro e; have := eq_of_beq e; subst this; simp at hc
    simp only [Lib.atoi, h1, h2, Bool.false_eq_true, if_false, Lib.decNat, List.isEmpty_cons]
    rw [decFrom_digits _ _ h]
    rfl

theorem val_lt : ∀ (l : List UInt8) (acc : Nat), (∀ c ∈ l, Th.isDig c = true) → l.foldl (fun a c => 10 * a + (c.toNat - 48)) acc < (acc + 1) * 10 ^ l.length
  | [], acc, _ => by simp
  | c :: l, acc, h => by
    have hc := h c (by simp)
    simp only [Th.isDig, Bool.and_eq_true, decide_eq_true_eq] at hc
    have ih := val_lt l (10 * acc + (c.toNat - 48)) (fun d hd => h d (by simp [hd]))
    simp only [List.foldl_cons, List.length_cons]
    refine Nat.lt_of_lt_of_le ih ?_
    rw [Nat.pow_succ, Nat.mul_comm (10 ^ l.length) 10, ← Nat.mul_assoc]
    exact Nat.mul_le_mul_right _ (by omega)

theorem val_small (l : List UInt8) (hl : l.length ≤ 9) (h : ∀ c ∈ l, Th.isDig c = true) : Th.val l < 1000000000 := by
  have h1 := val_lt l 0 h
  have h2 : 10 ^ l.length ≤ 10 ^ 9 := Nat.pow_le_pow_right (by omega) hl
  unfold Th.val
  simp at h1 h2
  omega

theorem below_bytes (w : World) (s : ByteArray) : Below w.heap.size w (Lib.bytesWorld w 5 s) := by
  have h := (below_alloc w (.cells (Lib.bytesCells w 5 s) 5)).drew
  refine ⟨rfl, rfl, rfl, ?_, ?_⟩
  · have := h.size
    simp only [Lib.bytesWorld, World.freeze]
    split <;> simp
  · intro k hk
    rw [← h.block k hk]
    simp only [Lib.bytesWorld, World.freeze]
    split
    · rfl
    · simp only [Array.getElem?_modify]
      rw [if_neg (by omega)]
      rfl

theorem ba_size (l : List UInt8) : (⟨l.toArray⟩ : ByteArray).size = l.length := by show l.toArray.size = _; simp

set_option maxRecDepth 100000 in
set_option maxHeartbeats 2000000 in
theorem rnumber_any {w : World} {r tb : Nat} {T : List Th.Tok} {st : Th.St} (h : RS w r tb T st) (lo hi : Nat) (_hlo : lo ≤ 2147483647) (_hhi : hi ≤ 2147483647) :
    Calls Tryz.prog 280 #[.pointer (some ⟨r, 0, none⟩), .int .i64 lo, .int .i64 hi] w fun e w' => e = .returned (.int .i64 (Th.pnumber lo hi st).1) ∧ RS w' r tb T (Th.pnumber lo hi st).2 ∧ w.grownBy w' (some r) := by
  have hrl := h.lt
  have htl := h.tlt
  have HH := hide h
  obtain ⟨cap, n, f, p, hri, rfl⟩ := h
  obtain ⟨t, ht⟩ := hri.tok
  have hn := hri.lt
  have hg := hri.good.len
  have HR := hide hri
  have Ht := hide ht
  have hkd := abs_kind hri ht 3 (by omega)
  cases hk : (t.k == 3)
  · have e : Th.pnumber lo hi (absSt T n f p) = (0, (absSt T n f p).fail) := by rw [Th.pnumber, hkd, hk]; simp
    rw [e]
    have hk' : ((t.k : Int) == 3) = false := by simp at hk ⊢; omega
    clear hkd e hk
    go_enter Tryz.func280, Tryz.ntmps280
    go_wp2_with fail
    refine (token_any hri ht).mono ?_
    rintro e w1 ⟨rfl, hb⟩
    have hs1 := hide (((unhide HH).below hb).alloc (.cells #[.int .i64 t.k, .string ⟨t.s.toArray⟩, .int .i64 t.at_] 135))
    have Hb := hide hb
    clear hri ht hb
    go_wp2_with fail
    refine (fail_any (unhide hs1)).mono ?_
    rintro e w2 ⟨rfl, hs2, hg2⟩
    have Hs2 := hide hs2
    have Hg2 := hide hg2
    clear hs2 hg2
    go_wp2_with fail
    go_ret
    exact ⟨rfl, unhide Hs2, gb_trans (gb_trans (gb_below _ (unhide Hb)) (gb_alloc _ _ _)) (unhide Hg2)⟩
  · have hhd : (absSt T n f p).hd = t := by
      cases f with
      | false => simp [absSt, Th.St.hd, ht]
      | true =>
        have e1 := (hri.good.last n t ht).2 (hri.end_ rfl)
        simp at hk
        omega
    have hk3 : t.k = 3 := by simpa using hk
    have htx := hri.good.text t (List.mem_of_getElem? ht)
    have htn := hri.good.num t (List.mem_of_getElem? ht) hk3
    have hat := hide (atoi_digits t.s (htx.2.1 (by omega)) htn.2)
    have hvs := val_small t.s htn.1 htn.2
    have hk' : ((t.k : Int) == 3) = true := by simp at hk ⊢; omega
    have hk2 : 2 ≤ t.k := by omega
    obtain ⟨m, hm⟩ : ∃ m, Th.val t.s = m := ⟨_, rfl⟩
    rw [hm] at hvs hat
    have hsz9 := hide htn.1
    by_cases hin : lo ≤ m ∧ m ≤ hi
    · obtain ⟨h1, h2⟩ := hin
      have e : Th.pnumber lo hi (absSt T n f p) = (m, (absSt T n f p).adv) := by rw [Th.pnumber, hkd, hk, hhd, hm]; simp [h1, h2]
      rw [e]
      clear hkd e hk hhd htx htn hm hk3
      go_enter Tryz.func280, Tryz.ntmps280
      go_wp2_with fail
      refine (token_any hri ht).mono ?_
      rintro e w1 ⟨rfl, hb⟩
      have hri1 := hri.below hb
      have Hb := hide hb
      clear hri ht hb
      go_wp2_with fail
      refine (Tryz.strconv_Atoi _ (m : Int) (by rw [ba_size]; have := unhide hsz9; omega) (by simpa using unhide hat) _).mono ?_
      rintro e w2 ⟨rfl, ts, hw⟩
      have hb2 : Below w.heap.size w w2 := by
        rw [hw]
        exact (((unhide Hb).trans ((below_alloc w1 _).mono (unhide Hb).size)).trans ((below_bytes _ _).mono (by simp; have := (unhide Hb).size; omega)))
      clear hw
      have hri2 := (unhide HR).below hb2
      have c1 := hri2.blk.cell 1
      have f1 := hri2.blk.frozen 1
      simp at c1
      have hS := hide ((unhide HR).step (unhide Ht) hk2 hb2)
      clear hri1 hri2 hb2
      go_wp2_with fail
      go_ret
      exact ⟨rfl, (unhide hS).1, (unhide hS).2⟩
    · have e : Th.pnumber lo hi (absSt T n f p) = (0, (absSt T n f p).fail) := by
        rw [Th.pnumber, hkd, hk, hhd, hm]
        rcases Nat.lt_or_ge m lo with h1 | h1
        · simp; omega
        · simp; omega
      rw [e]
      clear hkd e hk hhd htx htn hm hk3
      go_enter Tryz.func280, Tryz.ntmps280
      go_wp2_with fail
      refine (token_any hri ht).mono ?_
      rintro e w1 ⟨rfl, hb⟩
      have hri1 := hri.below hb
      have Hb := hide hb
      clear hri ht hb
      go_wp2_with fail
      refine (Tryz.strconv_Atoi _ (m : Int) (by rw [ba_size]; have := unhide hsz9; omega) (by simpa using unhide hat) _).mono ?_
      rintro e w2 ⟨rfl, ts, hw⟩
      have hb2 : Below w.heap.size w w2 := by
        rw [hw]
        exact (((unhide Hb).trans ((below_alloc w1 _).mono (unhide Hb).size)).trans ((below_bytes _ _).mono (by simp; have := (unhide Hb).size; omega)))
      have hs2 := hide ((unhide HH).below hb2)
      have Hb2 := hide hb2
      clear hw hb2 hri1
      rcases Nat.lt_or_ge m lo with h1 | h1
      · clear hin
        go_wp2_with fail
        refine (fail_any (unhide hs2)).mono ?_
        rintro e w3 ⟨rfl, hs3, hg3⟩
        have Hs3 := hide hs3
        have Hg3 := hide hg3
        clear hs3 hg3
        go_wp2_with fail
        go_ret
        exact ⟨rfl, unhide Hs3, gb_trans (gb_below _ (unhide Hb2)) (unhide Hg3)⟩
      · have h2 : hi < m := by omega
        clear hin
        go_wp2_with fail
        refine (fail_any (unhide hs2)).mono ?_
        rintro e w3 ⟨rfl, hs3, hg3⟩
        have Hs3 := hide hs3
        have Hg3 := hide hg3
        clear hs3 hg3
        go_wp2_with fail
        go_ret
        exact ⟨rfl, unhide Hs3, gb_trans (gb_below _ (unhide Hb2)) (unhide Hg3)⟩

set_option maxHeartbeats 400000 in
theorem tag_any {w : World} {r tb : Nat} {T : List Th.Tok} {st : Th.St} (h : RS w r tb T st) :
    Calls Tryz.prog 272 #[.pointer (some ⟨r, 0, none⟩)] w fun e w' => e = .returned (.int .i64 (Th.pnumber 1 99 st).1) ∧ RS w' r tb T (Th.pnumber 1 99 st).2 ∧ w.grownBy w' (some r) := by
  go_enter Tryz.func272, Tryz.ntmps272
  go_wp2_with fail
  refine (rnumber_any h 1 99 (by omega) (by omega)).mono ?_
  rintro e w1 ⟨rfl, hs, hg⟩
  have Hs := hide hs
  have Hg := hide hg
  clear h hs hg
  go_wp2_with fail
  go_ret
  exact ⟨rfl, unhide Hs, unhide Hg⟩

end Go.Proofs.YtgahgkddaljmkaaGreatDoor

namespace Go.Proofs.YtgahgkddaljmkaaGreatDoor
open Go.RowKit
attribute [local go_sem] fld_tok0 fld_tok1 fld_tok2

set_option maxRecDepth 100000 in
set_option maxHeartbeats 2000000 in
theorem atomFollows_any {w : World} {r tb : Nat} {T : List Th.Tok} {st : Th.St} (h : RS w r tb T st) :
    Calls Tryz.prog 286 #[.pointer (some ⟨r, 0, none⟩)] w fun e w' => e = .returned (.bool (Th.begins st)) ∧ Below w.heap.size w w' := by
  obtain ⟨t, tk, ti, th, tm, tc⟩ := tokenS h
  have H := hide h
  have hk2 := tk 2 (by omega)
  have hk3 := tk 3 (by omega)
  cases h2 : st.kind 2
  · have h2' : ((t.k : Int) == 2) = false := by rw [hk2] at h2; simp at h2 ⊢; omega
    have HB : Hid (Th.begins st = (st.kind 3 || st.is [123] || st.is [40])) := hide (by simp [Th.begins, h2])
    clear h2
    cases h3 : st.kind 3
    · have h3' : ((t.k : Int) == 3) = false := by rw [hk3] at h3; simp at h3 ⊢; omega
      have HB2 : Hid (Th.begins st = (st.is [123] || st.is [40])) := hide (by rw [unhide HB, h3]; simp)
      clear h3 hk2 hk3 tk ti th tm HB
      go_enter Tryz.func286, Tryz.ntmps286
      go_wp2_with fail
      refine tc.mono ?_
      rintro e w1 ⟨rfl, hb⟩
      have Hb := hide hb
      have hs1 := h.below hb
      clear tc h hb
      go_wp2_with fail
      refine (is_any hs1 ⟨#[123]⟩ (by simp)).mono ?_
      rintro e w2 ⟨rfl, hb⟩
      have Hb2 := hide hb
      have hs2 := hs1.below hb
      clear hb
      cases h4 : st.is [123]
      · have H4 := hide h4
        clear h4 hs1
        go_wp2_with fail
        refine (is_any hs2 ⟨#[40]⟩ (by simp)).mono ?_
        rintro e w3 ⟨rfl, hb⟩
        have Hb3 := hide hb
        clear hb hs2
        go_wp2_with fail
        go_ret
        refine ⟨?_, ((unhide Hb).trans ((unhide Hb2).mono (unhide Hb).size)).trans ((unhide Hb3).mono (Nat.le_trans (unhide Hb).size (unhide Hb2).size))⟩
        rw [unhide HB2, unhide H4]
        rfl
      · have H4 := hide h4
        clear h4 hs1 hs2
        go_wp2_with fail
        go_ret
        refine ⟨?_, (unhide Hb).trans ((unhide Hb2).mono (unhide Hb).size)⟩
        rw [unhide HB2, unhide H4]
        rfl
    · have h3' : ((t.k : Int) == 3) = true := by rw [hk3] at h3; simp at h3 ⊢; omega
      have HB2 : Hid (Th.begins st = true) := hide (by rw [unhide HB, h3]; simp)
      clear h3 hk2 hk3 tk ti th tm HB
      go_enter Tryz.func286, Tryz.ntmps286
      go_wp2_with fail
      refine tc.mono ?_
      rintro e w1 ⟨rfl, hb⟩
      have Hb := hide hb
      clear tc h hb
      go_wp2_with fail
      go_ret
      exact ⟨by rw [unhide HB2]; rfl, unhide Hb⟩
  · have h2' : ((t.k : Int) == 2) = true := by rw [hk2] at h2; simp at h2 ⊢; omega
    have HB2 : Hid (Th.begins st = true) := hide (by simp [Th.begins, h2])
    clear h2 hk2 hk3 tk ti th tm
    go_enter Tryz.func286, Tryz.ntmps286
    go_wp2_with fail
    refine tc.mono ?_
    rintro e w1 ⟨rfl, hb⟩
    have Hb := hide hb
    clear tc h hb
    go_wp2_with fail
    go_ret
    exact ⟨by rw [unhide HB2]; rfl, unhide Hb⟩

set_option maxRecDepth 100000 in
set_option maxHeartbeats 2000000 in
theorem armFollows_any {w : World} {r tb : Nat} {T : List Th.Tok} {st : Th.St} (h : RS w r tb T st) (c : Bool) :
    Calls Tryz.prog 251 #[.pointer (some ⟨r, 0, none⟩), .bool c] w fun e w' => e = .returned (.bool (Th.armFollows c st)) ∧ Below w.heap.size w w' := by
  cases h1 : st.is [59]
  · have e1 : Th.armFollows c st = false := by simp [Th.armFollows, h1]
    rw [e1]
    have H1 := hide h1
    clear h1 e1
    go_enter Tryz.func251, Tryz.ntmps251
    go_wp2_with fail
    refine (is_any h ⟨#[59]⟩ (by simp)).mono ?_
    rintro e w1 ⟨rfl, hb⟩
    rw [show st.is (ByteArray.mk #[59]).data.toList = false from unhide H1]
    have Hb := hide hb
    clear h hb
    go_wp2_with fail
    go_ret
    exact ⟨rfl, unhide Hb⟩
  · have H1 := hide h1
    cases c with
    | false =>
      have e1 : Th.armFollows false st = true := by simp [Th.armFollows, h1]
      rw [e1]
      clear h1 e1
      go_enter Tryz.func251, Tryz.ntmps251
      go_wp2_with fail
      refine (is_any h ⟨#[59]⟩ (by simp)).mono ?_
      rintro e w1 ⟨rfl, hb⟩
      rw [show st.is (ByteArray.mk #[59]).data.toList = true from unhide H1]
      have Hb := hide hb
      clear h hb
      go_wp2_with fail
      go_quiet (fail)
      go_wp2_with fail
      go_ret
      exact ⟨rfl, below_drewN (unhide Hb) _⟩
    | true =>
      have h0 := h
      obtain ⟨cap, n, f, p, hri, rfl⟩ := h0
      obtain ⟨t, ht⟩ := hri.tok
      have hk := abs_is_tok hri ht _ (by simp) h1
      have hn : n + 1 < T.length := by
        have := hri.good.last n t ht
        have := hri.lt
        rcases Nat.lt_or_ge (n + 1) T.length with h | h
        · exact h
        · have : t.k ≤ 1 := (hri.good.last n t ht).2 (by omega)
          omega
      obtain ⟨t2, ht2⟩ : ∃ t2, T[n + 1]? = some t2 := ⟨T[n + 1]'hn, List.getElem?_eq_getElem hn⟩
      have hff : f = false := by
        cases f with
        | false => rfl
        | true => have := hri.end_ rfl; omega
      subst hff
      have e1 : Th.armFollows true (absSt T n false p) = (t2.s == [60]) := by
        have e2 : ((absSt T n false p).rest.tail.headD Th.tok0) = t2 := by simp [absSt, ht2]
        rw [Th.armFollows, h1, e2]; rfl
      rw [e1]
      have hg := hri.good.len
      have HR := hide hri
      have Ht2 := hide ht2
      clear h1 e1 hri ht ht2 hk
      go_enter Tryz.func251, Tryz.ntmps251
      go_wp2_with fail
      refine (is_any h ⟨#[59]⟩ (by simp)).mono ?_
      rintro e w1 ⟨rfl, hb⟩
      rw [show (absSt T n false p).is (ByteArray.mk #[59]).data.toList = true from unhide H1]
      have Hb := hide hb
      have hri1 := (unhide HR).below hb
      have c0 := hri1.blk.cell 0
      have c1 := hri1.blk.cell 1
      obtain ⟨-, d1, -⟩ := hri1.toks (n + 1) t2 (unhide Ht2)
      simp at c0 c1
      clear h hb hri1
      go_wp2_with fail
      go_quiet (fail)
      go_wp2_with fail
      go_ret
      exact ⟨rfl, below_drewN (unhide Hb) _⟩

end Go.Proofs.YtgahgkddaljmkaaGreatDoor

namespace Go.Proofs.YtgahgkddaljmkaaGreatDoor
open Go.RowKit

/-- A slice whose row lies in a block of a set. -/
def Row (S : Nat → Prop) (w : World) (e : TypeId) (size : Nat) (v : Value) (n : Nat) (xs : List Value) : Prop :=
  w.ownsRow 0 e size v n xs ∧ ∀ k, v.ownBlock = some k → S k

theorem Row.gb {S : Nat → Prop} {w w' : World} {e : TypeId} {size n : Nat} {v : Value} {xs : List Value} (h : Row S w e size v n xs) {row : Option Nat} (hg : w.grownBy w' row) (hr : ∀ k, row = some k → ¬ S k) : Row S w' e size v n xs := by
  refine ⟨h.1.kept hg ?_, h.2⟩
  cases hv : v.ownBlock with
  | none => exact .inl rfl
  | some k => exact .inr fun e => hr k e.symm (h.2 k hv)
theorem Row.mono {S S' : Nat → Prop} {w : World} {e : TypeId} {size n : Nat} {v : Value} {xs : List Value} (h : Row S w e size v n xs) (hs : ∀ k, k < w.heap.size → S k → S' k) : Row S' w e size v n xs :=
  ⟨h.1, fun k hk => hs k (h.1.lt k hk).2 (h.2 k hk)⟩
theorem own_base {w : World} {base b' : Nat} {e : TypeId} {size n : Nat} {v : Value} {xs : List Value} (h : w.ownsRow base e size v n xs) (hb : b' ≤ base) : w.ownsRow b' e size v n xs := by
  obtain ⟨h1, h2⟩ := h
  refine ⟨h1, ?_⟩
  rcases h2 with h2 | ⟨g, cap, cur, hv, hg, r⟩
  · exact .inl h2
  · exact .inr ⟨g, cap, cur, hv, by omega, r⟩
theorem Row.of_own {w : World} {base : Nat} {e : TypeId} {size n : Nat} {v : Value} {xs : List Value} (h : w.ownsRow base e size v n xs) : Row (fun b => base ≤ b) w e size v n xs :=
  ⟨own_base h (Nat.zero_le _), fun k hk => (h.lt k hk).1⟩

def bindCells : List Th.Tok → List Value → List Value
  | t :: l, v :: vs => [.string ⟨t.s.toArray⟩, .int .i64 t.at_, v] ++ bindCells l vs
  | _, _ => []
def armCells : List (Nat × List Th.Tok) → List Value → List Value → List Value
  | a :: l, n :: ns, v :: vs => [.int .i64 a.1, n, v] ++ armCells l ns vs
  | _, _, _ => []

theorem bindCells_snoc : ∀ (l : List Th.Tok) (vs : List Value) (t : Th.Tok) (v : Value), l.length = vs.length → bindCells (l ++ [t]) (vs ++ [v]) = bindCells l vs ++ [.string ⟨t.s.toArray⟩, .int .i64 t.at_, v]
  | [], [], _, _, _ => rfl
  | a :: l, b :: vs, t, v, h => by
    simp only [List.cons_append, bindCells]
    rw [bindCells_snoc l vs t v (by simpa using h)]
    simp
  | [], _ :: _, _, _, h => by simp at h
  | _ :: _, [], _, _, h => by simp at h
theorem armCells_snoc : ∀ (l : List (Nat × List Th.Tok)) (ns vs : List Value) (a : Nat × List Th.Tok) (n v : Value), l.length = ns.length → l.length = vs.length → armCells (l ++ [a]) (ns ++ [n]) (vs ++ [v]) = armCells l ns vs ++ [.int .i64 a.1, n, v]
  | [], [], [], _, _, _, _, _ => rfl
  | x :: l, y :: ns, z :: vs, a, n, v, h1, h2 => by
    simp only [List.cons_append, armCells]
    rw [armCells_snoc l ns vs a n v (by simpa using h1) (by simpa using h2)]
    simp
  | [], _ :: _, _, _, _, _, h, _ => by simp at h
  | [], [], _ :: _, _, _, _, _, h => by simp at h
  | _ :: _, [], _, _, _, _, h, _ => by simp at h
  | _ :: _, _ :: _, [], _, _, _, _, h => by simp at h

/-- The value of an expression (of a depth): an interface value that holds its struct; its slices lie in blocks of a set. -/
def Rep (S : Nat → Prop) (w : World) : Nat → Value → Th.Ex → Prop
  | 0, _, _ => False
  | n + 1, v, e =>
    (e.kind = 1 ∧ v = .iface 217 (.agg #[.int .i64 e.n])) ∨
    (e.kind = 2 ∧ v = .iface 215 (.agg #[.string ⟨e.tok.s.toArray⟩, .int .i64 e.tok.at_])) ∨
    (e.kind = 3 ∧ v = .iface 219 (.agg #[.int .i64 e.tag, .int .i64 e.arity])) ∨
    (e.kind = 4 ∧ ∃ sv bv b, e.kids = [b] ∧ v = .iface 226 (.agg #[sv, bv]) ∧ Row S w 88 2 sv e.names.length (namesCells e.names) ∧ Rep S w n bv b) ∨
    (e.kind = 5 ∧ ∃ v1 v2 e1 e2, e.kids = [e1, e2] ∧ v = .iface 163 (.agg #[v1, v2]) ∧ Rep S w n v1 e1 ∧ Rep S w n v2 e2) ∨
    (e.kind = 6 ∧ ∃ v1 v2 e1 e2, e.kids = [e1, e2] ∧ v = .iface 166 (.agg #[.string ⟨e.tok.s.toArray⟩, v1, v2]) ∧ Rep S w n v1 e1 ∧ Rep S w n v2 e2) ∨
    ((e.kind = 7 ∨ e.kind = 8) ∧ ∃ sv bv b parts pvs, e.kids = b :: parts ∧ v = .iface 178 (.agg #[.bool (e.kind == 8), sv, bv]) ∧ parts.length = e.names.length ∧ pvs.length = e.names.length ∧
      Row S w 312 3 sv e.names.length (bindCells e.names pvs) ∧ (∀ (i : Nat) (pv : Value) (p : Th.Ex), pvs[i]? = some pv → parts[i]? = some p → Rep S w n pv p) ∧ Rep S w n bv b) ∨
    (e.kind = 9 ∧ ∃ cv sv b bodies nvs bvs, e.kids = b :: bodies ∧ v = .iface 173 (.agg #[cv, sv]) ∧ bodies.length = e.arms.length ∧ nvs.length = e.arms.length ∧ bvs.length = e.arms.length ∧
      Row S w 240 3 sv e.arms.length (armCells e.arms nvs bvs) ∧ (∀ (i : Nat) (a : Nat × List Th.Tok) (nv : Value), e.arms[i]? = some a → nvs[i]? = some nv → Row S w 88 2 nv a.2.length (namesCells a.2)) ∧
      (∀ (i : Nat) (bv : Value) (p : Th.Ex), bvs[i]? = some bv → bodies[i]? = some p → Rep S w n bv p) ∧ Rep S w n cv b)

theorem Rep.imp {S S' : Nat → Prop} {w w' : World} (hrow : ∀ e size v n xs, Row S w e size v n xs → Row S' w' e size v n xs) : ∀ (n : Nat) (v : Value) (e : Th.Ex), Rep S w n v e → Rep S' w' n v e
  | 0, _, _, h => h.elim
  | n + 1, v, e, h => by
    have ih := Rep.imp hrow n
    rcases h with h | h | h | ⟨hk, sv, bv, b, h1, h2, h3, h4⟩ | ⟨hk, v1, v2, e1, e2, h1, h2, h3, h4⟩ | ⟨hk, v1, v2, e1, e2, h1, h2, h3, h4⟩ | ⟨hk, sv, bv, b, parts, pvs, h1, h2, h3, h4, h5, h6, h7⟩ | ⟨hk, cv, sv, b, bodies, nvs, bvs, h1, h2, h3, h4, h5, h6, h7, h8, h9⟩
    · exact .inl h
    · exact .inr (.inl h)
    · exact .inr (.inr (.inl h))
    · exact .inr (.inr (.inr (.inl ⟨hk, sv, bv, b, h1, h2, hrow _ _ _ _ _ h3, ih _ _ h4⟩)))
    · exact .inr (.inr (.inr (.inr (.inl ⟨hk, v1, v2, e1, e2, h1, h2, ih _ _ h3, ih _ _ h4⟩))))
    · exact .inr (.inr (.inr (.inr (.inr (.inl ⟨hk, v1, v2, e1, e2, h1, h2, ih _ _ h3, ih _ _ h4⟩)))))
    · exact .inr (.inr (.inr (.inr (.inr (.inr (.inl ⟨hk, sv, bv, b, parts, pvs, h1, h2, h3, h4, hrow _ _ _ _ _ h5, fun i pv p a c => ih _ _ (h6 i pv p a c), ih _ _ h7⟩))))))
    · exact .inr (.inr (.inr (.inr (.inr (.inr (.inr ⟨hk, cv, sv, b, bodies, nvs, bvs, h1, h2, h3, h4, h5, hrow _ _ _ _ _ h6, fun i a nv x y => hrow _ _ _ _ _ (h7 i a nv x y), fun i bv p a c => ih _ _ (h8 i bv p a c), ih _ _ h9⟩))))))

theorem Rep.succ {S : Nat → Prop} {w : World} : ∀ (n : Nat) (v : Value) (e : Th.Ex), Rep S w n v e → Rep S w (n + 1) v e
  | 0, _, _, h => h.elim
  | n + 1, v, e, h => by
    have ih := Rep.succ (S := S) (w := w) n
    rcases h with h | h | h | ⟨hk, sv, bv, b, h1, h2, h3, h4⟩ | ⟨hk, v1, v2, e1, e2, h1, h2, h3, h4⟩ | ⟨hk, v1, v2, e1, e2, h1, h2, h3, h4⟩ | ⟨hk, sv, bv, b, parts, pvs, h1, h2, h3, h4, h5, h6, h7⟩ | ⟨hk, cv, sv, b, bodies, nvs, bvs, h1, h2, h3, h4, h5, h6, h7, h8, h9⟩
    · exact .inl h
    · exact .inr (.inl h)
    · exact .inr (.inr (.inl h))
    · exact .inr (.inr (.inr (.inl ⟨hk, sv, bv, b, h1, h2, h3, ih _ _ h4⟩)))
    · exact .inr (.inr (.inr (.inr (.inl ⟨hk, v1, v2, e1, e2, h1, h2, ih _ _ h3, ih _ _ h4⟩))))
    · exact .inr (.inr (.inr (.inr (.inr (.inl ⟨hk, v1, v2, e1, e2, h1, h2, ih _ _ h3, ih _ _ h4⟩)))))
    · exact .inr (.inr (.inr (.inr (.inr (.inr (.inl ⟨hk, sv, bv, b, parts, pvs, h1, h2, h3, h4, h5, fun i pv p a c => ih _ _ (h6 i pv p a c), ih _ _ h7⟩))))))
    · exact .inr (.inr (.inr (.inr (.inr (.inr (.inr ⟨hk, cv, sv, b, bodies, nvs, bvs, h1, h2, h3, h4, h5, h6, h7, fun i bv p a c => ih _ _ (h8 i bv p a c), ih _ _ h9⟩))))))

theorem Rep.le {S : Nat → Prop} {w : World} {n m : Nat} {v : Value} {e : Th.Ex} (h : Rep S w n v e) (hm : n ≤ m) : Rep S w m v e := by
  induction hm with
  | refl => exact h
  | step _ ih => exact Rep.succ _ _ _ ih

theorem Rep.gb {S : Nat → Prop} {w w' : World} {n : Nat} {v : Value} {e : Th.Ex} (h : Rep S w n v e) {row : Option Nat} (hg : w.grownBy w' row) (hr : ∀ k, row = some k → ¬ S k) : Rep S w' n v e :=
  Rep.imp (fun _ _ _ _ _ hR => hR.gb hg hr) n v e h
theorem Rep.mono {S S' : Nat → Prop} {w : World} {n : Nat} {v : Value} {e : Th.Ex} (h : Rep S w n v e) (hs : ∀ k, k < w.heap.size → S k → S' k) : Rep S' w n v e :=
  Rep.imp (fun _ _ _ _ _ hR => hR.mono hs) n v e h

/-- What a value that stands for an expression is: an interface value. -/
structure One (v : Value) : Prop where
  shape : v = .nilIface ∨ ∃ t x, v = .iface t x
theorem One.cells {v : Value} (h : One v) : v.cells = #[v] := by
  rcases h.shape with rfl | ⟨t, x, rfl⟩ <;> rfl
theorem One.one {v : Value} (h : One v) : v.oneCell' = true := by
  rcases h.shape with rfl | ⟨t, x, rfl⟩ <;> rfl
theorem one_nil : One .nilIface := ⟨.inl rfl⟩
theorem one_iface (t : TypeId) (x : Value) : One (.iface t x) := ⟨.inr ⟨t, x, rfl⟩⟩

/- The structs that hold such values, as they are built. -/
theorem bld_call {a b : Value} (ha : One a) (hb : One b) (w : World) : (Instr.build 163 #[(0, a), (1, b)]).run Tryz.prog w = .ok (.agg #[a, b]) w := by
  rcases ha.shape with rfl | ⟨t, x, rfl⟩ <;> rcases hb.shape with rfl | ⟨t, x, rfl⟩ <;> kernel_rfl
theorem bld_op (s : ByteArray) {a b : Value} (ha : One a) (hb : One b) (w : World) : (Instr.build 166 #[(0, .string s), (1, a), (2, b)]).run Tryz.prog w = .ok (.agg #[.string s, a, b]) w := by
  rcases ha.shape with rfl | ⟨t, x, rfl⟩ <;> rcases hb.shape with rfl | ⟨t, x, rfl⟩ <;> kernel_rfl
theorem bld_case {a : Value} (ha : One a) (w : World) : (Instr.build 173 #[(0, a)]).run Tryz.prog w = .ok (.agg #[a, .slice none 0 0]) w := by
  rcases ha.shape with rfl | ⟨t, x, rfl⟩ <;> kernel_rfl

/-- What a reader hands back: one cell, and, if it has not failed, the expression. -/
structure Got (S : Nat → Prop) (w : World) (v : Value) (e : Th.Ex) (st : Th.St) : Prop where
  one : One v
  rep : st.bad = none → ∃ n, Rep S w n v e

theorem Got.gb {S : Nat → Prop} {w w' : World} {v : Value} {e : Th.Ex} {st : Th.St} (h : Got S w v e st) {row : Option Nat} (hg : w.grownBy w' row) (hr : ∀ k, row = some k → ¬ S k) : Got S w' v e st :=
  ⟨h.one, fun hb => by obtain ⟨n, hn⟩ := h.rep hb; exact ⟨n, hn.gb hg hr⟩⟩
theorem Got.mono {S S' : Nat → Prop} {w : World} {v : Value} {e : Th.Ex} {st : Th.St} (h : Got S w v e st) (hs : ∀ k, k < w.heap.size → S k → S' k) : Got S' w v e st :=
  ⟨h.one, fun hb => by obtain ⟨n, hn⟩ := h.rep hb; exact ⟨n, hn.mono hs⟩⟩
theorem Got.st {S : Nat → Prop} {w : World} {v : Value} {e : Th.Ex} {st st' : Th.St} (h : Got S w v e st) (hb : st'.bad = none → st.bad = none) : Got S w v e st' := ⟨h.one, fun h' => h.rep (hb h')⟩

/-- The blocks that are new since a world. -/
abbrev Since (w : World) : Nat → Prop := fun b => w.heap.size ≤ b

end Go.Proofs.YtgahgkddaljmkaaGreatDoor
