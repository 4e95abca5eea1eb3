/- Package scope: the checker in memory; what its small methods do; slices of strings. Package scope: the texts of names. Package scope: the names of functions and of binds. Package scope: names of one list that stand there already. slices.Grow, laid over this program's numbers. slices.Grow and slices.Concat over slices of strings. Package scope: where the places of an expression lie; inside. -/
import Derived.Test.YtgahgkddaljmkaaGreatDoorA6
import Derived.Deep.RegionWith
import Derived.Deep.DrawnRows
import Derived.Test.YtgahgkddaljmkaaGreatDoorShelf
import Derived.Shelf.Spec.SlicesGrow
import Derived.Deep.AppendSrc
namespace Go.Proofs.YtgahgkddaljmkaaGreatDoor
open Go.RowKit

def strCells (l : List (List UInt8)) : List Value := l.map fun s => .string ⟨s.toArray⟩

/-- The first of the wrong places, behind what was found already. -/
def after (o : Option Nat) (l : List Nat) : Option Nat := match o with | some p => some p | none => l.head?
theorem after_nil (o : Option Nat) : after o [] = o := by cases o <;> rfl
theorem after_append (o : Option Nat) (a b : List Nat) : after o (a ++ b) = after (after o a) b := by
  cases o with
  | some p => rfl
  | none => cases a <;> rfl

/-- The checker in block c: what it has found. -/
def Chk (w : World) (c : Nat) (o : Option Nat) : Prop := Blk w c [.bool o.isSome, .int .i64 (o.getD 0)] 140

theorem Chk.gb {w w' : World} {c : Nat} {o : Option Nat} (h : Chk w c o) {row : Option Nat} (hg : w.grownBy w' row) (hr : some c ≠ row) : Chk w' c o := Blk.grown h hg hr
theorem Chk.below {w w' : World} {c : Nat} {o : Option Nat} (h : Chk w c o) (hb : Below w.heap.size w w') : Chk w' c o := Blk.below h hb (Blk.lt h)
theorem Chk.lt {w : World} {c : Nat} {o : Option Nat} (h : Chk w c o) : c < w.heap.size := Blk.lt h

set_option maxRecDepth 100000 in
set_option maxHeartbeats 1000000 in
theorem blame_any {w : World} {c : Nat} {o : Option Nat} (h : Chk w c o) (s : ByteArray) (p : Nat) :
    Calls Tryz.prog 120 #[.pointer (some ⟨c, 0, none⟩), .agg #[.string s, .int .i64 p]] w fun e w' => e = .returned (.tuple #[]) ∧ Chk w' c (after o [p]) ∧ w.grownBy w' (some c) := by
  have hl := h.lt
  have c0 := Blk.cell h 0
  have c1 := Blk.cell h 1
  have f0 := Blk.frozen h 0
  have f1 := Blk.frozen h 1
  have H := hide h
  simp at c0 c1
  clear h
  cases o with
  | some q =>
    go_enter Tryz.func120, Tryz.ntmps120
    go_wp2_with fail
    go_end0
    exact ⟨rfl, Blk.alloc (unhide H) _, gb_alloc _ _ _⟩
  | none =>
    go_enter Tryz.func120, Tryz.ntmps120
    go_wp2_with fail
    go_end0
    refine ⟨rfl, ?_, ?_⟩
    · exact ((Blk.set (unhide H) 0 (.bool true)).set 1 (.int .i64 p)).alloc _
    · exact gb_trans (gb_trans (gb_set _ _ _ _) (gb_set _ _ _ _)) (gb_alloc _ _ _)

theorem own_take {w : World} {base g n cap i : Nat} {e : TypeId} {xs : List Value} (h : w.ownsRow base e 1 (.slice (some ⟨g, 0, none⟩) n cap) n xs) (hi : i ≤ n) : w.ownsRow base e 1 (.slice (some ⟨g, 0, none⟩) i cap) i (xs.take i) := by
  obtain ⟨h1, h2⟩ := h
  refine ⟨by simp at h1 ⊢; omega, ?_⟩
  rcases h2 with ⟨h2, _⟩ | ⟨g', cap', cur, hv, hg, hh, hn, hm, hs, ht⟩
  · cases h2
  · cases hv
    refine .inr ⟨g, cap, cur, rfl, hg, hh, by omega, hm, hs, ?_⟩
    rw [← ht, List.take_take]
    congr 1
    omega

theorem containsS_eq (l : List (List UInt8)) (x : ByteArray) : Lib.containsS (l.map fun s => (⟨s.toArray⟩ : ByteArray)) x = l.contains x.data.toList := by
  rw [Bool.eq_iff_iff, Lib.containsS_iff]
  simp only [List.mem_map, List.contains_iff_mem]
  constructor
  · rintro ⟨s, hs, rfl⟩
    simpa using hs
  · intro h
    exact ⟨x.data.toList, h, by cases x; simp⟩

theorem contains_any {w : World} {base : Nat} {v : Value} {l : List (List UInt8)} (h : w.ownsRow base 9 1 v l.length (strCells l)) (hl : l.length ≤ 1000000) (x : ByteArray) :
    Calls Tryz.prog 119 #[v, .string x] w fun e w' => e = .returned (.bool (l.contains x.data.toList)) ∧ w' = w := by
  have h0 := h
  rcases h.2 with ⟨rfl, hn⟩ | ⟨g, cap, cur, rfl, hg, hh, hn, hm, hs, ht⟩
  · have : l = [] := List.length_eq_zero_iff.1 hn
    subst this
    exact (Tryz.slices_Contains_string_empty none 0 x w).mono fun e w' hw => by simpa using hw
  · refine (Tryz.slices_Contains_string g 0 l.length cap (l.map fun s => (⟨s.toArray⟩ : ByteArray)) x w (by simp) (by omega) ?_).mono ?_
    · intro j hj
      simp at hj
      have := h0.cellAt j (by omega)
      rw [Nat.zero_add, this]
      simp [strCells, hj]
    · rintro e w' ⟨rfl, rfl⟩
      rw [List.take_of_length_le (by simp), containsS_eq]
      exact ⟨rfl, rfl⟩

set_option maxRecDepth 100000 in
set_option maxHeartbeats 1000000 in
theorem fresh_any {w : World} {c : Nat} {o : Option Nat} (h : Chk w c o) (s : ByteArray) (p : Nat) {base : Nat} {v : Value} {l : List (List UInt8)} (hr : w.ownsRow base 9 1 v l.length (strCells l)) (hl : l.length ≤ 1000000) :
    Calls Tryz.prog 69 #[.pointer (some ⟨c, 0, none⟩), .agg #[.string s, .int .i64 p], v] w fun e w' => e = .returned (.tuple #[]) ∧ Chk w' c (after o (if l.contains s.data.toList then [p] else [])) ∧ w.grownBy w' (some c) := by
  have H := hide h
  have hl0 := h.lt
  have hrow := hr.alloc (.cells #[.string s, .int .i64 p] 88)
  have hsh : v = .slice none 0 0 ∨ ∃ g cap, v = .slice (some ⟨g, 0, none⟩) l.length cap := row_shape (Row.of_own hr)
  clear h hr
  cases hc : l.contains s.data.toList
  · have HC := hide hc
    clear hc
    rcases hsh with rfl | ⟨g, cap, rfl⟩
    all_goals
      go_enter Tryz.func69, Tryz.ntmps69
      go_wp2_with fail
      refine (contains_any hrow hl s).mono ?_
      rintro e w1 ⟨rfl, rfl⟩
      rw [unhide HC]
      go_wp2_with fail
      go_end0
      refine ⟨rfl, ?_, gb_alloc _ _ _⟩
      simp only [after_nil]
      exact Blk.alloc (unhide H) _
  · have HC := hide hc
    clear hc
    rcases hsh with rfl | ⟨g, cap, rfl⟩
    all_goals
      go_enter Tryz.func69, Tryz.ntmps69
      go_wp2_with fail
      refine (contains_any hrow hl s).mono ?_
      rintro e w1 ⟨rfl, rfl⟩
      rw [unhide HC]
      go_wp2_with fail
      refine (blame_any (Blk.alloc (unhide H) _) s p).mono ?_
      rintro e w2 ⟨rfl, h2, hg2⟩
      have H2 := hide (And.intro h2 (gb_trans (gb_alloc _ _ _) hg2))
      clear h2 hg2
      go_wp2_with fail
      go_end0
      exact ⟨rfl, (unhide H2).1, (unhide H2).2⟩

end Go.Proofs.YtgahgkddaljmkaaGreatDoor

namespace Go.Proofs.YtgahgkddaljmkaaGreatDoor
open Go.RowKit

theorem namesCells_get : ∀ (l : List Th.Tok) (i : Nat) (t : Th.Tok), l[i]? = some t → (namesCells l)[i * 2]? = some (.string ⟨t.s.toArray⟩) ∧ (namesCells l)[i * 2 + 1]? = some (.int .i64 t.at_)
  | [], i, t, h => by simp at h
  | x :: l, 0, t, h => by
    simp only [List.getElem?_cons_zero, Option.some.injEq] at h
    subst h
    exact ⟨rfl, rfl⟩
  | x :: l, i + 1, t, h => by
    have ih := namesCells_get l i t (by simpa using h)
    have e : ∀ c, (namesCells (x :: l))[(i + 1) * 2 + c]? = (namesCells l)[i * 2 + c]? := by
      intro c
      rw [show namesCells (x :: l) = nameCells x ++ namesCells l from rfl, List.getElem?_append_right (by simp [nameCells]; omega)]
      congr 1
      simp [nameCells]
      omega
    refine ⟨?_, ?_⟩
    · have := e 0; simp only [Nat.add_zero] at this; rw [this]; exact ih.1
    · rw [e 1]; exact ih.2

theorem bindCells_get : ∀ (l : List Th.Tok) (vs : List Value) (i : Nat) (t : Th.Tok) (v : Value), l[i]? = some t → vs[i]? = some v → (bindCells l vs)[i * 3]? = some (.string ⟨t.s.toArray⟩) ∧ (bindCells l vs)[i * 3 + 1]? = some (.int .i64 t.at_) ∧ (bindCells l vs)[i * 3 + 2]? = some v
  | [], _, i, t, v, h, _ => by simp at h
  | _ :: _, [], i, t, v, _, h => by simp at h
  | x :: l, y :: vs, 0, t, v, h, h2 => by
    simp only [List.getElem?_cons_zero, Option.some.injEq] at h h2
    subst h h2
    exact ⟨rfl, rfl, rfl⟩
  | x :: l, y :: vs, i + 1, t, v, h, h2 => by
    have ih := bindCells_get l vs i t v (by simpa using h) (by simpa using h2)
    have e : ∀ c, (bindCells (x :: l) (y :: vs))[(i + 1) * 3 + c]? = (bindCells l vs)[i * 3 + c]? := by
      intro c
      rw [bindCells, List.getElem?_append_right (by simp; omega)]
      congr 1
      simp
      omega
    refine ⟨?_, ?_, ?_⟩
    · have := e 0; simp only [Nat.add_zero] at this; rw [this]; exact ih.1
    · rw [e 1]; exact ih.2.1
    · rw [e 2]; exact ih.2.2

theorem armCells_get : ∀ (l : List (Nat × List Th.Tok)) (ns vs : List Value) (i : Nat) (a : Nat × List Th.Tok) (n v : Value), l[i]? = some a → ns[i]? = some n → vs[i]? = some v → (armCells l ns vs)[i * 3]? = some (.int .i64 a.1) ∧ (armCells l ns vs)[i * 3 + 1]? = some n ∧ (armCells l ns vs)[i * 3 + 2]? = some v
  | [], _, _, i, _, _, _, h, _, _ => by simp at h
  | _ :: _, [], _, i, _, _, _, _, h, _ => by simp at h
  | _ :: _, _ :: _, [], i, _, _, _, _, _, h => by simp at h
  | x :: l, m :: ns, y :: vs, 0, a, n, v, h, h2, h3 => by
    simp only [List.getElem?_cons_zero, Option.some.injEq] at h h2 h3
    subst h h2 h3
    exact ⟨rfl, rfl, rfl⟩
  | x :: l, m :: ns, y :: vs, i + 1, a, n, v, h, h2, h3 => by
    have ih := armCells_get l ns vs i a n v (by simpa using h) (by simpa using h2) (by simpa using h3)
    have e : ∀ c, (armCells (x :: l) (m :: ns) (y :: vs))[(i + 1) * 3 + c]? = (armCells l ns vs)[i * 3 + c]? := by
      intro c
      rw [armCells, List.getElem?_append_right (by simp; omega)]
      congr 1
      simp
      omega
    refine ⟨?_, ?_, ?_⟩
    · have := e 0; simp only [Nat.add_zero] at this; rw [this]; exact ih.1
    · rw [e 1]; exact ih.2.1
    · rw [e 2]; exact ih.2.2

theorem lineCells_get : ∀ (l : List Th.Line) (ns vs : List Value) (i : Nat) (a : Th.Line) (n v : Value), l[i]? = some a → ns[i]? = some n → vs[i]? = some v → (lineCells l ns vs)[i * 4]? = some (.string ⟨a.name.s.toArray⟩) ∧ (lineCells l ns vs)[i * 4 + 1]? = some (.int .i64 a.name.at_) ∧ (lineCells l ns vs)[i * 4 + 2]? = some n ∧ (lineCells l ns vs)[i * 4 + 3]? = some v
  | [], _, _, i, _, _, _, h, _, _ => by simp at h
  | _ :: _, [], _, i, _, _, _, _, h, _ => by simp at h
  | _ :: _, _ :: _, [], i, _, _, _, _, _, h => by simp at h
  | x :: l, m :: ns, y :: vs, 0, a, n, v, h, h2, h3 => by
    simp only [List.getElem?_cons_zero, Option.some.injEq] at h h2 h3
    subst h h2 h3
    exact ⟨rfl, rfl, rfl, rfl⟩
  | x :: l, m :: ns, y :: vs, i + 1, a, n, v, h, h2, h3 => by
    have ih := lineCells_get l ns vs i a n v (by simpa using h) (by simpa using h2) (by simpa using h3)
    have e : ∀ c, (lineCells (x :: l) (m :: ns) (y :: vs))[(i + 1) * 4 + c]? = (lineCells l ns vs)[i * 4 + c]? := by
      intro c
      rw [lineCells, List.getElem?_append_right (by simp; omega)]
      congr 1
      simp
      omega
    refine ⟨?_, ?_, ?_, ?_⟩
    · have := e 0; simp only [Nat.add_zero] at this; rw [this]; exact ih.1
    · rw [e 1]; exact ih.2.1
    · rw [e 2]; exact ih.2.2.1
    · rw [e 3]; exact ih.2.2.2

theorem infoStr : (Tryz.prog.info? 9).map (fun i => (i.zero, i.size, i.bytes)) = some (some (.string ⟨#[]⟩), 1, 16) := by kernel_rfl

theorem strCells_snoc (l : List (List UInt8)) (s : List UInt8) : strCells (l ++ [s]) = strCells l ++ [.string ⟨s.toArray⟩] := by simp [strCells]

theorem take_snoc_get {α : Type} {l : List α} {k : Nat} {t : α} (h : l[k]? = some t) : l.take (k + 1) = l.take k ++ [t] := by
  rw [List.take_add_one, h]; rfl

set_option maxRecDepth 100000 in
set_option maxHeartbeats 2000000 in
theorem texts_any {w : World} {S : Nat → Prop} {nv : Value} {l : List Th.Tok} (hr : Row S w 88 2 nv l.length (namesCells l)) (hl : l.length ≤ 1000000) :
    Calls Tryz.prog 52 #[nv] w fun e w' => ∃ v, e = .returned v ∧ w'.ownsRow w.heap.size 9 1 v l.length (strCells (Th.texts l)) ∧ Below w.heap.size w w' := by
  obtain ⟨i0, hi, hz0, hz1, hz2⟩ := info_parts infoStr
  have HI := hide hi; clear hi
  have HZ := hide (And.intro hz0 (And.intro hz1 hz2)); clear hz0 hz1 hz2
  have HR := hide hr
  rcases row_shape hr with hv | ⟨g, cap, hv⟩
  · have hl0 : l = [] := by
      rcases hr.1.2 with ⟨_, h0⟩ | ⟨_, _, _, h0, _⟩
      · exact List.length_eq_zero_iff.1 h0
      · rw [hv] at h0; cases h0
    subst hv hl0
    clear hr HR
    go_enter Tryz.func52, Tryz.ntmps52
    go_wp2_with fail
    refine wp_loop_rounds 1 ?_
    rw [rounds_succ]
    go_wp2_with fail
    go_ret
    exact ⟨_, rfl, World.ownsRow_nil _ _ _ _, Below.refl _ _⟩
  · subst hv
    clear hr
    go_enter Tryz.func52, Tryz.ntmps52
    go_wp2_with fail
    go_loopg [3, 8] l.length (fun gk v i wr => ∃ k : Nat, i = .int .i64 k ∧ k ≤ l.length ∧ l.length - k ≤ gk ∧ wr.ownsRow w.heap.size 9 1 v k (strCells (Th.texts (l.take k))) ∧ Below w.heap.size w wr)
    case atStart => exact ⟨0, rfl, Nat.zero_le _, by omega, World.ownsRow_nil _ _ _ _, Below.refl _ _⟩
    case round =>
      obtain ⟨k, rfl, hk, hgk, hown, hb⟩ := hrel
      have Ho := hide hown
      have Hb := hide hb
      have hsz := hb.size
      by_cases hlt : k < l.length
      · obtain ⟨t, ht⟩ : ∃ t, l[k]? = some t := ⟨l[k], List.getElem?_eq_getElem hlt⟩
        have hc := namesCells_get l k t ht
        have hrow := (unhide HR).1.kept (gb_below none hb) (own_none _)
        have c0 := (hrow.cellAt (k * 2) (by omega)).trans hc.1
        have c1 := (hrow.cellAt (k * 2 + 1) (by omega)).trans hc.2
        have hg := (hrow.lt g rfl).2
        have Ht := hide (take_snoc_get ht)
        have hown2 := (hown.alloc (.cells #[.string ⟨t.s.toArray⟩, .int .i64 t.at_] 88)).alloc (.cells #[.string ⟨t.s.toArray⟩] 9)
        clear hown hb ht hc hrow
        go_wp2_with (at_builtin; refine wpList_append_own _ rfl _ _ 38 rfl w.heap.size 9 i0 _ 1 16 Tryz.underlying38 (unhide HI) (unhide HZ).1 (unhide HZ).2.1 (unhide HZ).2.2 rfl (by decide) _ _ _ rfl hown2 ⟨wr.heap.size + 1, 0, none⟩ 1 1 [.string ⟨t.s.toArray⟩] rfl rfl (World.news_of_block (cs := #[.string ⟨t.s.toArray⟩]) (t := 9) (fr := (0, 0)) (by have := heap_alloc_new (wr.alloc (.cells #[.string ⟨t.s.toArray⟩, .int .i64 t.at_] 88)) (.cells #[.string ⟨t.s.toArray⟩] 9); simpa using this)) (by simp [Value.oneCell']) (by unfold maxLen; omega) (by omega) (by simp; omega) ?_; intro v' w3 hown' hgrow _)
        go_roundg (l.length - (k + 1))
        case measure => omega
        case rel =>
          refine ⟨k + 1, by go_num, by omega, Nat.le_refl _, ?_, below_gb (gb_own (gb_trans (gb_trans (gb_below none (unhide Hb)) (gb_alloc _ _ _)) (gb_alloc _ _ _)) hown2 hgrow)⟩
          rw [unhide Ht, show Th.texts (l.take k ++ [t]) = Th.texts (l.take k) ++ [t.s] from by simp [Th.texts], strCells_snoc]
          exact hown'
      · have hk2 : k = l.length := by omega
        have Hk := hide hk2
        clear hown hb hk2
        go_wp2_with fail
        go_ret
        refine ⟨_, rfl, ?_, unhide Hb⟩
        have ho := unhide Ho
        rw [unhide Hk, List.take_of_length_le (Nat.le_refl _)] at ho
        exact ho

end Go.Proofs.YtgahgkddaljmkaaGreatDoor

namespace Go.Proofs.YtgahgkddaljmkaaGreatDoor
open Go.RowKit

theorem rep_one {S : Nat → Prop} {w : World} : ∀ {n : Nat} {v : Value} {e : Th.Ex}, Rep S w n v e → One v
  | 0, _, _, h => h.elim
  | n + 1, v, e, h => by
    rcases h with ⟨_, h⟩ | ⟨_, h⟩ | ⟨_, h⟩ | ⟨_, _, _, _, _, h, _⟩ | ⟨_, _, _, _, _, _, h, _⟩ | ⟨_, _, _, _, _, _, h, _⟩ | ⟨_, _, _, _, _, _, _, h, _⟩ | ⟨_, _, _, _, _, _, _, _, h, _⟩
    all_goals exact ⟨.inr ⟨_, _, h⟩⟩

set_option maxRecDepth 100000 in
set_option maxHeartbeats 2000000 in
theorem functionNames_any {w : World} {S : Nat → Prop} {pv : Value} {l : List Th.Line} {nvs bvs : List Value} (hr : Row S w 93 4 pv l.length (lineCells l nvs bvs)) (h1 : nvs.length = l.length) (h2 : bvs.length = l.length)
    (ho : ∀ (i : Nat) (nv bv : Value), nvs[i]? = some nv → bvs[i]? = some bv → nv.oneCell' = true ∧ bv.oneCell' = true) (hl : l.length ≤ 1000000) :
    Calls Tryz.prog 49 #[pv] w fun e w' => ∃ v, e = .returned v ∧ w'.ownsRow w.heap.size 9 1 v l.length (strCells (Th.fnames l)) ∧ Below w.heap.size w w' := by
  obtain ⟨i0, hi, hz0, hz1, hz2⟩ := info_parts infoStr
  have HI := hide hi; clear hi
  have HZ := hide (And.intro hz0 (And.intro hz1 hz2)); clear hz0 hz1 hz2
  have HR := hide hr
  rcases row_shape hr with hv | ⟨g, cap, hv⟩
  · have hl0 : l = [] := by
      rcases hr.1.2 with ⟨_, h0⟩ | ⟨_, _, _, h0, _⟩
      · exact List.length_eq_zero_iff.1 h0
      · rw [hv] at h0; cases h0
    subst hv hl0
    clear hr HR ho h1 h2
    go_enter Tryz.func49, Tryz.ntmps49
    go_wp2_with fail
    refine wp_loop_rounds 1 ?_
    rw [rounds_succ]
    go_wp2_with fail
    go_ret
    exact ⟨_, rfl, World.ownsRow_nil _ _ _ _, Below.refl _ _⟩
  · subst hv
    have HO := hide ho
    have H1 := hide h1
    have H2 := hide h2
    clear hr ho h1 h2
    go_enter Tryz.func49, Tryz.ntmps49
    go_wp2_with fail
    go_loopg [3, 8] l.length (fun gk v i wr => ∃ k : Nat, i = .int .i64 k ∧ k ≤ l.length ∧ l.length - k ≤ gk ∧ wr.ownsRow w.heap.size 9 1 v k (strCells (Th.fnames (l.take k))) ∧ Below w.heap.size w wr)
    case atStart => exact ⟨0, rfl, Nat.zero_le _, by omega, World.ownsRow_nil _ _ _ _, Below.refl _ _⟩
    case round =>
      obtain ⟨k, rfl, hk, hgk, hown, hb⟩ := hrel
      have Ho := hide hown
      have Hb := hide hb
      have hsz := hb.size
      by_cases hlt : k < l.length
      · obtain ⟨t, ht⟩ : ∃ t, l[k]? = some t := ⟨l[k], List.getElem?_eq_getElem hlt⟩
        obtain ⟨nv, hnv⟩ : ∃ nv, nvs[k]? = some nv := ⟨_, List.getElem?_eq_getElem (by rw [unhide H1]; exact hlt)⟩
        obtain ⟨bv, hbv⟩ : ∃ bv, bvs[k]? = some bv := ⟨_, List.getElem?_eq_getElem (by rw [unhide H2]; exact hlt)⟩
        have hc := lineCells_get l nvs bvs k t nv bv ht hnv hbv
        have hon := (unhide HO k nv bv hnv hbv).1
        have hob := (unhide HO k nv bv hnv hbv).2
        have sn := fun (W : World) (a : Addr) (m : Mode) => run_store Tryz.prog W a nv m hon
        have sb := fun (W : World) (a : Addr) (m : Mode) => run_store Tryz.prog W a bv m hob
        have hrow := (unhide HR).1.kept (gb_below none hb) (own_none _)
        have c0 := (hrow.cellAt (k * 4) (by omega)).trans hc.1
        have c1 := (hrow.cellAt (k * 4 + 1) (by omega)).trans hc.2.1
        have c2 := (hrow.cellAt (k * 4 + 2) (by omega)).trans hc.2.2.1
        have c3 := (hrow.cellAt (k * 4 + 3) (by omega)).trans hc.2.2.2
        have hg := (hrow.lt g rfl).2
        have Ht := hide (take_snoc_get ht)
        have hown2 := (hown.alloc (.cells #[.string ⟨t.name.s.toArray⟩, .int .i64 t.name.at_, nv, bv] 93)).alloc (.cells #[.string ⟨t.name.s.toArray⟩] 9)
        clear hown hb ht hc hrow hnv hbv
        go_wp2_with (at_builtin; refine wpList_append_own _ rfl _ _ 38 rfl w.heap.size 9 i0 _ 1 16 Tryz.underlying38 (unhide HI) (unhide HZ).1 (unhide HZ).2.1 (unhide HZ).2.2 rfl (by decide) _ _ _ rfl hown2 ⟨wr.heap.size + 1, 0, none⟩ 1 1 [.string ⟨t.name.s.toArray⟩] rfl rfl (World.news_of_block (cs := #[.string ⟨t.name.s.toArray⟩]) (t := 9) (fr := (0, 0)) (by have := heap_alloc_new (wr.alloc (.cells #[.string ⟨t.name.s.toArray⟩, .int .i64 t.name.at_, nv, bv] 93)) (.cells #[.string ⟨t.name.s.toArray⟩] 9); simpa using this)) (by simp [Value.oneCell']) (by unfold maxLen; omega) (by omega) (by simp; omega) ?_; intro v' w3 hown' hgrow _)
        go_roundg (l.length - (k + 1))
        case measure => omega
        case rel =>
          refine ⟨k + 1, by go_num, by omega, Nat.le_refl _, ?_, below_gb (gb_own (gb_trans (gb_trans (gb_below none (unhide Hb)) (gb_alloc _ _ _)) (gb_alloc _ _ _)) hown2 hgrow)⟩
          rw [unhide Ht, show Th.fnames (l.take k ++ [t]) = Th.fnames (l.take k) ++ [t.name.s] from by simp [Th.fnames], strCells_snoc]
          exact hown'
      · have hk2 : k = l.length := by omega
        have Hk := hide hk2
        clear hown hb hk2
        go_wp2_with fail
        go_ret
        refine ⟨_, rfl, ?_, unhide Hb⟩
        have ho := unhide Ho
        rw [unhide Hk, List.take_of_length_le (Nat.le_refl _)] at ho
        exact ho

set_option maxRecDepth 100000 in
set_option maxHeartbeats 2000000 in
theorem bindNames_any {w : World} {S : Nat → Prop} {pv : Value} {l : List Th.Tok} {pvs : List Value} {rb : Bool} {bt : TypeId} {bx : Value} (hr : Row S w 312 3 pv l.length (bindCells l pvs)) (h1 : pvs.length = l.length)
    (ho : ∀ (i : Nat) (bv : Value), pvs[i]? = some bv → bv.oneCell' = true) (hl : l.length ≤ 1000000) :
    Calls Tryz.prog 197 #[.agg #[.bool rb, pv, .iface bt bx]] w fun e w' => ∃ v, e = .returned v ∧ w'.ownsRow w.heap.size 9 1 v l.length (strCells (Th.texts l)) ∧ Below w.heap.size w w' := by
  obtain ⟨i0, hi, hz0, hz1, hz2⟩ := info_parts infoStr
  have HI := hide hi; clear hi
  have HZ := hide (And.intro hz0 (And.intro hz1 hz2)); clear hz0 hz1 hz2
  have HR := hide hr
  rcases row_shape hr with hv | ⟨g, cap, hv⟩
  · have hl0 : l = [] := by
      rcases hr.1.2 with ⟨_, h0⟩ | ⟨_, _, _, h0, _⟩
      · exact List.length_eq_zero_iff.1 h0
      · rw [hv] at h0; cases h0
    subst hv hl0
    clear hr HR ho h1
    go_enter Tryz.func197, Tryz.ntmps197
    go_wp2_with fail
    refine wp_loop_rounds 1 ?_
    rw [rounds_succ]
    go_wp2_with fail
    go_ret
    exact ⟨_, rfl, World.ownsRow_nil _ _ _ _, below_alloc _ _⟩
  · subst hv
    have HO := hide ho
    have H1 := hide h1
    clear hr ho h1
    go_enter Tryz.func197, Tryz.ntmps197
    go_wp2_with fail
    go_loopg [3, 9] l.length (fun gk v i wr => ∃ k : Nat, i = .int .i64 k ∧ k ≤ l.length ∧ l.length - k ≤ gk ∧ wr.ownsRow w.heap.size 9 1 v k (strCells (Th.texts (l.take k))) ∧ Below w.heap.size w wr)
    case atStart => exact ⟨0, rfl, Nat.zero_le _, by omega, World.ownsRow_nil _ _ _ _, below_alloc _ _⟩
    case round =>
      obtain ⟨k, rfl, hk, hgk, hown, hb⟩ := hrel
      have Ho := hide hown
      have Hb := hide hb
      have hsz := hb.size
      by_cases hlt : k < l.length
      · obtain ⟨t, ht⟩ : ∃ t, l[k]? = some t := ⟨l[k], List.getElem?_eq_getElem hlt⟩
        obtain ⟨bv, hbv⟩ : ∃ bv, pvs[k]? = some bv := ⟨_, List.getElem?_eq_getElem (by rw [unhide H1]; exact hlt)⟩
        have hc := bindCells_get l pvs k t bv ht hbv
        have hob := unhide HO k bv hbv
        have sb := fun (W : World) (a : Addr) (m : Mode) => run_store Tryz.prog W a bv m hob
        have hrow := (unhide HR).1.kept (gb_below none hb) (own_none _)
        have c0 := (hrow.cellAt (k * 3) (by omega)).trans hc.1
        have c1 := (hrow.cellAt (k * 3 + 1) (by omega)).trans hc.2.1
        have c2 := (hrow.cellAt (k * 3 + 2) (by omega)).trans hc.2.2
        have hg := (hrow.lt g rfl).2
        have Ht := hide (take_snoc_get ht)
        have hown2 := (hown.alloc (.cells #[.string ⟨t.s.toArray⟩, .int .i64 t.at_, bv] 312)).alloc (.cells #[.string ⟨t.s.toArray⟩] 9)
        clear hown hb ht hc hrow hbv
        go_wp2_with (at_builtin; refine wpList_append_own _ rfl _ _ 38 rfl w.heap.size 9 i0 _ 1 16 Tryz.underlying38 (unhide HI) (unhide HZ).1 (unhide HZ).2.1 (unhide HZ).2.2 rfl (by decide) _ _ _ rfl hown2 ⟨wr.heap.size + 1, 0, none⟩ 1 1 [.string ⟨t.s.toArray⟩] rfl rfl (World.news_of_block (cs := #[.string ⟨t.s.toArray⟩]) (t := 9) (fr := (0, 0)) (by have := heap_alloc_new (wr.alloc (.cells #[.string ⟨t.s.toArray⟩, .int .i64 t.at_, bv] 312)) (.cells #[.string ⟨t.s.toArray⟩] 9); simpa using this)) (by simp [Value.oneCell']) (by unfold maxLen; omega) (by omega) (by simp; omega) ?_; intro v' w3 hown' hgrow _)
        go_roundg (l.length - (k + 1))
        case measure => omega
        case rel =>
          refine ⟨k + 1, by go_num, by omega, Nat.le_refl _, ?_, below_gb (gb_own (gb_trans (gb_trans (gb_below none (unhide Hb)) (gb_alloc _ _ _)) (gb_alloc _ _ _)) hown2 hgrow)⟩
          rw [unhide Ht, show Th.texts (l.take k ++ [t]) = Th.texts (l.take k) ++ [t.s] from by simp [Th.texts], strCells_snoc]
          exact hown'
      · have hk2 : k = l.length := by omega
        have Hk := hide hk2
        clear hown hb hk2
        go_wp2_with fail
        go_ret
        refine ⟨_, rfl, ?_, unhide Hb⟩
        have ho := unhide Ho
        rw [unhide Hk, List.take_of_length_le (Nat.le_refl _)] at ho
        exact ho

end Go.Proofs.YtgahgkddaljmkaaGreatDoor

namespace Go.Proofs.YtgahgkddaljmkaaGreatDoor
open Go.RowKit
attribute [local go_sem ↓] Go.wp_at_zero Go.wp_at_succ

theorem dups_snoc : ∀ (seen : List (List UInt8)) (l : List Th.Tok) (t : Th.Tok), Th.dups seen (l ++ [t]) = Th.dups seen l ++ (if (seen ++ Th.texts l).contains t.s then [t.at_] else [])
  | seen, [], t => by simp [Th.dups, Th.texts]
  | seen, x :: l, t => by
    simp only [List.cons_append, Th.dups]
    rw [dups_snoc (seen ++ [x.s]) l t]
    simp [Th.texts]

theorem strCells_take (l : List Th.Tok) (k : Nat) : (strCells (Th.texts l)).take k = strCells (Th.texts (l.take k)) := by simp [strCells, Th.texts]

set_option maxRecDepth 100000 in
set_option maxHeartbeats 4000000 in
theorem distinct_any {w : World} {c : Nat} {o : Option Nat} (h : Chk w c o) {S : Nat → Prop} {nv : Value} {l : List Th.Tok} (hr : Row S w 88 2 nv l.length (namesCells l)) (hS : ¬ S c) (hl : l.length ≤ 1000000) :
    Calls Tryz.prog 70 #[.pointer (some ⟨c, 0, none⟩), nv] w fun e w' => e = .returned (.tuple #[]) ∧ Chk w' c (after o (Th.dups [] l)) ∧ w.grownBy w' (some c) := by
  have hcl := h.lt
  have H := hide h
  have HR := hide hr
  have HS := hide hS
  have hsh := row_shape hr
  clear h hS
  rcases hsh with hv | ⟨g, cap, hv⟩
  · have hl0 : l = [] := by
      rcases hr.1.2 with ⟨_, h0⟩ | ⟨_, _, _, h0, _⟩
      · exact List.length_eq_zero_iff.1 h0
      · rw [hv] at h0; cases h0
    subst hv hl0
    go_enter Tryz.func70, Tryz.ntmps70
    go_wp2_with fail
    refine (texts_any hr hl).mono ?_
    rintro e w1 ⟨v, rfl, hrow, hb⟩
    have hsh2 := row_shape (Row.of_own hrow)
    have Hb := hide hb
    clear hr hrow hb
    rcases hsh2 with rfl | ⟨g2, cap2, rfl⟩
    all_goals
      go_wp2_with fail
      refine wp_loop_rounds 1 ?_
      rw [rounds_succ]
      go_wp2_with fail
      go_end0
      exact ⟨rfl, by rw [show Th.dups [] [] = [] from rfl, after_nil]; exact (unhide H).below (unhide Hb), gb_below _ (unhide Hb)⟩
  · subst hv
    go_enter Tryz.func70, Tryz.ntmps70
    go_wp2_with fail
    refine (texts_any hr hl).mono ?_
    rintro e w1 ⟨v, rfl, hrow, hb⟩
    have HT := hide hrow
    have Hb := hide hb
    have hz := hb.size
    have hsh2 : v = .slice none 0 0 ∨ ∃ g2 cap2, v = .slice (some ⟨g2, 0, none⟩) l.length cap2 := by simpa [Th.texts] using row_shape (Row.of_own hrow)
    clear hr hb hrow
    rcases hsh2 with rfl | ⟨g2, cap2, rfl⟩
    · have hl0 : l = [] := by
        rcases (unhide HT).2 with ⟨_, h0⟩ | ⟨_, _, _, h0, _⟩
        · exact List.length_eq_zero_iff.1 h0
        · cases h0
      subst hl0
      go_wp2_with fail
      refine wp_loop_rounds 1 ?_
      rw [rounds_succ]
      go_wp2_with fail
      go_end0
      exact ⟨rfl, by rw [show Th.dups [] [] = [] from rfl, after_nil]; exact (unhide H).below (unhide Hb), gb_below _ (unhide Hb)⟩
    · have hcap2 : l.length ≤ cap2 := by
        rcases (unhide HT).2 with ⟨h0, _⟩ | ⟨_, _, _, h0, _, _, hn, _⟩
        · cases h0
        · cases h0; exact hn
      go_wp2_with fail
      go_loopg [11] l.length (fun gk i wr => ∃ k : Nat, i = .int .i64 k ∧ k ≤ l.length ∧ l.length - k ≤ gk ∧ Chk wr c (after o (Th.dups [] (l.take k))) ∧ w1.grownBy wr (some c))
      case atStart => exact ⟨0, rfl, Nat.zero_le _, by omega, by rw [show Th.dups [] (l.take 0) = [] from rfl, after_nil]; exact (unhide H).below (unhide Hb), gb_refl _ _⟩
      case round =>
        obtain ⟨k, rfl, hk, hgk, hch, hg⟩ := hrel
        have Hch := hide hch
        have Hg := hide hg
        have hsz := hg.size
        by_cases hlt : k < l.length
        · obtain ⟨t, ht⟩ : ∃ t, l[k]? = some t := ⟨l[k], List.getElem?_eq_getElem hlt⟩
          have hc := namesCells_get l k t ht
          have hrow := (((unhide HR).gb (gb_below none (unhide Hb)) (by simp)).gb hg (fun j hj => by cases hj; exact unhide HS)).1
          have c0 := (hrow.cellAt (k * 2) (by omega)).trans hc.1
          have c1 := (hrow.cellAt (k * 2 + 1) (by omega)).trans hc.2
          have hgl := (hrow.lt g rfl).2
          have Ht := hide (take_snoc_get ht)
          have hk0 : (0 : Int) ≤ (k : Int) := Int.natCast_nonneg _
          have hk1 : (k : Int) ≤ (cap2 : Int) := by omega
          have hT2 := own_take ((unhide HT).kept hg (own_ne (unhide HT) hcl)) (i := k) (by omega)
          rw [strCells_take] at hT2
          have HT3 : Hid (wr.ownsRow w.heap.size 9 1 (.slice (some ⟨g2, 0, none⟩) k cap2) (Th.texts (l.take k)).length (strCells (Th.texts (l.take k)))) := hide (by
            rw [show (Th.texts (l.take k)).length = k by simp [Th.texts]; omega]
            exact hT2)
          have CON := hide (fun (W : World) (hW : Chk W c (after o (Th.dups [] (l.take k)))) (hR : W.ownsRow w.heap.size 9 1 (.slice (some ⟨g2, 0, none⟩) k cap2) (Th.texts (l.take k)).length (strCells (Th.texts (l.take k)))) => fresh_any hW ⟨t.s.toArray⟩ t.at_ hR (by simp [Th.texts]; omega))
          have Hd : Hid (Th.dups [] (l.take (k + 1)) = Th.dups [] (l.take k) ++ (if (Th.texts (l.take k)).contains t.s then [t.at_] else [])) := hide (by rw [unhide Ht, dups_snoc]; simp)
          clear hch hg ht hc hrow hT2
          go_wp2_with fail
          go_region_with (go_at_call 69; refine (unhide CON _ ?_ ?_).mono ?_; exact Blk.drew (Blk.alloc (unhide Hch) _); exact ((unhide HT3).alloc _).drew; rintro e w3 ⟨rfl, h3, hg3⟩; have H3 := hide h3; have HG3 := hide hg3; clear h3 hg3)
          all_goals
            go_wp2_with fail
            go_roundg (l.length - (k + 1))
            case measure => omega
            case rel =>
              refine ⟨k + 1, by go_num, by omega, Nat.le_refl _, ?_, gb_trans (gb_trans (gb_trans (unhide Hg) (gb_alloc _ _ _)) (gb_drew _ _)) (unhide HG3)⟩
              rw [unhide Hd, after_append]
              exact unhide H3
        · have hk2 : k = l.length := by omega
          have Hk := hide hk2
          clear hch hg hk2
          go_wp2_with fail
          go_end0
          refine ⟨rfl, ?_, gb_trans (gb_below _ (unhide Hb)) (unhide Hg)⟩
          have ho := unhide Hch
          rw [unhide Hk, List.take_of_length_le (Nat.le_refl _)] at ho
          exact ho

end Go.Proofs.YtgahgkddaljmkaaGreatDoor

namespace Go.Proofs
open Go.Shelf
def Tryz.growS_ren : Go.Shelf.Ren := ⟨fun | 4 => 123 | n => n, fun | 22 => 38 | 25 => 9 | 3 => 3 | 4 => 4 | 9 => 9 | 20 => 20 | 0 => 0 | n => n, fun | n => n⟩
theorem Tryz.growS : Go.Proofs.Lays8.n4 Tryz.prog Tryz.growS_ren := {
  mixed := by kernel_rfl
  f4 := ⟨Tryz.f123.name, by decide, Tryz.func123.trans (congrArg some (by kernel_rfl))⟩
  t0 := Tryz.underlying0
  a0 := Tryz.isAgg0
  z0 := Tryz.sizeOf0
  v0 := Tryz.zeroValue0
  t3 := Tryz.underlying3
  a3 := Tryz.isAgg3
  z3 := Tryz.sizeOf3
  v3 := Tryz.zeroValue3
  t4 := Tryz.underlying4
  a4 := Tryz.isAgg4
  z4 := Tryz.sizeOf4
  v4 := Tryz.zeroValue4
  t9 := Tryz.underlying9
  a9 := Tryz.isAgg9
  z9 := Tryz.sizeOf9
  v9 := Tryz.zeroValue9
  t20 := Tryz.underlying20
  a20 := Tryz.isAgg20
  z20 := Tryz.sizeOf20
  v20 := Tryz.zeroValue20
  t22 := Tryz.underlying38
  a22 := Tryz.isAgg38
  z22 := Tryz.sizeOf38
  v22 := Tryz.zeroValue38 }
end Go.Proofs

namespace Go.Proofs.YtgahgkddaljmkaaGreatDoor
open Go.RowKit

theorem grow_any (w : World) (n : Nat) (hn : n ≤ 4000000) :
    Calls Tryz.prog 123 #[.slice none 0 0, .int .i64 n] w fun e w' => ∃ v, e = .returned v ∧ w'.ownsRow w.heap.size 9 1 v 0 [] ∧ Below w.heap.size w w' := by
  obtain ⟨i0, hi, hz0, hz1, hz2⟩ := info_parts infoStr
  by_cases h0 : n = 0
  · subst h0
    refine (Any8.slices_Grow_room Tryz.growS none 0 0 0 w (by omega) (by omega) (by omega) (by omega)).mono ?_
    rintro e w' ⟨rfl, rfl⟩
    exact ⟨_, rfl, World.ownsRow_nil _ _ _ _, Below.refl _ _⟩
  · refine (Any8.slices_Grow_grow Tryz.growS i0 _ hi hz0 (by omega) none 0 0 n [] w (by omega) (by omega) (by rw [hz2]; omega) (by omega) (by simp) (fun _ => rfl) (fun a ha => by cases ha)).mono ?_
    rintro e w' ⟨rfl, rfl⟩
    refine ⟨_, rfl, ?_, below_gb (gb_trans (gb_drew _ _) (gb_alloc _ _ _))⟩
    have := World.ownsRow_made (e := 9) (base := w.heap.size) (size := 1) w.drew (([] : List Value).toArray ++ Builtin.zeroCells (Value.string ⟨#[]⟩).cells (0 + n - 0) ++ Builtin.zeroCells (Value.string ⟨#[]⟩).cells (grownCap w (0 + n) 0 9 - (0 + n))) (grownCap w (0 + n) 0 9) (by simp) (grownCap_le_maxLen _ _ _ _ (by unfold maxLen; omega)) ?_
    · exact this
    · have := grownCap_ge w (0 + n) 0 9
      rw [Array.size_append, Array.size_append, size_zeroCells, size_zeroCells]
      show 0 + (0 + n - 0) * 1 + (_ - (0 + n)) * 1 = _
      omega

theorem strCells_one {l : List (List UInt8)} : ∀ u ∈ strCells l, u.oneCell' = true := by
  intro u hu
  obtain ⟨s, _, rfl⟩ := List.mem_map.1 hu
  rfl

theorem run_app {w : World} {base : Nat} {v x : Value} {l1 l2 : List (List UInt8)} {S : Nat → Prop} (ty : TypeId) (hv : w.ownsRow base 9 1 v l1.length (strCells l1)) (hx : Row S w 9 1 x l2.length (strCells l2))
    (h1 : l1.length ≤ 2000000) (h2 : l2.length ≤ 2000000) (hb : base ≤ w.heap.size) :
    ∃ v' w', (Builtin.append_ #[38, 38] ty #[v, x]).run Tryz.prog w = .ok v' w' ∧ w'.ownsRow base 9 1 v' (l1 ++ l2).length (strCells (l1 ++ l2)) ∧ w.grownBy w' v.ownBlock := by
  obtain ⟨i0, hi, hz0, hz1, hz2⟩ := info_parts infoStr
  rcases row_shape hx with rfl | ⟨g, cap, rfl⟩
  · have hl0 : l2 = [] := by
      rcases hx.1.2 with ⟨_, h0⟩ | ⟨_, _, _, h0, _⟩
      · exact List.length_eq_zero_iff.1 h0
      · cases h0
    subst hl0
    rcases row_shape (Row.of_own hv) with rfl | ⟨g, cap, rfl⟩
    · refine ⟨.slice none 0 0, w, by kernel_rfl, by simpa using hv, gb_refl _ _⟩
    · refine ⟨.slice (some ⟨g, 0, none⟩) l1.length cap, w, ?_, by simpa using hv, gb_refl _ _⟩
      have hcap : l1.length ≤ cap := by
        rcases hv.2 with ⟨h0, _⟩ | ⟨_, _, _, h0, _, _, hn, _⟩
        · cases h0
        · cases h0; exact hn
      exact run_append_room_src (P := Tryz.prog) w 38 38 ty 9 i0 Tryz.underlying38 hi g 0 l1.length cap (.slice none 0 0) 0 [] (Src.ofNil w Tryz.underlying38 0) (by omega) (by simp) (by simp)
  · obtain ⟨v', w', hr, ho, hg, _⟩ := run_append_own (P := Tryz.prog) w base 38 ty 9 i0 _ 1 16 Tryz.underlying38 hi hz0 hz1 hz2 rfl (by decide) v l1.length (strCells l1) hv ⟨g, 0, none⟩ l2.length cap (strCells l2) (by simp [strCells]) (hx.1.cells (g := g) rfl) strCells_one (by unfold maxLen; omega) (by omega) hb
    refine ⟨v', w', hr, ?_, hg⟩
    rw [show strCells (l1 ++ l2) = strCells l1 ++ strCells l2 by simp [strCells], List.length_append]
    exact ho

theorem wpList_app {ops : Array Oper} {rest : List Oper} {o : Oper} {a : Act} {Q : Exit → Act → World → Prop} (hgd : o.guard = none) (s x : Operand)
    (ho : o.op = .call { callee := .builtin .append, args := #[s, x], argTypes := #[38, 38] })
    {w : World} {base : Nat} {v xv : Value} {l1 l2 : List (List UInt8)} {S : Nat → Prop} (hs : a.eval s = v) (hxe : a.eval x = xv) (hv : w.ownsRow base 9 1 v l1.length (strCells l1)) (hx : Row S w 9 1 xv l2.length (strCells l2))
    (h1 : l1.length ≤ 2000000) (h2 : l2.length ≤ 2000000) (hb : base ≤ w.heap.size)
    (h : ∀ v' w', w'.ownsRow base 9 1 v' (l1 ++ l2).length (strCells (l1 ++ l2)) → w.grownBy w' v.ownBlock → wpList Tryz.prog ops Q rest (a.put o.dst v') w') : wpList Tryz.prog ops Q (o :: rest) a w :=
  wpList_plain hgd fun _ hK => by
    obtain ⟨v', w', hr, h3, h4⟩ := run_app o.type hv hx h1 h2 hb
    unfold Oper.wp execOp
    simp only [ho, resolve, invoke, builtin, Sem.run_bind, Sem.run_pure, Result.andThen_ok, List.map_toArray, List.map_cons, List.map_nil, hs, hxe, hr]
    exact hK _ _ (h v' w' h3 h4)

set_option maxRecDepth 100000 in
set_option maxHeartbeats 4000000 in
theorem concat_any {w : World} {g : Nat} {x y : Value} {l1 l2 : List (List UInt8)} {S1 S2 : Nat → Prop} (hb : Blk w g [x, y] 38) (hx : Row S1 w 9 1 x l1.length (strCells l1)) (hy : Row S2 w 9 1 y l2.length (strCells l2))
    (h1 : l1.length ≤ 1000000) (h2 : l2.length ≤ 1000000) :
    Calls Tryz.prog 72 #[.slice (some ⟨g, 0, none⟩) 2 2] w fun e w' => ∃ v, e = .returned v ∧ w'.ownsRow w.heap.size 9 1 v (l1 ++ l2).length (strCells (l1 ++ l2)) ∧ Below w.heap.size w w' := by
  have hl := hb.lt
  have H := hide hb
  have c0 := Blk.cell hb 0
  have c1 := Blk.cell hb 1
  simp at c0 c1
  have HX := hide hx
  have HY := hide hy
  have hsx := row_shape hx
  have hsy := row_shape hy
  clear hb hx hy
  have hx0 : Hid (x = .slice none 0 0 → l1.length = 0) := hide (fun h => by
    rcases (unhide HX).1.2 with ⟨_, h0⟩ | ⟨_, _, _, h0, _⟩
    · exact h0
    · rw [h] at h0; cases h0)
  have hy0 : Hid (y = .slice none 0 0 → l2.length = 0) := hide (fun h => by
    rcases (unhide HY).1.2 with ⟨_, h0⟩ | ⟨_, _, _, h0, _⟩
    · exact h0
    · rw [h] at h0; cases h0)
  obtain ⟨xa, n1, xc, rfl, hn1⟩ : ∃ xa n1 xc, x = .slice xa n1 xc ∧ n1 = l1.length := by
    rcases hsx with h | ⟨g1, c1, h⟩
    · exact ⟨_, _, _, h, (unhide hx0 h).symm⟩
    · exact ⟨_, _, _, h, rfl⟩
  obtain ⟨ya, n2, yc, rfl, hn2⟩ : ∃ ya n2 yc, y = .slice ya n2 yc ∧ n2 = l2.length := by
    rcases hsy with h | ⟨g1, c1, h⟩
    · exact ⟨_, _, _, h, (unhide hy0 h).symm⟩
    · exact ⟨_, _, _, h, rfl⟩
  have hn1' : n1 ≤ 1000000 := by omega
  have hn2' : n2 ≤ 1000000 := by omega
  have HN := hide (And.intro hn1 hn2)
  clear hn1 hn2 hsx hsy h1 h2 hx0 hy0
  go_enter Tryz.func72, Tryz.ntmps72
  go_wp2_with fail
  refine wp_loop_rounds 3 ?_
  rw [rounds_succ]
  go_wp2_with fail
  have hsum : (0 : Int) ≤ (n1 : Int) + (n2 : Int) := by omega
  rw [rounds_succ]
  go_wp2_with fail
  rw [rounds_succ]
  go_wp2_with fail
  have hgr := grow_any w (n1 + n2) (by omega)
  rw [Int.natCast_add] at hgr
  refine hgr.mono ?_
  clear hgr
  rintro e w1 ⟨v, rfl, hown, hb⟩
  have d0 : w1.cell? ⟨g, 0, none⟩ = some (.slice xa n1 xc) := (World.cell?_of_block (hb.block g hl)).trans c0
  have d1 : w1.cell? ⟨g, 1, none⟩ = some (.slice ya n2 yc) := (World.cell?_of_block (hb.block g hl)).trans c1
  have C1 := hide c1
  have HO : Hid (w1.ownsRow w.heap.size 9 1 v ([] : List (List UInt8)).length (strCells [])) := hide hown
  have hX1 := (unhide HX).gb (gb_below none hb) (by simp)
  have Hb := hide hb
  have hsz := hb.size
  rcases row_shape (Row.of_own hown) with rfl | ⟨g2, cap2, rfl⟩
  all_goals
    clear hown hb c0 c1
    go_wp2_with fail
    refine wp_loop_rounds 3 ?_
    rw [rounds_succ]
    go_wp2_with (at_builtin; refine wpList_app rfl _ _ rfl rfl rfl (unhide HO) hX1 (by simp) (by have := unhide HN; omega) (by omega) ?_; intro v2 w2 hown2 hgrow2)
    have hgw : w.grownBy w2 none := gb_own (gb_below none (unhide Hb)) (unhide HO) hgrow2
    rw [List.nil_append] at hown2
    have e1 : w2.cell? ⟨g, 1, none⟩ = some (.slice ya n2 yc) := hgw.cell (unhide C1) (by simp)
    have hY2 := (unhide HY).gb hgw (by simp)
    have hsz2 := hgw.size
    have HG := hide hgw
    have HO2 := hide hown2
    have hs2 := row_shape (Row.of_own hown2)
    clear hgrow2 hgw hown2 d0 d1 hX1 HO
    rcases hs2 with rfl | ⟨g3, cap3, rfl⟩
    all_goals
      rw [rounds_succ]
      go_wp2_with (at_builtin; refine wpList_app rfl _ _ rfl rfl rfl (unhide HO2) hY2 (by have := unhide HN; omega) (by have := unhide HN; omega) (by omega) ?_; intro v3 w3 hown3 hgrow3)
      have HG3 : Hid (w.grownBy w3 none) := hide (gb_own (unhide HG) (unhide HO2) hgrow3)
      have HO3 := hide hown3
      have hs3 := row_shape (Row.of_own hown3)
      clear hgrow3 hown3 hY2 HO2
      rcases hs3 with rfl | ⟨g4, cap4, rfl⟩
      all_goals
        rw [rounds_succ]
        go_wp2_with fail
        go_ret
        exact ⟨_, rfl, unhide HO3, below_gb (unhide HG3)⟩

theorem row_slice {S : Nat → Prop} {w : World} {e : TypeId} {size n : Nat} {v : Value} {xs : List Value} (h : Row S w e size v n xs) : ∃ a k c, v = .slice a k c := by
  rcases row_shape h with h | ⟨g, cap, h⟩
  · exact ⟨_, _, _, h⟩
  · exact ⟨_, _, _, h⟩

theorem own_slice {w : World} {base : Nat} {e : TypeId} {size n : Nat} {v : Value} {xs : List Value} (h : w.ownsRow base e size v n xs) : ∃ a k c, v = .slice a k c := row_slice (Row.of_own h)

theorem rep_iface {S : Nat → Prop} {w : World} : ∀ {n : Nat} {v : Value} {e : Th.Ex}, Rep S w n v e → ∃ t x, v = .iface t x
  | 0, _, _, h => h.elim
  | n + 1, v, e, h => by
    rcases h with ⟨_, h⟩ | ⟨_, h⟩ | ⟨_, h⟩ | ⟨_, _, _, _, _, h, _⟩ | ⟨_, _, _, _, _, _, h, _⟩ | ⟨_, _, _, _, _, _, h, _⟩ | ⟨_, _, _, _, _, _, _, h, _⟩ | ⟨_, _, _, _, _, _, _, _, h, _⟩
    all_goals exact ⟨_, _, h⟩

/-- Concat of two slices that were just put into a new block. -/
theorem concat_new {w : World} {x y : Value} {l1 l2 : List (List UInt8)} {S1 S2 : Nat → Prop} (hx : Row S1 w 9 1 x l1.length (strCells l1)) (hy : Row S2 w 9 1 y l2.length (strCells l2))
    (h1 : l1.length ≤ 1000000) (h2 : l2.length ≤ 1000000) :
    Calls Tryz.prog 72 #[.slice (some ⟨w.heap.size, 0, none⟩) 2 2] (w.alloc (.cells #[x, y] 38)) fun e w' => ∃ a k c, e = .returned (.slice a k c) ∧ Row (fun b => w.heap.size ≤ b) w' 9 1 (.slice a k c) (l1 ++ l2).length (strCells (l1 ++ l2)) ∧ Below w.heap.size w w' := by
  refine (concat_any (Blk.new w [x, y] _) (hx.gb (gb_alloc _ _ none) (by simp)) (hy.gb (gb_alloc _ _ none) (by simp)) h1 h2).mono ?_
  rintro e w' ⟨v, rfl, ho, hb⟩
  obtain ⟨a, k, c, rfl⟩ := row_slice (Row.of_own ho)
  refine ⟨a, k, c, rfl, (Row.of_own ho).mono (fun j _ hj => ?_), below_gb (gb_trans (gb_alloc _ _ none) (gb_below none hb))⟩
  have := (gb_alloc w (.cells #[x, y] 38) none).size
  exact Nat.le_trans this hj

end Go.Proofs.YtgahgkddaljmkaaGreatDoor

namespace Go.Proofs.YtgahgkddaljmkaaGreatDoor
open Go.RowKit

namespace Th
/-- The places of a list of names rise from lo and stay under hi. -/
def Rise : Nat → Nat → List Tok → Prop
  | lo, hi, [] => lo ≤ hi
  | lo, hi, t :: r => lo ≤ t.at_ ∧ Rise (t.at_ + 1) hi r

def InBinds (P : Ex → Nat → Nat → Prop) : Nat → Nat → List Tok → List Ex → Prop
  | lo, hi, [], [] => lo ≤ hi
  | lo, hi, t :: r, e :: es => lo ≤ t.at_ ∧ ∃ m, P e (t.at_ + 1) m ∧ InBinds P m hi r es
  | _, _, _, _ => False

def InArms (P : Ex → Nat → Nat → Prop) : Nat → Nat → List (Nat × List Tok) → List Ex → Prop
  | lo, hi, [], [] => lo ≤ hi
  | lo, hi, a :: r, e :: es => ∃ m1 m2, Rise (lo + 1) m1 a.2 ∧ P e m1 m2 ∧ InArms P m2 hi r es
  | _, _, _, _ => False

/-- The names of an expression (of a depth) stand in the order of the source, from lo to under hi. -/
def In : Nat → Ex → Nat → Nat → Prop
  | 0, _, _, _ => False
  | n + 1, e, lo, hi => lo ≤ hi ∧
    (((e.kind = 1 ∨ e.kind = 3)) ∨ (e.kind = 2 ∧ lo ≤ e.tok.at_ ∧ e.tok.at_ < hi) ∨
     (e.kind = 4 ∧ ∃ b m, e.kids = [b] ∧ Rise lo m e.names ∧ In n b m hi) ∨
     ((e.kind = 5 ∨ e.kind = 6) ∧ ∃ e1 e2 m, e.kids = [e1, e2] ∧ In n e1 lo m ∧ In n e2 m hi) ∨
     ((e.kind = 7 ∨ e.kind = 8) ∧ ∃ b parts m, e.kids = b :: parts ∧ InBinds (In n) lo m e.names parts ∧ In n b m hi) ∨
     (e.kind = 9 ∧ ∃ b bodies m, e.kids = b :: bodies ∧ In n b lo m ∧ InArms (In n) m hi e.arms bodies))

theorem Rise.len : ∀ {lo hi : Nat} {l : List Tok}, Rise lo hi l → lo + l.length ≤ hi
  | lo, hi, [], h => h
  | lo, hi, t :: r, h => by
    have := Rise.len h.2
    have := h.1
    simp
    omega

theorem In.le : ∀ {n : Nat} {e : Ex} {lo hi : Nat}, In n e lo hi → lo ≤ hi
  | 0, _, _, _, h => h.elim
  | _ + 1, _, _, _, h => h.1

theorem InBinds.len {n : Nat} : ∀ {lo hi : Nat} {l : List Tok} {es : List Ex}, InBinds (In n) lo hi l es → lo + l.length ≤ hi
  | lo, hi, [], [], h => h
  | lo, hi, t :: r, e :: es, h => by
    obtain ⟨h1, m, h2, h3⟩ := h
    have := InBinds.len h3
    have := In.le h2
    simp
    omega
  | _, _, [], _ :: _, h => h.elim
  | _, _, _ :: _, [], h => h.elim

theorem InArms.len {n : Nat} : ∀ {lo hi : Nat} {l : List (Nat × List Tok)} {es : List Ex}, InArms (In n) lo hi l es → lo + l.length ≤ hi
  | lo, hi, [], [], h => h
  | lo, hi, a :: r, e :: es, h => by
    obtain ⟨m1, m2, h1, h2, h3⟩ := h
    have := InArms.len h3
    have := In.le h2
    have := Rise.len h1
    simp
    omega
  | _, _, [], _ :: _, h => h.elim
  | _, _, _ :: _, [], h => h.elim
end Th

/-- What expr promises, up to a depth. -/
def ScOK (n : Nat) : Prop := ∀ (w : World) (c : Nat) (o : Option Nat) (v : Value) (e : Th.Ex) (av : Value) (around : List (List UInt8)) (S A : Nat → Prop) (m lo hi : Nat),
  Chk w c o → Rep S w m v e → Th.In n e lo hi → Row A w 9 1 av around.length (strCells around) → ¬ S c → ¬ A c → around.length + (hi - lo) ≤ 1000000 →
    Calls Tryz.prog 71 #[.pointer (some ⟨c, 0, none⟩), v, av] w fun en w' => en = .returned (.tuple #[]) ∧ Chk w' c (after o (Th.wrongs n e around)) ∧ w.grownBy w' (some c)

set_option maxRecDepth 100000 in
set_option maxHeartbeats 4000000 in
theorem inside_any {n : Nat} (hx : ScOK n) {w : World} {c : Nat} {o : Option Nat} {nv v av : Value} {l : List Th.Tok} {e : Th.Ex} {around : List (List UInt8)} {S A : Nat → Prop} {m lo mid hi : Nat}
    (hc : Chk w c o) (hn : Row S w 88 2 nv l.length (namesCells l)) (hr : Rep S w m v e) (h1 : Th.Rise lo mid l) (h2 : Th.In n e mid hi) (ha : Row A w 9 1 av around.length (strCells around)) (hS : ¬ S c) (hA : ¬ A c) (hb : around.length + (hi - lo) ≤ 1000000) :
    Calls Tryz.prog 122 #[.pointer (some ⟨c, 0, none⟩), nv, v, av] w fun en w' => en = .returned (.tuple #[]) ∧ Chk w' c (after o (Th.dups [] l ++ Th.wrongs n e (around ++ Th.texts l))) ∧ w.grownBy w' (some c) := by
  have hl1 := h1.len
  have hl2 := h2.le
  have hcl := hc.lt
  have hll : l.length ≤ 1000000 := by omega
  have hal : around.length ≤ 1000000 := by omega
  have hov := rep_iface hr
  have hsn := row_slice hn
  have hsa := row_slice ha
  have hd := hide (distinct_any hc hn hS hll)
  have HN := hide hn
  have HR := hide hr
  have HA := hide ha
  have HI := hide (And.intro h2 (And.intro hS hA))
  have HL : Hid ((around ++ Th.texts l).length + (hi - mid) ≤ 1000000) := hide (by simp [Th.texts]; omega)
  have HX := hide hx
  clear hc hn hr h1 h2 ha hS hA hb hx hl1 hl2
  obtain ⟨t, x, rfl⟩ := hov
  obtain ⟨na, nn, nc, rfl⟩ := hsn
  obtain ⟨aa, an, ac, rfl⟩ := hsa
  go_enter Tryz.func122, Tryz.ntmps122
  go_wp2_with fail
  refine (unhide hd).mono ?_
  rintro en w1 ⟨rfl, hc1, hg1⟩
  have HC := hide hc1
  have HG := hide hg1
  have hn1 := (unhide HN).gb hg1 (fun j hj => by cases hj; exact (unhide HI).2.1)
  have ht := hide (texts_any hn1 hll)
  have hsz := hg1.size
  clear hc1 hg1 hn1
  go_wp2_with fail
  refine (unhide ht).mono ?_
  rintro en w2 ⟨tv, rfl, htv, hb2⟩
  obtain ⟨ta, tn, tc, rfl⟩ := row_slice (Row.of_own htv)
  have hsz2 := hb2.size
  have HG2 := hide (gb_trans (unhide HG) (gb_below (some c) hb2))
  have HC2 := hide ((unhide HC).below hb2)
  have HT : Hid (w2.ownsRow w1.heap.size 9 1 (.slice ta tn tc) (Th.texts l).length (strCells (Th.texts l))) := hide (by simpa [Th.texts] using htv)
  clear htv hb2 hd ht
  go_wp2_with fail
  have hcc := concat_new ((unhide HA).gb (unhide HG2) (fun j hj => by cases hj; exact (unhide HI).2.2)) (Row.of_own (unhide HT)) hal (by simpa [Th.texts] using hll)
  refine hcc.mono ?_
  clear hcc
  rintro en w3 ⟨ka, kn, kc, rfl, hK, hb3⟩
  have hg3 := gb_trans (unhide HG2) (gb_below (some c) hb3)
  have HX3 := hide (unhide HX w3 c _ _ e _ _ S _ m mid hi ((unhide HC2).below hb3) ((unhide HR).gb hg3 (fun j hj => by cases hj; exact (unhide HI).2.1)) (unhide HI).1 hK (unhide HI).2.1 (by show ¬ (w2.heap.size ≤ c); omega) (unhide HL))
  have HG3 := hide hg3
  clear hK hb3 hg3
  go_wp2_with fail
  refine (unhide HX3).mono ?_
  rintro en w4 ⟨rfl, hc4, hg4⟩
  have H4 := hide (And.intro hc4 hg4)
  clear hc4 hg4
  go_wp2_with fail
  go_end0
  exact ⟨rfl, by rw [after_append]; exact (unhide H4).1, gb_trans (unhide HG3) (unhide H4).2⟩

end Go.Proofs.YtgahgkddaljmkaaGreatDoor
