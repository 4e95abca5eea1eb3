/- The least of the places of wrong names: plain reasoning. The document's names: twice, with. The document's names: with. -/
import Derived.Test.YtgahgkddaljmkaaGreatDoorB1
import Derived.Test.YtgahgkddaljmkaaGreatDoorA9
import Derived.Test.YtgahgkddaljmkaaGreatDoorB3
namespace Go.Proofs.YtgahgkddaljmkaaGreatDoor.Th

/-- The least of a list of places, or -1. -/
def IsMin (v : Int) (l : List Nat) : Prop := (l = [] ∧ v = -1) ∨ ∃ p, p ∈ l ∧ v = (p : Int) ∧ ∀ q ∈ l, p ≤ q

def leastZ (a b : Int) : Int := if a < 0 ∨ (0 ≤ b ∧ b < a) then b else a

theorem IsMin.least {a b : Int} {l k : List Nat} (h1 : IsMin a l) (h2 : IsMin b k) : IsMin (leastZ a b) (l ++ k) := by
  unfold leastZ
  rcases h1 with ⟨rfl, rfl⟩ | ⟨p, hp, rfl, hp2⟩
  · rw [if_pos (.inl (by omega))]; simpa using h2
  · rcases h2 with ⟨rfl, rfl⟩ | ⟨q, hq, rfl, hq2⟩
    · rw [if_neg (by omega)]
      exact .inr ⟨p, by simpa using hp, rfl, by simpa using hp2⟩
    · split
      · refine .inr ⟨q, by simp [hq], rfl, fun x hx => ?_⟩
        rcases List.mem_append.1 hx with hx | hx
        · have := hp2 x hx; omega
        · exact hq2 x hx
      · refine .inr ⟨p, by simp [hp], rfl, fun x hx => ?_⟩
        rcases List.mem_append.1 hx with hx | hx
        · exact hp2 x hx
        · have := hq2 x hx; omega

theorem IsMin.same {a : Int} {l k : List Nat} (h : IsMin a l) (e : ∀ x, x ∈ l ↔ x ∈ k) : IsMin a k := by
  rcases h with ⟨rfl, rfl⟩ | ⟨p, hp, rfl, hp2⟩
  · refine .inl ⟨?_, rfl⟩
    cases k with
    | nil => rfl
    | cons x k => exact absurd ((e x).2 (by simp)) (by simp)
  · exact .inr ⟨p, (e p).1 hp, rfl, fun q hq => hp2 q ((e q).2 hq)⟩

/-- The places of a list rise, from lo to under hi. -/
def RiseN : Nat → Nat → List Nat → Prop
  | lo, hi, [] => lo ≤ hi
  | lo, hi, p :: r => lo ≤ p ∧ RiseN (p + 1) hi r

theorem RiseN.le : ∀ {lo hi : Nat} {l : List Nat}, RiseN lo hi l → lo ≤ hi
  | _, _, [], h => h
  | lo, hi, p :: r, h => by have := RiseN.le h.2; have := h.1; omega
theorem RiseN.mem : ∀ {lo hi : Nat} {l : List Nat}, RiseN lo hi l → ∀ x ∈ l, lo ≤ x ∧ x < hi
  | _, _, [], _, x, hx => by simp at hx
  | lo, hi, p :: r, h, x, hx => by
    have h1 := h.1
    have h2 := RiseN.le h.2
    rcases List.mem_cons.1 hx with rfl | hx
    · omega
    · have := RiseN.mem h.2 x hx; omega
theorem RiseN.down : ∀ {lo lo' hi : Nat} {l : List Nat}, RiseN lo hi l → lo' ≤ lo → RiseN lo' hi l
  | _, _, _, [], h, hl => by simp only [RiseN] at h ⊢; omega
  | _, _, _, p :: r, h, hl => ⟨by have := h.1; omega, h.2⟩
theorem RiseN.app : ∀ {lo m hi : Nat} {l k : List Nat}, RiseN lo m l → RiseN m hi k → RiseN lo hi (l ++ k)
  | lo, m, hi, [], k, h, h2 => by simpa using h2.down h
  | lo, m, hi, p :: r, k, h, h2 => ⟨h.1, RiseN.app h.2 h2⟩
theorem IsMin.head {a : Int} {l : List Nat} {lo hi : Nat} (h : IsMin a l) (hr : RiseN lo hi l) : a = match l.head? with | some p => (p : Int) | none => -1 := by
  cases l with
  | nil =>
    rcases h with ⟨_, h⟩ | ⟨p, hp, _⟩
    · exact h
    · simp at hp
  | cons x l =>
    rcases h with ⟨h, _⟩ | ⟨p, hp, rfl, h2⟩
    · simp at h
    · simp only [List.head?_cons]
      have h3 := h2 x (by simp)
      rcases List.mem_cons.1 hp with rfl | hp
      · rfl
      · have := RiseN.mem hr.2 p hp; omega
theorem IsMin.of_head {l : List Nat} {lo hi : Nat} (hr : RiseN lo hi l) : IsMin (match l.head? with | some p => (p : Int) | none => -1) l := by
  cases l with
  | nil => exact .inl ⟨rfl, rfl⟩
  | cons x l =>
    refine .inr ⟨x, by simp, rfl, fun q hq => ?_⟩
    rcases List.mem_cons.1 hq with rfl | hq
    · exact Nat.le_refl _
    · have := RiseN.mem hr.2 q hq; omega

theorem dups_rise : ∀ {lo hi : Nat} {l : List Tok} {seen : List (List UInt8)}, Rise lo hi l → RiseN lo hi (dups seen l)
  | _, _, [], _, h => h
  | lo, hi, t :: r, seen, h => by
    have ih := dups_rise (seen := seen ++ [t.s]) h.2
    have h1 := h.1
    rw [dups]
    split
    · exact ⟨h1, ih⟩
    · exact ih.down (by omega)

theorem wbinds_rise {wr : Ex → List (List UInt8) → List Nat} {P : Ex → Nat → Nat → Prop} {around : List (List UInt8)} (hp : ∀ e lo hi, P e lo hi → RiseN lo hi (wr e around)) : ∀ {lo hi : Nat} {l : List Tok} {es : List Ex} {seen : List (List UInt8)}, InBinds P lo hi l es → RiseN lo hi (wbinds wr around seen l es)
  | _, _, [], [], _, h => by simpa [wbinds, RiseN, InBinds] using h
  | lo, hi, t :: r, e :: es, seen, h => by
    obtain ⟨h1, m, h2, h3⟩ := h
    have ih := wbinds_rise hp (seen := seen ++ [t.s]) h3
    rw [wbinds]
    refine RiseN.app (m := m) ?_ ih
    have := hp _ _ _ h2
    split
    · exact ⟨h1, this⟩
    · exact this.down (by omega)
  | _, _, [], _ :: _, _, h => h.elim
  | _, _, _ :: _, [], _, h => h.elim

theorem warms_rise {wr : Ex → List (List UInt8) → List Nat} {P : Ex → Nat → Nat → Prop} {around : List (List UInt8)} (hp : ∀ e lo hi ar, P e lo hi → RiseN lo hi (wr e ar)) : ∀ {lo hi : Nat} {l : List (Nat × List Tok)} {es : List Ex}, InArms P lo hi l es → RiseN lo hi (warms wr around l es)
  | _, _, [], [], h => by simpa [warms, RiseN, InArms] using h
  | lo, hi, a :: r, e :: es, h => by
    obtain ⟨m1, m2, h1, h2, h3⟩ := h
    have ih := warms_rise (around := around) hp h3
    rw [warms]
    exact RiseN.app (RiseN.app ((dups_rise h1).down (by omega)) (hp _ _ _ _ h2)) ih
  | _, _, [], _ :: _, h => h.elim
  | _, _, _ :: _, [], h => h.elim

theorem wrongs_rise : ∀ (n : Nat) (e : Ex) (lo hi : Nat) (around : List (List UInt8)), In n e lo hi → RiseN lo hi (wrongs n e around)
  | 0, _, _, _, _, h => h.elim
  | n + 1, e, lo, hi, around, h => by
    have ih := wrongs_rise n
    obtain ⟨hl, h | ⟨hk, h1, h2⟩ | ⟨hk, b, m, h1, h2, h3⟩ | ⟨hk, e1, e2, m, h1, h2, h3⟩ | ⟨hk, b, parts, m, h1, h2, h3⟩ | ⟨hk, b, bodies, m, h1, h2, h3⟩⟩ := h
    · rw [wrongs]
      rcases h with h | h <;> simpa [h, RiseN] using hl
    · rw [wrongs, if_pos hk]
      split
      · exact hl
      · exact ⟨h1, by simp only [RiseN]; omega⟩
    · rw [wrongs]
      simp only [hk, h1]
      exact RiseN.app (dups_rise h2) (ih _ _ _ _ h3)
    · rw [wrongs]
      rcases hk with hk | hk <;> simp only [hk, h1] <;> exact RiseN.app (ih _ _ _ _ h2) (ih _ _ _ _ h3)
    · rw [wrongs]
      rcases hk with hk | hk <;> simp only [hk, h1] <;> exact RiseN.app (wbinds_rise (fun e lo hi h => ih e lo hi _ h) h2) (ih _ _ _ _ h3)
    · rw [wrongs]
      simp only [hk, h1]
      exact RiseN.app (ih _ _ _ _ h2) (warms_rise (fun e lo hi ar h => ih e lo hi ar h) h3)

/- What the document takes of the binds: the names first, then what stands behind. -/
theorem wbinds_mem {wr : Ex → List (List UInt8) → List Nat} {around : List (List UInt8)} : ∀ (l : List Tok) (es : List Ex) (seen : List (List UInt8)) (x : Nat), l.length = es.length → (x ∈ wbinds wr around seen l es ↔ x ∈ dups seen l ++ es.flatMap (fun e => wr e around))
  | [], [], _, x, _ => by simp [wbinds, dups]
  | t :: r, e :: es, seen, x, h => by
    have ih := wbinds_mem (wr := wr) (around := around) r es (seen ++ [t.s]) x (by simpa using h)
    rw [wbinds, dups, List.mem_append, List.mem_append, ih]
    simp only [List.mem_append, List.flatMap_cons]
    constructor
    · rintro ((h | h) | h | h)
      · exact .inl (.inl h)
      · exact .inr (.inl h)
      · exact .inl (.inr h)
      · exact .inr (.inr h)
    · rintro ((h | h) | h | h)
      · exact .inl (.inl h)
      · exact .inr (.inl h)
      · exact .inl (.inr h)
      · exact .inr (.inr h)
  | [], _ :: _, _, _, h => by simp at h
  | _ :: _, [], _, _, h => by simp at h

theorem warms_flat {wr : Ex → List (List UInt8) → List Nat} {around : List (List UInt8)} : ∀ (l : List (Nat × List Tok)) (es : List Ex), warms wr around l es = (l.zip es).flatMap (fun a => dups [] a.1.2 ++ wr a.2 (around ++ texts a.1.2))
  | [], _ => by simp [warms]
  | _ :: _, [] => by simp [warms]
  | a :: l, e :: es => by simp [warms, warms_flat l es]

/- The lines of a program. -/
theorem wlines_rise {N : Nat} {all : List (List UInt8)} : ∀ {lo hi : Nat} {l : List Line} {seen : List (List UInt8)}, InLines N lo hi l → RiseN lo hi (wlines N all seen l)
  | _, _, [], _, h => by simpa [wlines, RiseN, InLines] using h
  | lo, hi, x :: r, seen, h => by
    obtain ⟨h1, m1, m2, h2, h3, h4⟩ := h
    have ih := wlines_rise (all := all) (seen := seen ++ [x.name.s]) h4
    rw [wlines]
    refine RiseN.app ?_ ih
    refine RiseN.app ?_ (wrongs_rise _ _ _ _ _ h3)
    have := dups_rise (seen := []) h2
    split
    · exact ⟨h1, this⟩
    · exact this.down (by omega)

theorem wlines_mem {N : Nat} {all : List (List UInt8)} : ∀ (l : List Line) (seen : List (List UInt8)) (x : Nat), x ∈ wlines N all seen l ↔ x ∈ dups seen (l.map (·.name)) ++ l.flatMap (fun y => dups [] y.params ++ wrongs N y.e (all ++ texts y.params))
  | [], _, x => by simp [wlines, dups]
  | y :: r, seen, x => by
    have ih := wlines_mem (N := N) (all := all) r (seen ++ [y.name.s]) x
    rw [wlines, List.map_cons, dups, List.mem_append, List.mem_append, List.mem_append, ih]
    simp only [List.mem_append, List.flatMap_cons]
    constructor
    · rintro (((h | h) | h) | h | h)
      · exact .inl (.inl h)
      · exact .inr (.inl (.inl h))
      · exact .inr (.inl (.inr h))
      · exact .inl (.inr h)
      · exact .inr (.inr h)
    · rintro ((h | h) | (h | h) | h)
      · exact .inl (.inl (.inl h))
      · exact .inr (.inl h)
      · exact .inl (.inl (.inr h))
      · exact .inl (.inr h)
      · exact .inr (.inr h)

theorem lines_names_rise {N : Nat} : ∀ {lo hi : Nat} {l : List Line}, InLines N lo hi l → Rise lo hi (l.map (·.name))
  | _, _, [], h => h
  | lo, hi, x :: r, h => by
    obtain ⟨h1, m1, m2, h2, h3, h4⟩ := h
    have ih := lines_names_rise h4
    have a := Rise.len h2
    have b := In.le h3
    refine ⟨h1, ?_⟩
    have down : ∀ {lo lo' hi : Nat} {l : List Tok}, Rise lo hi l → lo' ≤ lo → Rise lo' hi l := by
      intro lo lo' hi l h hl
      cases l with
      | nil => simp only [Rise] at h ⊢; omega
      | cons t l => exact ⟨by have := h.1; omega, h.2⟩
    exact down ih (show x.name.at_ + 1 ≤ m2 by omega)

/- Where no name stands twice, the first main is any. -/
theorem main_any {N : Nat} {all : List (List UInt8)} : ∀ (l : List Line) (seen : List (List UInt8)), wlines N all seen l = [] → (∀ y ∈ l, seen.contains y.name.s = false) ∧ (firstMain l = hasMain l)
  | [], _, _ => by simp [firstMain, hasMain]
  | x :: r, seen, h => by
    rw [wlines] at h
    simp only [List.append_eq_nil_iff] at h
    obtain ⟨⟨⟨h1, -⟩, -⟩, h2⟩ := h
    obtain ⟨i1, i2⟩ := main_any r _ h2
    refine ⟨fun y hy => ?_, ?_⟩
    · rcases List.mem_cons.1 hy with rfl | hy
      · split at h1
        · simp at h1
        · simp_all
      · have := i1 y hy
        simp only [List.contains_append] at this
        simp at this
        simpa using this.1
    · rw [firstMain]
      by_cases hm : x.name.s = sMain
      · have hno : hasMain r = false := by
          rw [hasMain, List.any_eq_false]
          intro y hy
          have h3 := i1 y hy
          simp only [List.contains_append, Bool.or_eq_false_iff] at h3
          have h4 : y.name.s ≠ sMain := by
            intro e
            have := h3.2
            rw [e, hm] at this
            simp at this
          simp [h4]
        have e1 : hasMain (x :: r) = ((x.name.s == sMain && x.params.isEmpty) || hasMain r) := by simp [hasMain]
        rw [e1, hno, hm]
        simp
      · have e1 : hasMain (x :: r) = ((x.name.s == sMain && x.params.isEmpty) || hasMain r) := by simp [hasMain]
        have e2 : (x.name.s == sMain) = false := by simpa using hm
        rw [e1, e2]
        simpa using i2

end Go.Proofs.YtgahgkddaljmkaaGreatDoor.Th

namespace Go.Proofs.YtgahgkddaljmkaaGreatDoor
open Go.RowKit
attribute [local go_sem ↓] Go.wp_at_zero Go.wp_at_succ

/-- The first of some places, or -1. -/
def Th.hdI (l : List Nat) : Int := match l.head? with | some p => (p : Int) | none => -1

theorem Th.dups_append : ∀ (l k : List Th.Tok) (seen : List (List UInt8)), Th.dups seen (l ++ k) = Th.dups seen l ++ Th.dups (seen ++ Th.texts l) k
  | [], k, seen => by simp [Th.dups, Th.texts]
  | t :: l, k, seen => by
    rw [List.cons_append, Th.dups, Th.dups, Th.dups_append l k (seen ++ [t.s]), List.append_assoc]
    simp [Th.texts]

theorem dnsCells_get : ∀ (l : List Th.Tok) (i : Nat) (t : Th.Tok), l[i]? = some t → (dnsCells l)[i * 4]? = some (.string ⟨t.s.toArray⟩) ∧ (dnsCells l)[i * 4 + 1]? = some (.int .i64 t.at_) ∧ (dnsCells l)[i * 4 + 2]? = some (.int .u8 (if t.k = 2 then 97 else 0 : Nat)) ∧ (dnsCells l)[i * 4 + 3]? = some (.int .i64 0)
  | [], i, t, h => by simp at h
  | x :: l, 0, t, h => by
    simp only [List.getElem?_cons_zero, Option.some.injEq] at h
    subst h
    exact ⟨rfl, rfl, rfl, rfl⟩
  | x :: l, i + 1, t, h => by
    have ih := dnsCells_get l i t (by simpa using h)
    have e : ∀ c, (dnsCells (x :: l))[(i + 1) * 4 + c]? = (dnsCells l)[i * 4 + c]? := by
      intro c
      rw [show dnsCells (x :: l) = dnCells x ++ dnsCells l from rfl, List.getElem?_append_right (by simp [dnCells]; omega)]
      congr 1
      simp [dnCells]
      omega
    refine ⟨?_, ?_, ?_, ?_⟩
    · have := e 0; simp only [Nat.add_zero] at this; rw [this]; exact ih.1
    · rw [e 1]; exact ih.2.1
    · rw [e 2]; exact ih.2.2.1
    · rw [e 3]; exact ih.2.2.2

theorem beq_toList (a b : List UInt8) : ((⟨a.toArray⟩ : ByteArray).toList == (⟨b.toArray⟩ : ByteArray).toList) = (a == b) := by
  rw [ByteArray.toList_eq, ByteArray.toList_eq]

theorem dups_found {l : List Th.Tok} {i : Nat} {t : Th.Tok} (h0 : Th.dups [] (l.take i) = []) (ht : l[i]? = some t) (hc : (Th.texts (l.take i)).contains t.s = true) : Th.hdI (Th.dups [] l) = t.at_ := by
  obtain ⟨hi, e⟩ := List.getElem?_eq_some_iff.1 ht
  have e1 : l = l.take i ++ t :: l.drop (i + 1) := by
    rw [← e, ← List.drop_eq_getElem_cons hi, List.take_append_drop]
  rw [e1, Th.dups_append, h0, Th.dups]
  simp only [List.nil_append, hc, if_true]
  rfl
theorem dups_go {l : List Th.Tok} {i : Nat} {t : Th.Tok} (h0 : Th.dups [] (l.take i) = []) (ht : l[i]? = some t) (hc : (Th.texts (l.take i)).contains t.s = false) : Th.dups [] (l.take (i + 1)) = [] := by
  rw [List.take_add_one, ht, Th.dups_append, h0]
  simp only [Option.toList_some, Th.dups, List.nil_append, hc, Bool.false_eq_true, if_false]
theorem texts_take_contains {l : List Th.Tok} {i k : Nat} {t x : Th.Tok} (hk : k < i) (hx : l[k]? = some x) (e : (x.s == t.s) = true) : (Th.texts (l.take i)).contains t.s = true := by
  rw [List.contains_iff_mem]
  have : x ∈ l.take i := List.mem_of_getElem? (i := k) (by rw [List.getElem?_take, if_pos hk]; exact hx)
  rw [← eq_of_beq e]
  exact List.mem_map_of_mem this
theorem texts_take_not {l : List Th.Tok} {i : Nat} {t : Th.Tok} (h : ∀ k x, k < i → l[k]? = some x → (x.s == t.s) = false) : (Th.texts (l.take i)).contains t.s = false := by
  rw [← Bool.not_eq_true, List.contains_iff_mem]
  intro hm
  simp only [Th.texts, List.mem_map] at hm
  obtain ⟨x, hx, e⟩ := hm
  obtain ⟨k, hk⟩ := List.mem_iff_getElem?.1 hx
  rw [List.getElem?_take] at hk
  split at hk
  · rename_i hki
    have := h k x hki hk
    rw [e] at this
    simp at this
  · simp at hk

set_option maxRecDepth 100000 in
set_option maxHeartbeats 4000000 in
theorem twice_any {w : World} {S : Nat → Prop} {nv : Value} {l : List Th.Tok} (hr : Row S w 108 4 nv l.length (dnsCells l)) (hl : l.length ≤ 1000000) :
    Calls Tryz.prog 173 #[nv] w fun e w' => e = .returned (.int .i64 (Th.hdI (Th.dups [] l))) ∧ Below w.heap.size w w' := by
  have HR := hide hr
  rcases row_shape hr with hv | ⟨g, cap, hv⟩
  · have hl0 : l = [] := by
      rcases hr.1.2 with ⟨_, h0⟩ | ⟨_, _, _, h0, _⟩
      · exact List.length_eq_zero_iff.1 h0
      · rw [hv] at h0; cases h0
    subst hv hl0
    clear hr HR
    go_enter Tryz.func173, Tryz.ntmps173
    go_wp2_with fail
    refine wp_loop_rounds 1 ?_
    rw [rounds_succ]
    go_wp2_with fail
    go_ret
    exact ⟨rfl, Below.refl _ _⟩
  · subst hv
    have HGL := hide (hr.1.lt g rfl).2
    clear hr
    go_enter Tryz.func173, Tryz.ntmps173
    go_wp2_with fail
    go_loopg [3] l.length (fun gk iv wr => ∃ i : Nat, iv = .int .i64 i ∧ i ≤ l.length ∧ l.length - i ≤ gk ∧ Th.dups [] (l.take i) = [] ∧ Below w.heap.size w wr)
    case atStart => exact ⟨0, rfl, Nat.zero_le _, by omega, rfl, Below.refl _ _⟩
    case round =>
      obtain ⟨i, rfl, hi, hgk, hd0, hb⟩ := hrel
      have HD0 := hide hd0
      have Hb := hide hb
      clear hd0
      by_cases hlt : i < l.length
      · obtain ⟨t, ht⟩ : ∃ t, l[i]? = some t := ⟨l[i], List.getElem?_eq_getElem hlt⟩
        have Ht := hide ht
        clear hb ht
        go_wp2_with fail
        go_loopg [4] i (fun gk2 kv wr2 => ∃ k : Nat, kv = .int .i64 k ∧ k ≤ i ∧ i - k ≤ gk2 ∧ (∀ j x, j < k → l[j]? = some x → (x.s == t.s) = false) ∧ Below w.heap.size w wr2)
        case atStart => exact ⟨0, rfl, Nat.zero_le _, by omega, fun j x hj => absurd hj (Nat.not_lt_zero _), unhide Hb⟩
        case round =>
          obtain ⟨k, rfl, hk, hgk2, hno, hb2⟩ := hrel
          have HNO := hide hno
          have Hb2 := hide hb2
          clear hno
          by_cases hlt2 : k < i
          · obtain ⟨x, hx⟩ : ∃ x, l[k]? = some x := ⟨l[k]'(by omega), List.getElem?_eq_getElem (by omega)⟩
            have hrow := (unhide HR).1.kept (gb_below none hb2) (own_none _)
            have ck := dnsCells_get l k x hx
            have ci := dnsCells_get l i t (unhide Ht)
            have k0 := (hrow.cellAt (k * 4) (by omega)).trans ck.1
            have i0 := (hrow.cellAt (i * 4) (by omega)).trans ci.1
            have i1 := (hrow.cellAt (i * 4 + 1) (by omega)).trans ci.2.1
            have hbt := beq_toList x.s t.s
            have Hx := hide hx
            clear hrow ck ci hx hb2
            cases hxe : (x.s == t.s)
            · have HXE := hide hxe
              clear hbt
              go_wp2_with fail
              go_quiet (fail)
              go_wp2_with fail
              go_roundg (i - (k + 1))
              case measure => omega
              case rel =>
                refine ⟨k + 1, by go_num, by omega, Nat.le_refl _, fun j y hj hy => ?_, below_drewN (unhide Hb2) _⟩
                by_cases hjk : j = k
                · subst hjk
                  rw [unhide Hx] at hy
                  cases hy
                  exact unhide HXE
                · exact unhide HNO j y (by omega) hy
            · have HF := hide (dups_found (unhide HD0) (unhide Ht) (texts_take_contains hlt2 (unhide Hx) hxe))
              clear hbt
              go_wp2_with fail
              go_quiet (fail)
              go_wp2_with fail
              go_ret
              exact ⟨by rw [unhide HF]; rfl, below_drewN (unhide Hb2) _⟩
          · have hki : k = i := by omega
            have HG0 := hide (dups_go (unhide HD0) (unhide Ht) (texts_take_not (by rw [← hki]; exact unhide HNO)))
            clear hb2 hki
            go_wp2_with fail
            go_roundg (l.length - (i + 1))
            case measure => omega
            case rel => exact ⟨i + 1, by go_num, by omega, Nat.le_refl _, unhide HG0, unhide Hb2⟩
      · have hil : i = l.length := by omega
        have HF : Hid (Th.hdI (Th.dups [] l) = -1) := hide (by
          have := unhide HD0
          rw [hil, List.take_of_length_le (Nat.le_refl _)] at this
          rw [this]
          rfl)
        clear hil hb
        go_wp2_with fail
        go_ret
        exact ⟨by rw [unhide HF]; rfl, unhide Hb⟩

/-- Names, and more of them. -/
def WithOK : Prop := ∀ (w : World) (A S : Nat → Prop) (kv nv : Value) (known : List (List UInt8)) (l : List Th.Tok), Row A w 9 1 kv known.length (strCells known) → Row S w 108 4 nv l.length (dnsCells l) → known.length ≤ 1000000 → l.length ≤ 1000000 →
    Calls Tryz.prog 172 #[kv, nv] w fun e w' => ∃ v, e = .returned v ∧ w'.ownsRow w.heap.size 9 1 v (known ++ Th.texts l).length (strCells (known ++ Th.texts l)) ∧ Below w.heap.size w w'

theorem str_one (l : List (List UInt8)) : ∀ u ∈ strCells l, u.oneCell' = true := by
  intro u hu
  simp only [strCells, List.mem_map] at hu
  obtain ⟨x, _, rfl⟩ := hu
  rfl

end Go.Proofs.YtgahgkddaljmkaaGreatDoor

namespace Go.Proofs.YtgahgkddaljmkaaGreatDoor
open Go.RowKit
attribute [local go_sem ↓] Go.wp_at_zero Go.wp_at_succ

theorem sapp_none (ty : TypeId) (w : World) : (Builtin.append_ #[38, 38] ty #[.slice none 0 0, .slice none 0 0]).run Tryz.prog w = .ok (.slice none 0 0) w := by kernel_rfl
theorem sapp_some (g cap : Nat) (ty : TypeId) (w : World) : (Builtin.append_ #[38, 38] ty #[.slice none 0 0, .slice (some ⟨g, 0, none⟩) 0 cap]).run Tryz.prog w = .ok (.slice none 0 0) w := by kernel_rfl

attribute [local go_sem] sapp_none sapp_some

theorem strCells_app (a b : List (List UInt8)) : strCells (a ++ b) = strCells a ++ strCells b := by simp [strCells]

set_option maxRecDepth 100000 in
set_option maxHeartbeats 4000000 in
theorem with_any : WithOK := by
  intro w A S kv nv known l hkv hnv hk hl
  obtain ⟨i0, hi, hz0, hz1, hz2⟩ := info_parts infoStr
  have HI := hide hi; clear hi
  have HZ := hide (And.intro hz0 (And.intro hz1 hz2)); clear hz0 hz1 hz2
  have HN := hide hnv
  have HLOOPROW : Hid (∀ (wr : World) (t : Th.Tok) (k : Nat), Below w.heap.size w wr → l[k]? = some t → ∀ g cap, nv = .slice (some ⟨g, 0, none⟩) l.length cap → wr.cell? ⟨g, k * 4, none⟩ = some (.string ⟨t.s.toArray⟩) ∧ g < w.heap.size) := hide (by
    intro wr t k hb ht g cap e
    subst e
    have hlt : k < l.length := (List.getElem?_eq_some_iff.1 ht).1
    have hrow := hnv.1.kept (gb_below none hb) (own_none _)
    exact ⟨(hrow.cellAt (k * 4) (by omega)).trans (dnsCells_get l k t ht).1, (hnv.1.lt g rfl).2⟩)
  have hsh := row_shape hnv
  have hlen : nv = .slice none 0 0 → l = [] := fun e => by
    rcases hnv.1.2 with ⟨_, h0⟩ | ⟨_, _, _, h0, _⟩
    · exact List.length_eq_zero_iff.1 h0
    · rw [e] at h0; cases h0
  have HLEN := hide hlen
  clear hnv hlen
  have HSTART : Hid (∃ c : Nat, kv = .slice none 0 0 ∧ known = [] ∨ (∃ g, kv = .slice (some ⟨g, 0, none⟩) 0 c ∧ known = []) ∨ (∃ g, kv = .slice (some ⟨g, 0, none⟩) known.length c ∧ 0 < known.length)) := hide (by
    rcases hkv.1.2 with ⟨h, h0⟩ | ⟨g, cap, cur, h, _⟩
    · exact ⟨0, .inl ⟨h, List.length_eq_zero_iff.1 h0⟩⟩
    · refine ⟨cap, .inr ?_⟩
      rcases Nat.eq_zero_or_pos known.length with h0 | h0
      · exact .inl ⟨g, by rw [h, h0], List.length_eq_zero_iff.1 h0⟩
      · exact .inr ⟨g, h, h0⟩)
  obtain ⟨kc, hst⟩ := unhide HSTART
  clear HSTART
  have hkrow := hkv.1
  have KCELLS : Hid (∀ g c, kv = .slice (some ⟨g, 0, none⟩) known.length c → ∀ j u, (strCells known)[j]? = some u → w.cell? ((⟨g, 0, none⟩ : Addr).add j) = some u) := hide (by
    intro g c e
    subst e
    exact hkv.1.cells rfl)
  clear hkv hkrow
  rcases hst with ⟨rfl, rfl⟩ | ⟨kg, rfl, rfl⟩ | ⟨kg, rfl, hk0⟩
  · rcases hsh with hv | ⟨g, cap, hv⟩
    · have hl0 := unhide HLEN hv
      subst hv hl0
      go_enter Tryz.func172, Tryz.ntmps172
      go_wp2_with fail
      refine wp_loop_rounds 1 ?_
      rw [rounds_succ]
      go_wp2_with fail
      go_ret
      exact ⟨_, rfl, by simpa [Th.texts, strCells] using World.ownsRow_nil w w.heap.size 9 1, Below.refl _ _⟩
    · have HROW := hide (fun (wr : World) (t : Th.Tok) (k : Nat) (hb : Below w.heap.size w wr) (ht : l[k]? = some t) => unhide HLOOPROW wr t k hb ht g cap hv)
      subst hv
      go_enter Tryz.func172, Tryz.ntmps172
      go_wp2_with fail
      go_loopg [5, 6] l.length (fun gk v i wr => ∃ k : Nat, i = .int .i64 k ∧ k ≤ l.length ∧ l.length - k ≤ gk ∧ wr.ownsRow w.heap.size 9 1 v (0 + k) (strCells (([] : List (List UInt8)) ++ Th.texts (l.take k))) ∧ Below w.heap.size w wr)
      case atStart => exact ⟨0, rfl, Nat.zero_le _, by omega, by simpa [Th.texts, strCells] using World.ownsRow_nil w w.heap.size 9 1, Below.refl _ _⟩
      case round =>
        obtain ⟨k, rfl, hkl, hgk, hown, hb⟩ := hrel
        have Ho := hide hown
        have Hb := hide hb
        have hsz := hb.size
        by_cases hlt : k < l.length
        · obtain ⟨t, ht⟩ : ∃ t, l[k]? = some t := ⟨l[k], List.getElem?_eq_getElem hlt⟩
          obtain ⟨c0, hg⟩ := unhide HROW wr t k hb ht
          have Ht := hide (take_snoc_get ht)
          have hown2 := hown.alloc (.cells #[.string ⟨t.s.toArray⟩] 9)
          clear hown hb ht
          go_wp2_with (at_builtin; refine wpList_append_own _ rfl _ _ 38 rfl w.heap.size 9 i0 _ 1 16 Tryz.underlying38 (unhide HI) (unhide HZ).1 (unhide HZ).2.1 (unhide HZ).2.2 rfl (by decide) _ _ _ rfl hown2 ⟨wr.heap.size, 0, none⟩ 1 1 [.string ⟨t.s.toArray⟩] rfl rfl (World.news_of_block (cs := #[.string ⟨t.s.toArray⟩]) (t := 9) (fr := (0, 0)) (heap_alloc_new wr _)) (by simp [Value.oneCell']) (by unfold maxLen; omega) (by omega) (by simp; omega) ?_; intro v' w3 hown' hgrow _)
          go_roundg (l.length - (k + 1))
          case measure => omega
          case rel =>
            refine ⟨k + 1, by go_num, by omega, Nat.le_refl _, ?_, below_gb (gb_own (gb_trans (gb_below none (unhide Hb)) (gb_alloc _ _ _)) hown2 hgrow)⟩
            rw [unhide Ht, show Th.texts (l.take k ++ [t]) = Th.texts (l.take k) ++ [t.s] from by simp [Th.texts], ← List.append_assoc, strCells_snoc]
            exact hown'
        · have hk2 : k = l.length := by omega
          have Hk := hide hk2
          clear hown hb hk2
          go_wp2_with fail
          go_ret
          refine ⟨_, rfl, ?_, unhide Hb⟩
          have ho := unhide Ho
          rw [unhide Hk, List.take_of_length_le (Nat.le_refl _)] at ho
          simpa [Th.texts] using ho
  · rcases hsh with hv | ⟨g, cap, hv⟩
    · have hl0 := unhide HLEN hv
      subst hv hl0
      go_enter Tryz.func172, Tryz.ntmps172
      go_wp2_with fail
      refine wp_loop_rounds 1 ?_
      rw [rounds_succ]
      go_wp2_with fail
      go_ret
      exact ⟨_, rfl, by simpa [Th.texts, strCells] using World.ownsRow_nil w w.heap.size 9 1, Below.refl _ _⟩
    · have HROW := hide (fun (wr : World) (t : Th.Tok) (k : Nat) (hb : Below w.heap.size w wr) (ht : l[k]? = some t) => unhide HLOOPROW wr t k hb ht g cap hv)
      subst hv
      go_enter Tryz.func172, Tryz.ntmps172
      go_wp2_with fail
      go_loopg [5, 6] l.length (fun gk v i wr => ∃ k : Nat, i = .int .i64 k ∧ k ≤ l.length ∧ l.length - k ≤ gk ∧ wr.ownsRow w.heap.size 9 1 v (0 + k) (strCells (([] : List (List UInt8)) ++ Th.texts (l.take k))) ∧ Below w.heap.size w wr)
      case atStart => exact ⟨0, rfl, Nat.zero_le _, by omega, by simpa [Th.texts, strCells] using World.ownsRow_nil w w.heap.size 9 1, Below.refl _ _⟩
      case round =>
        obtain ⟨k, rfl, hkl, hgk, hown, hb⟩ := hrel
        have Ho := hide hown
        have Hb := hide hb
        have hsz := hb.size
        by_cases hlt : k < l.length
        · obtain ⟨t, ht⟩ : ∃ t, l[k]? = some t := ⟨l[k], List.getElem?_eq_getElem hlt⟩
          obtain ⟨c0, hg⟩ := unhide HROW wr t k hb ht
          have Ht := hide (take_snoc_get ht)
          have hown2 := hown.alloc (.cells #[.string ⟨t.s.toArray⟩] 9)
          clear hown hb ht
          go_wp2_with (at_builtin; refine wpList_append_own _ rfl _ _ 38 rfl w.heap.size 9 i0 _ 1 16 Tryz.underlying38 (unhide HI) (unhide HZ).1 (unhide HZ).2.1 (unhide HZ).2.2 rfl (by decide) _ _ _ rfl hown2 ⟨wr.heap.size, 0, none⟩ 1 1 [.string ⟨t.s.toArray⟩] rfl rfl (World.news_of_block (cs := #[.string ⟨t.s.toArray⟩]) (t := 9) (fr := (0, 0)) (heap_alloc_new wr _)) (by simp [Value.oneCell']) (by unfold maxLen; omega) (by omega) (by simp; omega) ?_; intro v' w3 hown' hgrow _)
          go_roundg (l.length - (k + 1))
          case measure => omega
          case rel =>
            refine ⟨k + 1, by go_num, by omega, Nat.le_refl _, ?_, below_gb (gb_own (gb_trans (gb_below none (unhide Hb)) (gb_alloc _ _ _)) hown2 hgrow)⟩
            rw [unhide Ht, show Th.texts (l.take k ++ [t]) = Th.texts (l.take k) ++ [t.s] from by simp [Th.texts], ← List.append_assoc, strCells_snoc]
            exact hown'
        · have hk2 : k = l.length := by omega
          have Hk := hide hk2
          clear hown hb hk2
          go_wp2_with fail
          go_ret
          refine ⟨_, rfl, ?_, unhide Hb⟩
          have ho := unhide Ho
          rw [unhide Hk, List.take_of_length_le (Nat.le_refl _)] at ho
          simpa [Th.texts] using ho
  · have KC := unhide KCELLS kg kc rfl
    rcases hsh with hv | ⟨g, cap, hv⟩
    · have hl0 := unhide HLEN hv
      subst hv hl0
      go_enter Tryz.func172, Tryz.ntmps172
      go_wp2_with (at_builtin; refine wpList_append_own _ rfl _ _ 38 rfl w.heap.size 9 i0 _ 1 16 Tryz.underlying38 (unhide HI) (unhide HZ).1 (unhide HZ).2.1 (unhide HZ).2.2 rfl (by decide) (.slice none 0 0) 0 [] rfl (World.ownsRow_nil _ _ _ _) ⟨kg, 0, none⟩ known.length kc (strCells known) rfl (by simp [strCells]) KC (str_one _) (by unfold maxLen; omega) (by omega) (by simp) ?_; intro v0 W0 hown0' hgrow0 _)
      have hown0 : W0.ownsRow w.heap.size 9 1 v0 known.length (strCells known) := by simpa using hown0'
      have hbel0 : Below w.heap.size w W0 := below_gb hgrow0
      have HOWN0 := hide hown0
      have HBEL0 := hide hbel0
      clear hown0' hgrow0 hown0 hbel0
      refine wp_loop_rounds 1 ?_
      rw [rounds_succ]
      go_wp2_with fail
      go_ret
      exact ⟨_, rfl, by simpa [Th.texts] using unhide HOWN0, unhide HBEL0⟩
    · have HROW := hide (fun (wr : World) (t : Th.Tok) (k : Nat) (hb : Below w.heap.size w wr) (ht : l[k]? = some t) => unhide HLOOPROW wr t k hb ht g cap hv)
      subst hv
      go_enter Tryz.func172, Tryz.ntmps172
      go_wp2_with (at_builtin; refine wpList_append_own _ rfl _ _ 38 rfl w.heap.size 9 i0 _ 1 16 Tryz.underlying38 (unhide HI) (unhide HZ).1 (unhide HZ).2.1 (unhide HZ).2.2 rfl (by decide) (.slice none 0 0) 0 [] rfl (World.ownsRow_nil _ _ _ _) ⟨kg, 0, none⟩ known.length kc (strCells known) rfl (by simp [strCells]) KC (str_one _) (by unfold maxLen; omega) (by omega) (by simp) ?_; intro v0 W0 hown0' hgrow0 _)
      have hown0 : W0.ownsRow w.heap.size 9 1 v0 known.length (strCells known) := by simpa using hown0'
      have hbel0 : Below w.heap.size w W0 := below_gb hgrow0
      have HOWN0 := hide hown0
      have HBEL0 := hide hbel0
      clear hown0' hgrow0 hown0 hbel0
      go_loopg [5, 6] l.length (fun gk v i wr => ∃ k : Nat, i = .int .i64 k ∧ k ≤ l.length ∧ l.length - k ≤ gk ∧ wr.ownsRow w.heap.size 9 1 v (known.length + k) (strCells (known ++ Th.texts (l.take k))) ∧ Below w.heap.size w wr)
      case atStart => exact ⟨0, rfl, Nat.zero_le _, by omega, by simpa [Th.texts] using unhide HOWN0, unhide HBEL0⟩
      case round =>
        obtain ⟨k, rfl, hkl, hgk, hown, hb⟩ := hrel
        have Ho := hide hown
        have Hb := hide hb
        have hsz := hb.size
        by_cases hlt : k < l.length
        · obtain ⟨t, ht⟩ : ∃ t, l[k]? = some t := ⟨l[k], List.getElem?_eq_getElem hlt⟩
          obtain ⟨c0, hg⟩ := unhide HROW wr t k hb ht
          have Ht := hide (take_snoc_get ht)
          have hown2 := hown.alloc (.cells #[.string ⟨t.s.toArray⟩] 9)
          clear hown hb ht
          go_wp2_with (at_builtin; refine wpList_append_own _ rfl _ _ 38 rfl w.heap.size 9 i0 _ 1 16 Tryz.underlying38 (unhide HI) (unhide HZ).1 (unhide HZ).2.1 (unhide HZ).2.2 rfl (by decide) _ _ _ rfl hown2 ⟨wr.heap.size, 0, none⟩ 1 1 [.string ⟨t.s.toArray⟩] rfl rfl (World.news_of_block (cs := #[.string ⟨t.s.toArray⟩]) (t := 9) (fr := (0, 0)) (heap_alloc_new wr _)) (by simp [Value.oneCell']) (by unfold maxLen; omega) (by omega) (by simp; omega) ?_; intro v' w3 hown' hgrow _)
          go_roundg (l.length - (k + 1))
          case measure => omega
          case rel =>
            refine ⟨k + 1, by go_num, by omega, Nat.le_refl _, ?_, below_gb (gb_own (gb_trans (gb_below none (unhide Hb)) (gb_alloc _ _ _)) hown2 hgrow)⟩
            rw [unhide Ht, show Th.texts (l.take k ++ [t]) = Th.texts (l.take k) ++ [t.s] from by simp [Th.texts], ← List.append_assoc, strCells_snoc]
            exact hown'
        · have hk2 : k = l.length := by omega
          have Hk := hide hk2
          clear hown hb hk2
          go_wp2_with fail
          go_ret
          refine ⟨_, rfl, ?_, unhide Hb⟩
          have ho := unhide Ho
          rw [unhide Hk, List.take_of_length_le (Nat.le_refl _)] at ho
          simpa [Th.texts] using ho

end Go.Proofs.YtgahgkddaljmkaaGreatDoor
