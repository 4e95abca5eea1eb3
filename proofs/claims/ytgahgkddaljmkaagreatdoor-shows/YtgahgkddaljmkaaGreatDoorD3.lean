/- Package show: an expression's level; part. -/
import Derived.Test.YtgahgkddaljmkaaGreatDoorD2
import Derived.Test.YtgahgkddaljmkaaGreatDoorShelf
import Derived.Lib.ItoaNum
namespace Go.Proofs.YtgahgkddaljmkaaGreatDoor
open Go.RowKit
attribute [local go_sem ↓] Go.wp_at_zero Go.wp_at_succ

/-- The table of the powers of ten lies where the library laid it. -/
def Tab (w : World) : Prop := Lib.TabIs Tryz.prog w "internal/strconv.uint64pow10" .u64 Lib.pow10Tab
theorem Tab.below {w w' : World} (h : Tab w) (hb : Below w.heap.size w w') : Tab w' := by
  unfold Tab Lib.TabIs World.var? at h ⊢
  rw [Option.bind_eq_some_iff] at h ⊢
  obtain ⟨g, hg, h⟩ := h
  refine ⟨g, hg, ?_⟩
  have hlt : g < w.heap.size := by
    rcases Nat.lt_or_ge g w.heap.size with h1 | h1
    · exact h1
    · rw [Array.getElem?_eq_none h1] at h
      cases h
  rw [hb.block g hlt]
  exact h

/-- The program's text of an expression, at a depth. -/
def PxOK (n : Nat) : Prop := ∀ (w : World) (S : Nat → Prop) (v : Value) (e : Th.Ex), Tab w → Rep S w n v e → Th.Wf n e → (Th.text n e).length ≤ 1000000 →
  Calls Tryz.prog 64 #[v] w fun r w' => r = .returned (.string ⟨(Th.text n e).toArray⟩) ∧ Below w.heap.size w w'

set_option maxRecDepth 100000 in
set_option maxHeartbeats 4000000 in
theorem paren_any {n : Nat} (hx : PxOK n) {w : World} {S : Nat → Prop} {v : Value} {e : Th.Ex} (ht : Tab w) (h : Rep S w n v e) (hw : Th.Wf n e) (hl : (Th.text n e).length ≤ 999998) :
    Calls Tryz.prog 182 #[v] w fun r w' => r = .returned (.string ⟨(Th.paren (Th.text n e)).toArray⟩) ∧ Below w.heap.size w w' := by
  obtain ⟨t, x, rfl⟩ := rep_iface h
  have CX := hide (hx w S _ e ht h hw (by omega))
  clear hx h hw ht
  obtain ⟨X, hX⟩ : ∃ X, Th.text n e = X := ⟨_, rfl⟩
  rw [hX] at CX hl ⊢
  clear hX
  have HP : Hid ((⟨(Th.paren X).toArray⟩ : ByteArray) = ⟨#[40]⟩ ++ ⟨X.toArray⟩ ++ ⟨#[41]⟩) := hide (by simp only [Th.paren, ← bstr_app])
  go_enter Tryz.func182, Tryz.ntmps182
  go_wp2_with fail
  refine (unhide CX).mono ?_
  rintro en w1 ⟨rfl, b1⟩
  have HB := hide b1
  clear b1
  go_wp2_with fail
  go_ret
  exact ⟨by rw [unhide HP]; rfl, unhide HB⟩

set_option maxRecDepth 100000 in
theorem level_Use (x : Value) (w : World) : Calls Tryz.prog 321 #[x] w fun e w' => e = .returned (.int .i64 (5 : Nat)) ∧ Below w.heap.size w w' := by
  go_enter Tryz.func321, Tryz.ntmps321
  go_wp2_with fail
  all_goals
    go_ret
    exact ⟨rfl, below_alloc _ _⟩
set_option maxRecDepth 100000 in
theorem level_Number (x : Value) (w : World) : Calls Tryz.prog 322 #[x] w fun e w' => e = .returned (.int .i64 (5 : Nat)) ∧ Below w.heap.size w w' := by
  go_enter Tryz.func322, Tryz.ntmps322
  go_wp2_with fail
  all_goals
    go_ret
    exact ⟨rfl, below_alloc _ _⟩
set_option maxRecDepth 100000 in
theorem level_Maker (x : Value) (w : World) : Calls Tryz.prog 323 #[x] w fun e w' => e = .returned (.int .i64 (5 : Nat)) ∧ Below w.heap.size w w' := by
  go_enter Tryz.func323, Tryz.ntmps323
  go_wp2_with fail
  all_goals
    go_ret
    exact ⟨rfl, below_alloc _ _⟩
set_option maxRecDepth 100000 in
theorem level_Call (x : Value) (w : World) : Calls Tryz.prog 317 #[x] w fun e w' => e = .returned (.int .i64 (4 : Nat)) ∧ Below w.heap.size w w' := by
  go_enter Tryz.func317, Tryz.ntmps317
  go_wp2_with fail
  all_goals
    go_ret
    exact ⟨rfl, below_alloc _ _⟩
set_option maxRecDepth 100000 in
theorem level_Let (x : Value) (w : World) : Calls Tryz.prog 319 #[x] w fun e w' => e = .returned (.int .i64 (0 : Nat)) ∧ Below w.heap.size w w' := by
  go_enter Tryz.func319, Tryz.ntmps319
  go_wp2_with fail
  all_goals
    go_ret
    exact ⟨rfl, below_alloc _ _⟩
set_option maxRecDepth 100000 in
theorem level_Case (x : Value) (w : World) : Calls Tryz.prog 318 #[x] w fun e w' => e = .returned (.int .i64 (0 : Nat)) ∧ Below w.heap.size w w' := by
  go_enter Tryz.func318, Tryz.ntmps318
  go_wp2_with fail
  all_goals
    go_ret
    exact ⟨rfl, below_alloc _ _⟩
set_option maxRecDepth 100000 in
theorem level_Lambda (x : Value) (w : World) : Calls Tryz.prog 324 #[x] w fun e w' => e = .returned (.int .i64 (0 : Nat)) ∧ Below w.heap.size w w' := by
  go_enter Tryz.func324, Tryz.ntmps324
  go_wp2_with fail
  all_goals
    go_ret
    exact ⟨rfl, below_alloc _ _⟩

set_option maxRecDepth 100000 in
set_option maxHeartbeats 4000000 in
theorem level_Operation {s : List UInt8} (hs : s ∈ Th.six) {v1 v2 : Value} (h1 : ∃ t x, v1 = .iface t x) (h2 : ∃ t x, v2 = .iface t x) (w : World) :
    Calls Tryz.prog 183 #[.agg #[.string ⟨s.toArray⟩, v1, v2]] w fun e w' => e = .returned (.int .i64 (if s = [42] ∨ s = [47] then 3 else if s = [43] ∨ s = [45] then 2 else 1 : Nat)) ∧ Below w.heap.size w w' := by
  obtain ⟨t1, x1, rfl⟩ := h1
  obtain ⟨t2, x2, rfl⟩ := h2
  have hc : s = [43] ∨ s = [45] ∨ s = [42] ∨ s = [47] ∨ s = [60] ∨ s = [61, 61] := by simpa [Th.six] using hs
  clear hs
  rcases hc with rfl | rfl | rfl | rfl | rfl | rfl
  all_goals
    go_enter Tryz.func183, Tryz.ntmps183
    go_wp2_with fail
    go_ret
    exact ⟨rfl, below_alloc _ _⟩

set_option maxRecDepth 100000 in
set_option maxHeartbeats 4000000 in
theorem part_Use {w : World} {x : Value} {L least : Nat} {X P : List UInt8} (hL : Calls Tryz.prog 321 #[x] w fun e w' => e = .returned (.int .i64 (L : Nat)) ∧ Below w.heap.size w w')
    (hE : ∀ W, Below w.heap.size w W → Calls Tryz.prog 64 #[.iface 215 x] W fun r w' => r = .returned (.string ⟨X.toArray⟩) ∧ Below W.heap.size W w')
    (hP : L < least → ∀ W, Below w.heap.size w W → Calls Tryz.prog 182 #[.iface 215 x] W fun r w' => r = .returned (.string ⟨P.toArray⟩) ∧ Below W.heap.size W w') :
    Calls Tryz.prog 109 #[.iface 215 x, .int .i64 least] w fun r w' => r = .returned (.string ⟨(if L < least then P else X).toArray⟩) ∧ Below w.heap.size w w' := by
  have CL := hide hL
  have CE := hide hE
  by_cases hc : L < least
  · rw [if_pos hc]
    have CP := hide (hP hc)
    clear hL hE hP
    have hci : ((L : Int) < (least : Int)) := by omega
    go_enter Tryz.func109, Tryz.ntmps109
    go_wp2_with fail
    refine (unhide CL).mono ?_
    rintro en w1 ⟨rfl, b1⟩
    have HB1 := hide b1
    clear b1
    go_wp2_with fail
    refine (unhide CP _ (unhide HB1)).mono ?_
    rintro en w2 ⟨rfl, b2⟩
    have HB2 := hide ((unhide HB1).trans (b2.mono (unhide HB1).size))
    clear b2
    go_wp2_with fail
    go_ret
    exact ⟨rfl, unhide HB2⟩
  · rw [if_neg hc]
    clear hL hE hP
    have hci : ¬ ((L : Int) < (least : Int)) := by omega
    go_enter Tryz.func109, Tryz.ntmps109
    go_wp2_with fail
    refine (unhide CL).mono ?_
    rintro en w1 ⟨rfl, b1⟩
    have HB1 := hide b1
    clear b1
    go_wp2_with fail
    refine (unhide CE _ (unhide HB1)).mono ?_
    rintro en w2 ⟨rfl, b2⟩
    have HB2 := hide ((unhide HB1).trans (b2.mono (unhide HB1).size))
    clear b2
    go_wp2_with fail
    go_ret
    exact ⟨rfl, unhide HB2⟩
set_option maxRecDepth 100000 in
set_option maxHeartbeats 4000000 in
theorem part_Number {w : World} {x : Value} {L least : Nat} {X P : List UInt8} (hL : Calls Tryz.prog 322 #[x] w fun e w' => e = .returned (.int .i64 (L : Nat)) ∧ Below w.heap.size w w')
    (hE : ∀ W, Below w.heap.size w W → Calls Tryz.prog 64 #[.iface 217 x] W fun r w' => r = .returned (.string ⟨X.toArray⟩) ∧ Below W.heap.size W w')
    (hP : L < least → ∀ W, Below w.heap.size w W → Calls Tryz.prog 182 #[.iface 217 x] W fun r w' => r = .returned (.string ⟨P.toArray⟩) ∧ Below W.heap.size W w') :
    Calls Tryz.prog 109 #[.iface 217 x, .int .i64 least] w fun r w' => r = .returned (.string ⟨(if L < least then P else X).toArray⟩) ∧ Below w.heap.size w w' := by
  have CL := hide hL
  have CE := hide hE
  by_cases hc : L < least
  · rw [if_pos hc]
    have CP := hide (hP hc)
    clear hL hE hP
    have hci : ((L : Int) < (least : Int)) := by omega
    go_enter Tryz.func109, Tryz.ntmps109
    go_wp2_with fail
    refine (unhide CL).mono ?_
    rintro en w1 ⟨rfl, b1⟩
    have HB1 := hide b1
    clear b1
    go_wp2_with fail
    refine (unhide CP _ (unhide HB1)).mono ?_
    rintro en w2 ⟨rfl, b2⟩
    have HB2 := hide ((unhide HB1).trans (b2.mono (unhide HB1).size))
    clear b2
    go_wp2_with fail
    go_ret
    exact ⟨rfl, unhide HB2⟩
  · rw [if_neg hc]
    clear hL hE hP
    have hci : ¬ ((L : Int) < (least : Int)) := by omega
    go_enter Tryz.func109, Tryz.ntmps109
    go_wp2_with fail
    refine (unhide CL).mono ?_
    rintro en w1 ⟨rfl, b1⟩
    have HB1 := hide b1
    clear b1
    go_wp2_with fail
    refine (unhide CE _ (unhide HB1)).mono ?_
    rintro en w2 ⟨rfl, b2⟩
    have HB2 := hide ((unhide HB1).trans (b2.mono (unhide HB1).size))
    clear b2
    go_wp2_with fail
    go_ret
    exact ⟨rfl, unhide HB2⟩
set_option maxRecDepth 100000 in
set_option maxHeartbeats 4000000 in
theorem part_Maker {w : World} {x : Value} {L least : Nat} {X P : List UInt8} (hL : Calls Tryz.prog 323 #[x] w fun e w' => e = .returned (.int .i64 (L : Nat)) ∧ Below w.heap.size w w')
    (hE : ∀ W, Below w.heap.size w W → Calls Tryz.prog 64 #[.iface 219 x] W fun r w' => r = .returned (.string ⟨X.toArray⟩) ∧ Below W.heap.size W w')
    (hP : L < least → ∀ W, Below w.heap.size w W → Calls Tryz.prog 182 #[.iface 219 x] W fun r w' => r = .returned (.string ⟨P.toArray⟩) ∧ Below W.heap.size W w') :
    Calls Tryz.prog 109 #[.iface 219 x, .int .i64 least] w fun r w' => r = .returned (.string ⟨(if L < least then P else X).toArray⟩) ∧ Below w.heap.size w w' := by
  have CL := hide hL
  have CE := hide hE
  by_cases hc : L < least
  · rw [if_pos hc]
    have CP := hide (hP hc)
    clear hL hE hP
    have hci : ((L : Int) < (least : Int)) := by omega
    go_enter Tryz.func109, Tryz.ntmps109
    go_wp2_with fail
    refine (unhide CL).mono ?_
    rintro en w1 ⟨rfl, b1⟩
    have HB1 := hide b1
    clear b1
    go_wp2_with fail
    refine (unhide CP _ (unhide HB1)).mono ?_
    rintro en w2 ⟨rfl, b2⟩
    have HB2 := hide ((unhide HB1).trans (b2.mono (unhide HB1).size))
    clear b2
    go_wp2_with fail
    go_ret
    exact ⟨rfl, unhide HB2⟩
  · rw [if_neg hc]
    clear hL hE hP
    have hci : ¬ ((L : Int) < (least : Int)) := by omega
    go_enter Tryz.func109, Tryz.ntmps109
    go_wp2_with fail
    refine (unhide CL).mono ?_
    rintro en w1 ⟨rfl, b1⟩
    have HB1 := hide b1
    clear b1
    go_wp2_with fail
    refine (unhide CE _ (unhide HB1)).mono ?_
    rintro en w2 ⟨rfl, b2⟩
    have HB2 := hide ((unhide HB1).trans (b2.mono (unhide HB1).size))
    clear b2
    go_wp2_with fail
    go_ret
    exact ⟨rfl, unhide HB2⟩
set_option maxRecDepth 100000 in
set_option maxHeartbeats 4000000 in
theorem part_Call {w : World} {x : Value} {L least : Nat} {X P : List UInt8} (hL : Calls Tryz.prog 317 #[x] w fun e w' => e = .returned (.int .i64 (L : Nat)) ∧ Below w.heap.size w w')
    (hE : ∀ W, Below w.heap.size w W → Calls Tryz.prog 64 #[.iface 163 x] W fun r w' => r = .returned (.string ⟨X.toArray⟩) ∧ Below W.heap.size W w')
    (hP : L < least → ∀ W, Below w.heap.size w W → Calls Tryz.prog 182 #[.iface 163 x] W fun r w' => r = .returned (.string ⟨P.toArray⟩) ∧ Below W.heap.size W w') :
    Calls Tryz.prog 109 #[.iface 163 x, .int .i64 least] w fun r w' => r = .returned (.string ⟨(if L < least then P else X).toArray⟩) ∧ Below w.heap.size w w' := by
  have CL := hide hL
  have CE := hide hE
  by_cases hc : L < least
  · rw [if_pos hc]
    have CP := hide (hP hc)
    clear hL hE hP
    have hci : ((L : Int) < (least : Int)) := by omega
    go_enter Tryz.func109, Tryz.ntmps109
    go_wp2_with fail
    refine (unhide CL).mono ?_
    rintro en w1 ⟨rfl, b1⟩
    have HB1 := hide b1
    clear b1
    go_wp2_with fail
    refine (unhide CP _ (unhide HB1)).mono ?_
    rintro en w2 ⟨rfl, b2⟩
    have HB2 := hide ((unhide HB1).trans (b2.mono (unhide HB1).size))
    clear b2
    go_wp2_with fail
    go_ret
    exact ⟨rfl, unhide HB2⟩
  · rw [if_neg hc]
    clear hL hE hP
    have hci : ¬ ((L : Int) < (least : Int)) := by omega
    go_enter Tryz.func109, Tryz.ntmps109
    go_wp2_with fail
    refine (unhide CL).mono ?_
    rintro en w1 ⟨rfl, b1⟩
    have HB1 := hide b1
    clear b1
    go_wp2_with fail
    refine (unhide CE _ (unhide HB1)).mono ?_
    rintro en w2 ⟨rfl, b2⟩
    have HB2 := hide ((unhide HB1).trans (b2.mono (unhide HB1).size))
    clear b2
    go_wp2_with fail
    go_ret
    exact ⟨rfl, unhide HB2⟩
set_option maxRecDepth 100000 in
set_option maxHeartbeats 4000000 in
theorem part_Operation {w : World} {x : Value} {L least : Nat} {X P : List UInt8} (hL : Calls Tryz.prog 183 #[x] w fun e w' => e = .returned (.int .i64 (L : Nat)) ∧ Below w.heap.size w w')
    (hE : ∀ W, Below w.heap.size w W → Calls Tryz.prog 64 #[.iface 166 x] W fun r w' => r = .returned (.string ⟨X.toArray⟩) ∧ Below W.heap.size W w')
    (hP : L < least → ∀ W, Below w.heap.size w W → Calls Tryz.prog 182 #[.iface 166 x] W fun r w' => r = .returned (.string ⟨P.toArray⟩) ∧ Below W.heap.size W w') :
    Calls Tryz.prog 109 #[.iface 166 x, .int .i64 least] w fun r w' => r = .returned (.string ⟨(if L < least then P else X).toArray⟩) ∧ Below w.heap.size w w' := by
  have CL := hide hL
  have CE := hide hE
  by_cases hc : L < least
  · rw [if_pos hc]
    have CP := hide (hP hc)
    clear hL hE hP
    have hci : ((L : Int) < (least : Int)) := by omega
    go_enter Tryz.func109, Tryz.ntmps109
    go_wp2_with fail
    refine (unhide CL).mono ?_
    rintro en w1 ⟨rfl, b1⟩
    have HB1 := hide b1
    clear b1
    go_wp2_with fail
    refine (unhide CP _ (unhide HB1)).mono ?_
    rintro en w2 ⟨rfl, b2⟩
    have HB2 := hide ((unhide HB1).trans (b2.mono (unhide HB1).size))
    clear b2
    go_wp2_with fail
    go_ret
    exact ⟨rfl, unhide HB2⟩
  · rw [if_neg hc]
    clear hL hE hP
    have hci : ¬ ((L : Int) < (least : Int)) := by omega
    go_enter Tryz.func109, Tryz.ntmps109
    go_wp2_with fail
    refine (unhide CL).mono ?_
    rintro en w1 ⟨rfl, b1⟩
    have HB1 := hide b1
    clear b1
    go_wp2_with fail
    refine (unhide CE _ (unhide HB1)).mono ?_
    rintro en w2 ⟨rfl, b2⟩
    have HB2 := hide ((unhide HB1).trans (b2.mono (unhide HB1).size))
    clear b2
    go_wp2_with fail
    go_ret
    exact ⟨rfl, unhide HB2⟩
set_option maxRecDepth 100000 in
set_option maxHeartbeats 4000000 in
theorem part_Let {w : World} {x : Value} {L least : Nat} {X P : List UInt8} (hL : Calls Tryz.prog 319 #[x] w fun e w' => e = .returned (.int .i64 (L : Nat)) ∧ Below w.heap.size w w')
    (hE : ∀ W, Below w.heap.size w W → Calls Tryz.prog 64 #[.iface 178 x] W fun r w' => r = .returned (.string ⟨X.toArray⟩) ∧ Below W.heap.size W w')
    (hP : L < least → ∀ W, Below w.heap.size w W → Calls Tryz.prog 182 #[.iface 178 x] W fun r w' => r = .returned (.string ⟨P.toArray⟩) ∧ Below W.heap.size W w') :
    Calls Tryz.prog 109 #[.iface 178 x, .int .i64 least] w fun r w' => r = .returned (.string ⟨(if L < least then P else X).toArray⟩) ∧ Below w.heap.size w w' := by
  have CL := hide hL
  have CE := hide hE
  by_cases hc : L < least
  · rw [if_pos hc]
    have CP := hide (hP hc)
    clear hL hE hP
    have hci : ((L : Int) < (least : Int)) := by omega
    go_enter Tryz.func109, Tryz.ntmps109
    go_wp2_with fail
    refine (unhide CL).mono ?_
    rintro en w1 ⟨rfl, b1⟩
    have HB1 := hide b1
    clear b1
    go_wp2_with fail
    refine (unhide CP _ (unhide HB1)).mono ?_
    rintro en w2 ⟨rfl, b2⟩
    have HB2 := hide ((unhide HB1).trans (b2.mono (unhide HB1).size))
    clear b2
    go_wp2_with fail
    go_ret
    exact ⟨rfl, unhide HB2⟩
  · rw [if_neg hc]
    clear hL hE hP
    have hci : ¬ ((L : Int) < (least : Int)) := by omega
    go_enter Tryz.func109, Tryz.ntmps109
    go_wp2_with fail
    refine (unhide CL).mono ?_
    rintro en w1 ⟨rfl, b1⟩
    have HB1 := hide b1
    clear b1
    go_wp2_with fail
    refine (unhide CE _ (unhide HB1)).mono ?_
    rintro en w2 ⟨rfl, b2⟩
    have HB2 := hide ((unhide HB1).trans (b2.mono (unhide HB1).size))
    clear b2
    go_wp2_with fail
    go_ret
    exact ⟨rfl, unhide HB2⟩
set_option maxRecDepth 100000 in
set_option maxHeartbeats 4000000 in
theorem part_Case {w : World} {x : Value} {L least : Nat} {X P : List UInt8} (hL : Calls Tryz.prog 318 #[x] w fun e w' => e = .returned (.int .i64 (L : Nat)) ∧ Below w.heap.size w w')
    (hE : ∀ W, Below w.heap.size w W → Calls Tryz.prog 64 #[.iface 173 x] W fun r w' => r = .returned (.string ⟨X.toArray⟩) ∧ Below W.heap.size W w')
    (hP : L < least → ∀ W, Below w.heap.size w W → Calls Tryz.prog 182 #[.iface 173 x] W fun r w' => r = .returned (.string ⟨P.toArray⟩) ∧ Below W.heap.size W w') :
    Calls Tryz.prog 109 #[.iface 173 x, .int .i64 least] w fun r w' => r = .returned (.string ⟨(if L < least then P else X).toArray⟩) ∧ Below w.heap.size w w' := by
  have CL := hide hL
  have CE := hide hE
  by_cases hc : L < least
  · rw [if_pos hc]
    have CP := hide (hP hc)
    clear hL hE hP
    have hci : ((L : Int) < (least : Int)) := by omega
    go_enter Tryz.func109, Tryz.ntmps109
    go_wp2_with fail
    refine (unhide CL).mono ?_
    rintro en w1 ⟨rfl, b1⟩
    have HB1 := hide b1
    clear b1
    go_wp2_with fail
    refine (unhide CP _ (unhide HB1)).mono ?_
    rintro en w2 ⟨rfl, b2⟩
    have HB2 := hide ((unhide HB1).trans (b2.mono (unhide HB1).size))
    clear b2
    go_wp2_with fail
    go_ret
    exact ⟨rfl, unhide HB2⟩
  · rw [if_neg hc]
    clear hL hE hP
    have hci : ¬ ((L : Int) < (least : Int)) := by omega
    go_enter Tryz.func109, Tryz.ntmps109
    go_wp2_with fail
    refine (unhide CL).mono ?_
    rintro en w1 ⟨rfl, b1⟩
    have HB1 := hide b1
    clear b1
    go_wp2_with fail
    refine (unhide CE _ (unhide HB1)).mono ?_
    rintro en w2 ⟨rfl, b2⟩
    have HB2 := hide ((unhide HB1).trans (b2.mono (unhide HB1).size))
    clear b2
    go_wp2_with fail
    go_ret
    exact ⟨rfl, unhide HB2⟩
set_option maxRecDepth 100000 in
set_option maxHeartbeats 4000000 in
theorem part_Lambda {w : World} {x : Value} {L least : Nat} {X P : List UInt8} (hL : Calls Tryz.prog 324 #[x] w fun e w' => e = .returned (.int .i64 (L : Nat)) ∧ Below w.heap.size w w')
    (hE : ∀ W, Below w.heap.size w W → Calls Tryz.prog 64 #[.iface 226 x] W fun r w' => r = .returned (.string ⟨X.toArray⟩) ∧ Below W.heap.size W w')
    (hP : L < least → ∀ W, Below w.heap.size w W → Calls Tryz.prog 182 #[.iface 226 x] W fun r w' => r = .returned (.string ⟨P.toArray⟩) ∧ Below W.heap.size W w') :
    Calls Tryz.prog 109 #[.iface 226 x, .int .i64 least] w fun r w' => r = .returned (.string ⟨(if L < least then P else X).toArray⟩) ∧ Below w.heap.size w w' := by
  have CL := hide hL
  have CE := hide hE
  by_cases hc : L < least
  · rw [if_pos hc]
    have CP := hide (hP hc)
    clear hL hE hP
    have hci : ((L : Int) < (least : Int)) := by omega
    go_enter Tryz.func109, Tryz.ntmps109
    go_wp2_with fail
    refine (unhide CL).mono ?_
    rintro en w1 ⟨rfl, b1⟩
    have HB1 := hide b1
    clear b1
    go_wp2_with fail
    refine (unhide CP _ (unhide HB1)).mono ?_
    rintro en w2 ⟨rfl, b2⟩
    have HB2 := hide ((unhide HB1).trans (b2.mono (unhide HB1).size))
    clear b2
    go_wp2_with fail
    go_ret
    exact ⟨rfl, unhide HB2⟩
  · rw [if_neg hc]
    clear hL hE hP
    have hci : ¬ ((L : Int) < (least : Int)) := by omega
    go_enter Tryz.func109, Tryz.ntmps109
    go_wp2_with fail
    refine (unhide CL).mono ?_
    rintro en w1 ⟨rfl, b1⟩
    have HB1 := hide b1
    clear b1
    go_wp2_with fail
    refine (unhide CE _ (unhide HB1)).mono ?_
    rintro en w2 ⟨rfl, b2⟩
    have HB2 := hide ((unhide HB1).trans (b2.mono (unhide HB1).size))
    clear b2
    go_wp2_with fail
    go_ret
    exact ⟨rfl, unhide HB2⟩

theorem part_any {n : Nat} (hx : PxOK n) {w : World} {S : Nat → Prop} {v : Value} {e : Th.Ex} {least : Nat} (ht : Tab w) (h : Rep S w n v e) (hw : Th.Wf n e) (hl : (Th.within e least (Th.text n e)).length ≤ 1000000) :
    Calls Tryz.prog 109 #[v, .int .i64 least] w fun r w' => r = .returned (.string ⟨(Th.within e least (Th.text n e)).toArray⟩) ∧ Below w.heap.size w w' := by
  have hl1 : (Th.text n e).length ≤ 1000000 := by
    refine Nat.le_trans ?_ hl
    unfold Th.within
    split
    · simp [Th.paren]; omega
    · exact Nat.le_refl _
  have CE := fun (W : World) (hW : Below w.heap.size w W) => hx W S v e (ht.below hW) (h.gb (gb_below none hW) (by simp)) hw hl1
  have CP : ∀ L, Th.level e = L → L < least → ∀ W, Below w.heap.size w W → Calls Tryz.prog 182 #[v] W fun r w' => r = .returned (.string ⟨(Th.paren (Th.text n e)).toArray⟩) ∧ Below W.heap.size W w' := fun L hL hc W hW => paren_any hx (ht.below hW) (h.gb (gb_below none hW) (by simp)) hw (by
    rw [Th.within, if_pos (by rw [hL]; exact hc)] at hl
    simp [Th.paren] at hl
    omega)
  clear hl hl1
  unfold Th.within
  cases n with
  | zero => exact h.elim
  | succ n =>
    rcases h with ⟨hk, rfl⟩ | ⟨hk, rfl⟩ | ⟨hk, rfl⟩ | ⟨hk, sv, bv, b, h1, rfl, h3, h4⟩ | ⟨hk, v1, v2, e1, e2, h1, rfl, h3, h4⟩ | ⟨hk, v1, v2, e1, e2, h1, rfl, h3, h4⟩ | ⟨hk, sv, bv, b, parts, pvs, h1, rfl, h3, h4, h5, h6, h7⟩ | ⟨hk, cv, sv, b, bodies, nvs, bvs, h1, rfl, h3, h4, h5, h6, h7, h8, h9⟩
    · have hl : Th.level e = 5 := by simp [Th.level, hk]
      rw [hl]; exact part_Number (level_Number _ _) CE (CP _ hl)
    · have hl : Th.level e = 5 := by simp [Th.level, hk]
      rw [hl]; exact part_Use (level_Use _ _) CE (CP _ hl)
    · have hl : Th.level e = 5 := by simp [Th.level, hk]
      rw [hl]; exact part_Maker (level_Maker _ _) CE (CP _ hl)
    · have hl : Th.level e = 0 := by simp [Th.level, hk]
      rw [hl]; exact part_Lambda (level_Lambda _ _) CE (CP _ hl)
    · have hl : Th.level e = 4 := by simp [Th.level, hk]
      rw [hl]; exact part_Call (level_Call _ _) CE (CP _ hl)
    · have hs : e.tok.s ∈ Th.six := by
        rcases hw with h | h | h | ⟨h, _⟩ | ⟨h, _⟩ | ⟨h, hs, _⟩ | ⟨h, _⟩ | ⟨h, _⟩
        all_goals first | exact hs | omega
      have hl : Th.level e = if e.tok.s = [42] ∨ e.tok.s = [47] then 3 else if e.tok.s = [43] ∨ e.tok.s = [45] then 2 else 1 := by
        rw [Th.level, if_neg (by omega), if_pos hk]
      rw [hl]; exact part_Operation (level_Operation hs (rep_iface h3) (rep_iface h4) _) CE (CP _ hl)
    · have hl : Th.level e = 0 := by rcases hk with hk | hk <;> simp [Th.level, hk]
      rw [hl]; exact part_Let (level_Let _ _) CE (CP _ hl)
    · have hl : Th.level e = 0 := by simp [Th.level, hk]
      rw [hl]; exact part_Case (level_Case _ _) CE (CP _ hl)

end Go.Proofs.YtgahgkddaljmkaaGreatDoor
