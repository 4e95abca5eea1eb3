/- The document's own reader: its small tests. The document's own reader: sign. The document's own reader: the token that begins at a place. The document's own reader: a word. The document's tokens, and what the grammar's reader sees of them: plain reasoning. The document's own reader: a sign, a number. -/
import Derived.Test.YtgahgkddaljmkaaGreatDoorA3
import Derived.Deep.DeepCutAuto
import Derived.Deep.DrawnRows
namespace Go.Proofs.YtgahgkddaljmkaaGreatDoor
open Go.RowKit

def kLet (c : Nat) : Bool := decide (97 ≤ c) && decide (c ≤ 122)
def kDig (c : Nat) : Bool := decide (48 ≤ c) && decide (c ≤ 57)

set_option maxHeartbeats 400000 in
theorem letter_any (c : Nat) (w : World) :
    Calls Tryz.prog 219 #[.int .u8 c] w fun e w' => e = .returned (.bool (kLet c)) ∧ w' = w := by
  by_cases h : (97 : Int) ≤ (c : Int)
  · have h2 : decide (97 ≤ c) = true := by simp; omega
    go_enter Tryz.func219, Tryz.ntmps219
    go_wp2
    go_ret
    refine ⟨?_, rfl⟩
    rw [kLet, h2]
    simp
    omega
  · have h2 : decide (97 ≤ c) = false := by simp; omega
    go_enter Tryz.func219, Tryz.ntmps219
    go_wp2
    go_ret
    exact ⟨by rw [kLet, h2]; rfl, rfl⟩

set_option maxHeartbeats 400000 in
theorem digit_any (c : Nat) (w : World) :
    Calls Tryz.prog 220 #[.int .u8 c] w fun e w' => e = .returned (.bool (kDig c)) ∧ w' = w := by
  by_cases h : (48 : Int) ≤ (c : Int)
  · have h2 : decide (48 ≤ c) = true := by simp; omega
    go_enter Tryz.func220, Tryz.ntmps220
    go_wp2
    go_ret
    refine ⟨?_, rfl⟩
    rw [kDig, h2]
    simp
    omega
  · have h2 : decide (48 ≤ c) = false := by simp; omega
    go_enter Tryz.func220, Tryz.ntmps220
    go_wp2
    go_ret
    exact ⟨by rw [kDig, h2]; rfl, rfl⟩

/-- Of two places, of which a number below 0 is none. -/
def leastI (a b : Int) : Int := if a < 0 ∨ (0 ≤ b ∧ b < a) then b else a

set_option maxHeartbeats 400000 in
theorem least_any (a b : Int) (w : World) :
    Calls Tryz.prog 174 #[.int .i64 a, .int .i64 b] w fun e w' => e = .returned (.int .i64 (leastI a b)) ∧ w' = w := by
  by_cases h1 : a < 0
  · go_enter Tryz.func174, Tryz.ntmps174
    go_wp2
    go_ret
    exact ⟨by rw [leastI, if_pos (.inl h1)]; rfl, rfl⟩
  · by_cases h2 : 0 ≤ b
    · by_cases h3 : b < a
      · go_enter Tryz.func174, Tryz.ntmps174
        go_wp2
        go_ret
        exact ⟨by rw [leastI, if_pos (.inr ⟨h2, h3⟩)]; rfl, rfl⟩
      · go_enter Tryz.func174, Tryz.ntmps174
        go_wp2
        go_ret
        exact ⟨by rw [leastI, if_neg (by omega)]; rfl, rfl⟩
    · go_enter Tryz.func174, Tryz.ntmps174
      go_wp2
      go_ret
      exact ⟨by rw [leastI, if_neg (by omega)]; rfl, rfl⟩

set_option maxHeartbeats 1000000 in
theorem keyword_any (s : ByteArray) (w : World) :
    Calls Tryz.prog 221 #[.string s] w fun e w' => e = .returned (.bool (Th.isKw s.data.toList)) ∧ w' = w := by
  go_enter Tryz.func221, Tryz.ntmps221
  go_wp2
  all_goals
    go_ret
    refine ⟨?_, rfl⟩
    rw [← ByteArray.toList_eq]
    simp [Th.isKw, Th.sLet, Th.sRec, Th.sIn, Th.sCase, Th.sOf, *]

end Go.Proofs.YtgahgkddaljmkaaGreatDoor

namespace Go.Proofs.YtgahgkddaljmkaaGreatDoor
open Go.RowKit
attribute [local go_sem ↓] Go.wp_at_zero Go.wp_at_succ

def allSigns : ByteArray := ⟨#[61, 59, 40, 41, 123, 125, 44, 60, 62, 46, 92, 43, 45, 42, 47]⟩

theorem extract2 (s : ByteArray) : (s.extract 0 2).toList = s.data.toList.take 2 := by
  rw [ByteArray.toList_eq]
  simp

theorem signs_no {c : UInt8} (h : ∀ j, j < 15 → Th.signs[j]? ≠ some c) : Th.signs.contains c = false := by
  rw [← Bool.not_eq_true, List.contains_iff_mem]
  intro hm
  obtain ⟨j, hj, e⟩ := List.getElem_of_mem hm
  exact h j hj (by rw [List.getElem?_eq_getElem hj, e])

theorem signs_eq {k : Nat} {h : k < (⟨#[61, 59, 40, 41, 123, 125, 44, 60, 62, 46, 92, 43, 45, 42, 47]⟩ : ByteArray).size} {c : UInt8} : ((((⟨#[61, 59, 40, 41, 123, 125, 44, 60, 62, 46, 92, 43, 45, 42, 47]⟩ : ByteArray)[k]'h).toNat : Int) == (c.toNat : Int)) = true ↔ Th.signs[k]? = some c := by
  have e : Th.signs[k]? = some ((⟨#[61, 59, 40, 41, 123, 125, 44, 60, 62, 46, 92, 43, 45, 42, 47]⟩ : ByteArray)[k]'h) := by
    rw [List.getElem?_eq_getElem (by exact h)]
    rfl
  rw [e, beq_iff_eq, Option.some.injEq]
  constructor
  · intro h
    exact UInt8.toNat_inj.1 (by omega)
  · intro h
    rw [h]

theorem signLen_hit {l : List UInt8} {c : UInt8} {r : List UInt8} (e : l = c :: r) (h : (l.take 2 == [45, 62] || l.take 2 == [61, 61]) = false) {k : Nat} (hk : Th.signs[k]? = some c) : Th.signLen l = 1 := by
  subst e
  have hc : Th.signs.contains c = true := List.contains_iff_mem.2 (List.mem_of_getElem? hk)
  simp only [Th.signLen, h, Bool.false_eq_true, if_false, hc, if_true]
theorem signLen_miss {l : List UInt8} {c : UInt8} {r : List UInt8} (e : l = c :: r) (h : (l.take 2 == [45, 62] || l.take 2 == [61, 61]) = false) (hc : Th.signs.contains c = false) : Th.signLen l = 0 := by
  subst e
  simp only [Th.signLen, h, Bool.false_eq_true, if_false, hc]

set_option maxRecDepth 100000 in
set_option maxHeartbeats 4000000 in
theorem sign_any (s : ByteArray) (hs : 0 < s.size) (hm : s.size ≤ 1000) (w : World) :
    Calls Tryz.prog 222 #[.string s] w fun e w' => e = .returned (.int .i64 (Th.signLen s.data.toList)) ∧ Below w.heap.size w w' := by
  obtain ⟨r, hr⟩ := ba_cons s hs
  have Hr := hide hr; clear hr
  have x2 := extract2 s
  cases hab : s.data.toList.take 2 == [45, 62] || s.data.toList.take 2 == [61, 61]
  · have H0 := hide hab
    rw [Bool.or_eq_false_iff, ← x2] at hab
    obtain ⟨ha, hb⟩ := hab
    clear x2
    by_cases h1 : (1 : Int) < (s.size : Int)
    all_goals
      go_enter Tryz.func222, Tryz.ntmps222
      go_wp2_with fail
      go_loopg [4] 15 (fun gk i wr => ∃ k : Nat, i = .int .i64 k ∧ k ≤ 15 ∧ 15 - k ≤ gk ∧ (∀ j, j < k → Th.signs[j]? ≠ some s[0]) ∧ Below w.heap.size w wr)
      case atStart => exact ⟨0, rfl, by omega, by omega, fun j hj => absurd hj (Nat.not_lt_zero _), Below.refl _ _⟩
      case round =>
        obtain ⟨k, rfl, hk, hgk, hno, hg⟩ := hrel
        have Hg := hide hg
        have HNO := hide hno
        clear hg hno
        by_cases hlt : k < 15
        · have hlt' : (k : Int) < 15 := by omega
          go_wp2_with fail
          go_region_with fail
          all_goals
            go_wp2_with fail
            · rename_i hq
              go_ret
              refine ⟨?_, below_gb (gb_trans (gb_below none (unhide Hg)) (gb_drew _ _))⟩
              rw [signLen_hit (unhide Hr) (unhide H0) (signs_eq.1 hq)]
              rfl
            · rename_i hq
              go_roundg (15 - (k + 1))
              case measure => omega
              case rel =>
                refine ⟨k + 1, by go_num, by omega, Nat.le_refl _, fun j hj => ?_, below_gb (gb_trans (gb_below none (unhide Hg)) (gb_drew _ _))⟩
                by_cases hjk : j = k
                · subst hjk
                  intro he
                  rw [signs_eq.2 he] at hq
                  cases hq
                · exact unhide HNO j (by omega)
        · have hk2 : k = 15 := by omega
          subst hk2
          go_wp2_with fail
          go_ret
          refine ⟨?_, unhide Hg⟩
          rw [signLen_miss (unhide Hr) (unhide H0) (signs_no (unhide HNO))]
          rfl
  · have H0 := hide (signLen_two hab)
    have h1 : (1 : Int) < (s.size : Int) := by
      have hl : (s.data.toList.take 2).length = 2 := by
        rw [Bool.or_eq_true, beq_iff_eq, beq_iff_eq] at hab
        rcases hab with h | h <;> rw [h] <;> rfl
      rw [List.length_take, Array.length_toList] at hl
      have : s.size = s.data.size := rfl
      omega
    rw [← x2] at hab
    clear x2
    cases ha : (s.extract 0 2).toList == [45, 62]
    · have hb : ((s.extract 0 2).toList == [61, 61]) = true := by rw [ha] at hab; simpa using hab
      clear hab
      go_enter Tryz.func222, Tryz.ntmps222
      go_wp2_with fail
      go_ret
      exact ⟨by rw [unhide H0]; rfl, Below.refl _ _⟩
    · clear hab
      go_enter Tryz.func222, Tryz.ntmps222
      go_wp2_with fail
      go_ret
      exact ⟨by rw [unhide H0]; rfl, Below.refl _ _⟩

end Go.Proofs.YtgahgkddaljmkaaGreatDoor

namespace Go.Proofs.YtgahgkddaljmkaaGreatDoor
open Go.RowKit
attribute [local go_sem ↓] Go.wp_at_zero Go.wp_at_succ

/-- A token as the document cuts it: its text, its kind (a byte), its number. -/
structure Th.DT where
  s : List UInt8
  k : Nat
  n : Nat

def Th.dfirst (u : List UInt8) : Th.DT :=
  match u with
  | [] => ⟨[], 33, 0⟩
  | c :: _ =>
    if Th.isLet c then ⟨u.takeWhile Th.isWc, if Th.isKw (u.takeWhile Th.isWc) then 107 else 97, 0⟩
    else if Th.isDig c then ⟨u.takeWhile Th.isDig, if 9 < (u.takeWhile Th.isDig).length then 33 else 48, Th.val ((u.takeWhile Th.isDig).take 9)⟩
    else if Th.signLen u = 0 then ⟨[c], 33, 0⟩ else ⟨u.take (Th.signLen u), 115, 0⟩

def dtV (t : Th.DT) (p : Nat) : Value := .agg #[.string ⟨t.s.toArray⟩, .int .i64 p, .int .u8 t.k, .int .i64 t.n]

theorem kLet_eq (c : UInt8) : kLet c.toNat = Th.isLet c := rfl
theorem kDig_eq (c : UInt8) : kDig c.toNat = Th.isDig c := rfl

/-- Where a run of bytes ends. -/
theorem takeWhile_run (f : UInt8 → Bool) : ∀ (l : List UInt8) (n : Nat), n ≤ l.length → (∀ j (h : j < l.length), j < n → f l[j] = true) → (∀ h : n < l.length, f l[n] = false) → l.takeWhile f = l.take n
  | [], n, h, _, _ => by simp
  | c :: l, 0, _, _, h => by
    have := h (by simp)
    simp only [List.getElem_cons_zero] at this
    simp [this]
  | c :: l, n + 1, hn, h1, h2 => by
    have hc := h1 0 (by simp) (by omega)
    simp only [List.getElem_cons_zero] at hc
    rw [List.takeWhile_cons, if_pos hc, List.take_succ_cons, takeWhile_run f l n (by simpa using hn) (fun j h hj => h1 (j + 1) (by simpa using h) (by omega)) (fun h => h2 (by simpa using h))]

end Go.Proofs.YtgahgkddaljmkaaGreatDoor

namespace Go.Proofs.YtgahgkddaljmkaaGreatDoor
open Go.RowKit
attribute [local go_sem ↓] Go.wp_at_zero Go.wp_at_succ

theorem ext_run {f : UInt8 → Bool} (s : ByteArray) (p k : Nat) (hpk : p ≤ k) (hk : k ≤ s.size) (h1 : ∀ j (h : j < s.size), p ≤ j → j < k → f s[j] = true) (h2 : ∀ h : k < s.size, f s[k] = false) : (s.extract p k).data.toList = (s.data.toList.drop p).takeWhile f := by
  have hz : s.data.toList.length = s.size := by rw [Array.length_toList]; rfl
  rw [takeWhile_run f (s.data.toList.drop p) (k - p) (by rw [List.length_drop]; omega) (fun j h hj => by
    rw [List.getElem_drop]
    rw [List.length_drop] at h
    exact h1 (p + j) (by omega) (by omega) (by omega)) (fun h => by
    rw [List.getElem_drop]
    rw [List.length_drop] at h
    have e : p + (k - p) = k := by omega
    simp only [e]
    exact h2 (by omega))]
  simp

theorem two_new (w : World) (o o' : Obj) : Below w.heap.size w ((w.alloc o).alloc o') := below_gb (gb_trans (gb_alloc _ _ _) (gb_alloc _ _ _))

theorem drop_cons (s : ByteArray) (p : Nat) (hp : p < s.size) : s.data.toList.drop p = s[p] :: s.data.toList.drop (p + 1) := by
  rw [List.drop_eq_getElem_cons (by rw [Array.length_toList]; exact hp)]
  rfl

theorem dfirst_word (s : ByteArray) (p : Nat) (hp : p < s.size) (hl : Th.isLet s[p] = true) : Th.dfirst (s.data.toList.drop p) = ⟨(s.data.toList.drop p).takeWhile Th.isWc, if Th.isKw ((s.data.toList.drop p).takeWhile Th.isWc) then 107 else 97, 0⟩ := by
  rw [drop_cons s p hp]
  simp only [Th.dfirst, hl, if_true]

set_option maxRecDepth 100000 in
set_option maxHeartbeats 4000000 in
theorem dtoken_word (s : ByteArray) (p : Nat) (hp : p < s.size) (hm : s.size ≤ 600) (hl : Th.isLet s[p] = true) (w : World) :
    Calls Tryz.prog 167 #[.string s, .int .i64 p] w fun e w' => e = .returned (dtV (Th.dfirst (s.data.toList.drop p)) p) ∧ Below w.heap.size w w' := by
  have hp' : (p : Int) < (s.size : Int) := by omega
  have hp0 : (0 : Int) ≤ (p : Int) := by omega
  have HL := hide hl
  clear hl
  go_enter Tryz.func167, Tryz.ntmps167
  go_wp2_with fail
  refine (letter_any _ _).mono ?_
  rintro e w1 ⟨rfl, rfl⟩
  rw [kLet_eq, unhide HL]
  go_wp2_with fail
  go_loopg [6] s.size (fun gk i wr => ∃ k : Nat, i = .int .i64 k ∧ p ≤ k ∧ k ≤ s.size ∧ s.size - k ≤ gk ∧ (∀ j (h : j < s.size), p ≤ j → j < k → Th.isWc s[j] = true) ∧ wr = (w.alloc (.cells #[.string ⟨#[]⟩, .int .i64 0, .int .u8 0, .int .i64 0] 108)).alloc (.cells #[.string ⟨#[]⟩, .int .i64 p, .int .u8 0, .int .i64 0] 108))
  case atStart => exact ⟨p, rfl, Nat.le_refl _, by omega, by omega, fun j _ h1 h2 => absurd h2 (by omega), rfl⟩
  case round =>
    obtain ⟨k, rfl, hpk, hk, hgk, hrun, rfl⟩ := hrel
    have HRUN := hide hrun
    clear hrun
    by_cases hlt : k < s.size
    · have hlt' : (k : Int) < (s.size : Int) := by omega
      have hk0 : (0 : Int) ≤ (k : Int) := by omega
      go_wp2_with fail
      refine (letter_any _ _).mono ?_
      rintro e w1 ⟨rfl, rfl⟩
      rw [kLet_eq]
      cases hc1 : Th.isLet s[k]
      · have HC1 := hide hc1
        clear hc1
        go_wp2_with fail
        refine (digit_any _ _).mono ?_
        rintro e w1 ⟨rfl, rfl⟩
        rw [kDig_eq]
        cases hc2 : Th.isDig s[k]
        · have HC2 := hide hc2
          clear hc2
          have hx : Hid ((s.extract p k).data.toList = (s.data.toList.drop p).takeWhile Th.isWc) := hide (ext_run s p k hpk hk (unhide HRUN) (fun h => by simp [Th.isWc, unhide HC1, unhide HC2]))
          go_wp2_with fail
          refine (keyword_any _ _).mono ?_
          rintro e w1 ⟨rfl, rfl⟩
          cases hkw : Th.isKw (s.extract p k).data.toList
          · have HK := hide hkw
            clear hkw
            go_wp2_with fail
            go_returns
            refine ⟨?_, two_new _ _ _⟩
            rw [dfirst_word s p hp (unhide HL), ← unhide hx, unhide HK]
            simp only [dtV, ba_eq]
            rfl
          · have HK := hide hkw
            clear hkw
            go_wp2_with fail
            go_returns
            refine ⟨?_, two_new _ _ _⟩
            rw [dfirst_word s p hp (unhide HL), ← unhide hx, unhide HK]
            simp only [dtV, ba_eq]
            rfl
        · have HC2 := hide hc2
          clear hc2
          go_wp2_with fail
          go_roundg (s.size - (k + 1))
          case measure => omega
          case rel =>
            refine ⟨k + 1, by go_num, by omega, by omega, Nat.le_refl _, fun j h h1 h2 => ?_, rfl⟩
            by_cases hj : j = k
            · subst hj
              simp [Th.isWc, unhide HC2]
            · exact unhide HRUN j h h1 (by omega)
      · have HC1 := hide hc1
        clear hc1
        go_wp2_with fail
        go_roundg (s.size - (k + 1))
        case measure => omega
        case rel =>
          refine ⟨k + 1, by go_num, by omega, by omega, Nat.le_refl _, fun j h h1 h2 => ?_, rfl⟩
          by_cases hj : j = k
          · subst hj
            simp [Th.isWc, unhide HC1]
          · exact unhide HRUN j h h1 (by omega)
    · have hnl : ¬ ((k : Int) < (s.size : Int)) := by omega
      have hx : Hid ((s.extract p k).data.toList = (s.data.toList.drop p).takeWhile Th.isWc) := hide (ext_run s p k hpk hk (unhide HRUN) (fun h => absurd h hlt))
      go_wp2_with fail
      refine (keyword_any _ _).mono ?_
      rintro e w1 ⟨rfl, rfl⟩
      cases hkw : Th.isKw (s.extract p k).data.toList
      · have HK := hide hkw
        clear hkw
        go_wp2_with fail
        go_returns
        refine ⟨?_, two_new _ _ _⟩
        rw [dfirst_word s p hp (unhide HL), ← unhide hx, unhide HK]
        simp only [dtV, ba_eq]
        rfl
      · have HK := hide hkw
        clear hkw
        go_wp2_with fail
        go_returns
        refine ⟨?_, two_new _ _ _⟩
        rw [dfirst_word s p hp (unhide HL), ← unhide hx, unhide HK]
        simp only [dtV, ba_eq]
        rfl

end Go.Proofs.YtgahgkddaljmkaaGreatDoor

namespace Go.Proofs.YtgahgkddaljmkaaGreatDoor.Th

/-- A token as the document cuts it, with its place. -/
structure DP where
  s : List UInt8
  k : Nat
  n : Nat
  at_ : Nat

def dend (p : Nat) : DP := ⟨[], 33, 0, p⟩
def dpl (t : DT) (p : Nat) : DP := ⟨t.s, t.k, t.n, p⟩

/-- All tokens of a text whose first byte stands at a place, with one of no text at the end. -/
def dtoks : Nat → List UInt8 → Nat → List DP
  | 0, _, p => [dend p]
  | _ + 1, [], p => [dend p]
  | n + 1, c :: u, p => if isBl c then dtoks n u (p + 1) else dpl (dfirst (c :: u)) p :: dtoks n ((c :: u).drop (dfirst (c :: u)).s.length) (p + (dfirst (c :: u)).s.length)

def kd (k : Nat) : Nat := if k = 97 then 2 else if k = 48 then 3 else 4

/-- What the grammar's reader sees of such tokens: none behind the first that is none. -/
def cutL : List DP → List Tok
  | [] => []
  | d :: r => if d.k = 33 then [⟨if r.isEmpty then 0 else 1, [], d.at_⟩] else ⟨kd d.k, d.s, d.at_⟩ :: cutL r

theorem dtoks_ne (n : Nat) (t : List UInt8) (p : Nat) : dtoks n t p ≠ [] := by
  induction n generalizing t p with
  | zero => simp [dtoks]
  | succ n ih =>
    cases t with
    | nil => simp [dtoks]
    | cons c u =>
      rw [dtoks]
      split
      · exact ih _ _
      · simp

theorem bl_let {c : UInt8} (h : isBl c = true) : isLet c = false := by
  simp only [isBl, Bool.or_eq_true, beq_iff_eq] at h
  rcases h with rfl | rfl <;> rfl

/-- What the two cuts of a token have to do with each other. -/
structure Like (x : Nat × List UInt8) (d : DT) : Prop where
  some_ : d.k ≠ 33 → x = (kd d.k, d.s)
  none_ : d.k = 33 → x = (1, [])
  two : d.k ≠ 33 → 2 ≤ kd d.k
  pos : 0 < d.s.length
  kind : d.k = 97 ∨ d.k = 107 ∨ d.k = 48 ∨ d.k = 115 ∨ d.k = 33
  sgn : d.s = [60] ∨ d.s = [123] ∨ d.s = [40] → d.k = 115
  num : d.k = 48 → d.n = val d.s ∧ d.s.length ≤ 9 ∧ ∀ c ∈ d.s, isDig c = true
  word : d.k ≠ 48 → d.k ≠ 33 → d.n = 0

theorem takeWhile_pos {f : UInt8 → Bool} {c : UInt8} (u : List UInt8) (h : f c = true) : 0 < ((c :: u).takeWhile f).length := by
  rw [List.takeWhile_cons, if_pos h]; simp

theorem signLen_le (c : UInt8) (u : List UInt8) : signLen (c :: u) ≤ (c :: u).length := by
  unfold signLen
  split
  · rename_i h
    cases u with
    | nil => simp at h
    | cons d v => simp
  · simp only
    split <;> simp

theorem takeWhile_all {f : UInt8 → Bool} : ∀ (l : List UInt8), ∀ c ∈ l.takeWhile f, f c = true
  | [], c, h => by simp at h
  | d :: l, c, h => by
    rw [List.takeWhile_cons] at h
    split at h
    · rcases List.mem_cons.1 h with rfl | h
      · assumption
      · exact takeWhile_all l c h
    · simp at h

theorem first_like (c : UInt8) (u : List UInt8) : Like (first (c :: u)) (dfirst (c :: u)) := by
  unfold first dfirst
  simp only
  cases hl : isLet c with
  | true =>
    simp only [if_true, word]
    have hw : isWc c = true := by simp [isWc, hl]
    have hp := takeWhile_pos u hw
    have hh : ((c :: u).takeWhile isWc) = c :: u.takeWhile isWc := by rw [List.takeWhile_cons, if_pos hw]
    have hs : ∀ b : UInt8, isLet b = false → (c :: u).takeWhile isWc ≠ [b] := by
      intro b hb e
      rw [hh] at e
      simp only [List.cons.injEq] at e
      rw [← e.1, hl] at hb
      cases hb
    split
    · refine ⟨fun _ => rfl, (fun h => by simp at h), (fun _ => by simp [kd]), hp, .inr (.inl rfl), ?_, (fun h => by simp at h), fun _ _ => rfl⟩
      rintro (h | h | h) <;> exact absurd h (hs _ rfl)
    · refine ⟨fun _ => rfl, (fun h => by simp at h), (fun _ => by simp [kd]), hp, .inl rfl, ?_, (fun h => by simp at h), fun _ _ => rfl⟩
      rintro (h | h | h) <;> exact absurd h (hs _ rfl)
  | false =>
    simp only [Bool.false_eq_true, if_false]
    cases hd : isDig c with
    | true =>
      simp only [if_true, numb]
      have hp := takeWhile_pos u hd
      have hh : ((c :: u).takeWhile isDig) = c :: u.takeWhile isDig := by rw [List.takeWhile_cons, if_pos hd]
      have hs : ∀ b : UInt8, isDig b = false → (c :: u).takeWhile isDig ≠ [b] := by
        intro b hb e
        rw [hh] at e
        simp only [List.cons.injEq] at e
        rw [← e.1, hd] at hb
        cases hb
      split
      · refine ⟨(fun h => by simp at h), (fun _ => rfl), (fun h => by simp at h), hp, .inr (.inr (.inr (.inr rfl))), ?_, (fun h => by simp at h), (fun _ h => by simp at h)⟩
        rintro (h | h | h) <;> exact absurd h (hs _ rfl)
      · rename_i hn
        refine ⟨fun _ => rfl, (fun h => by simp at h), (fun _ => by simp [kd]), hp, .inr (.inr (.inl rfl)), ?_, (fun _ => ⟨?_, by simp only; omega, takeWhile_all _⟩), (fun h => by simp at h)⟩
        · rintro (h | h | h) <;> exact absurd h (hs _ rfl)
        · simp only
          rw [List.take_of_length_le (by omega)]
    | false =>
      simp only [Bool.false_eq_true, if_false]
      split
      · rename_i h0
        refine ⟨(fun h => by simp at h), (fun _ => rfl), (fun h => by simp at h), by simp, .inr (.inr (.inr (.inr rfl))), ?_, (fun h => by simp at h), (fun _ h => by simp at h)⟩
        have hc : signs.contains c = false := by
          unfold signLen at h0
          split at h0
          · cases h0
          · simp only at h0
            cases hs : signs.contains c
            · rfl
            · rw [hs] at h0; simp at h0
        rintro (h | h | h) <;> simp only [List.cons.injEq, and_true] at h <;> subst h <;> exact absurd hc (by decide)
      · rename_i h0
        refine ⟨fun _ => rfl, (fun h => by simp at h), (fun _ => by simp [kd]), ?_, .inr (.inr (.inr (.inl rfl))), (fun _ => rfl), (fun h => by simp at h), fun _ _ => rfl⟩
        have := signLen_le c u
        simp only [List.length_take]
        omega

theorem toks_blank (n : Nat) (c : UInt8) (u : List UInt8) (p : Nat) (h : isBl c = true) : toks (n + 1) (c :: u) p = toks (n + 1) u (p + 1) := by
  rw [toks, toks]
  simp only [List.takeWhile_cons, h, if_true, List.length_cons, List.drop_succ_cons]
  rw [show p + ((u.takeWhile isBl).length + 1) = p + 1 + (u.takeWhile isBl).length by omega]

theorem toks_token (n : Nat) (c : UInt8) (u : List UInt8) (p : Nat) (h : isBl c = false) : toks (n + 1) (c :: u) p = ⟨(first (c :: u)).1, (first (c :: u)).2, p⟩ :: (if (first (c :: u)).1 ≤ 1 then [] else toks n ((c :: u).drop (first (c :: u)).2.length) (p + (first (c :: u)).2.length)) := by
  rw [toks]
  simp only [List.takeWhile_cons, h, Bool.false_eq_true, if_false, List.length_nil, List.drop_zero, Nat.add_zero]

theorem cut_toks : ∀ (N : Nat) (t : List UInt8) (p M : Nat), t.length < N → t.length < M → cutL (dtoks N t p) = toks M t p
  | 0, _, _, _, h, _ => by omega
  | N + 1, [], p, M, h, hM => by
    cases M with
    | zero => omega
    | succ M => simp [dtoks, cutL, dend, toks, first]
  | N + 1, c :: u, p, M, h, hM => by
    simp only [List.length_cons] at h hM
    cases M with
    | zero => omega
    | succ M =>
      cases hb : isBl c with
      | true =>
        rw [dtoks, if_pos hb, toks_blank M c u p hb]
        exact cut_toks N u (p + 1) (M + 1) (by omega) (by omega)
      | false =>
        rw [dtoks, hb, if_neg (by simp), toks_token M c u p hb]
        have hl := first_like c u
        by_cases hk : (dfirst (c :: u)).k = 33
        · have e := hl.none_ hk
          rw [e]
          have hne := dtoks_ne N ((c :: u).drop (dfirst (c :: u)).s.length) (p + (dfirst (c :: u)).s.length)
          simp [cutL, dpl, hk, hne]
        · have e := hl.some_ hk
          have h2 := hl.two hk
          have hp := hl.pos
          rw [e]
          simp only [cutL, dpl, hk, if_false]
          rw [if_neg (by omega)]
          congr 1
          refine cut_toks N _ _ M ?_ ?_ <;> rw [List.length_drop, List.length_cons] <;> omega

/-- What is known of all the document's tokens. -/
structure DGood (L : List DP) : Prop where
  len : L.length ≤ 100000
  last : ∀ i d, L[i]? = some d → i + 1 = L.length → d.k = 33
  kind : ∀ d ∈ L, d.k = 97 ∨ d.k = 107 ∨ d.k = 48 ∨ d.k = 115 ∨ d.k = 33
  sgn : ∀ d ∈ L, d.s = [60] ∨ d.s = [123] ∨ d.s = [40] → d.k = 115
  num : ∀ d ∈ L, d.k = 48 → d.n = val d.s ∧ d.s.length ≤ 9 ∧ ∀ c ∈ d.s, isDig c = true
  word : ∀ d ∈ L, d.k ≠ 48 → d.k ≠ 33 → d.n = 0
  at_ : ∀ d ∈ L, d.at_ ≤ 100000

theorem dgood_cons {d : DP} {L : List DP} (h : DGood L) (hn : L ≠ []) (x : Nat × List UInt8) (t : DT) (p : Nat) (hl : Like x t) (e : d = dpl t p) (hp : p ≤ 100000) (hlen : L.length < 100000) : DGood (d :: L) := by
  subst e
  refine ⟨by simp; omega, ?_, ?_, ?_, ?_, ?_, ?_⟩
  · intro i d hd hi
    cases i with
    | zero => simp only [List.length_cons] at hi; exact absurd (List.length_eq_zero_iff.1 (by omega)) hn
    | succ i => exact h.last i d (by simpa using hd) (by simpa using hi)
  · intro d hd
    rcases List.mem_cons.1 hd with rfl | hd
    · exact hl.kind
    · exact h.kind d hd
  · intro d hd
    rcases List.mem_cons.1 hd with rfl | hd
    · exact hl.sgn
    · exact h.sgn d hd
  · intro d hd
    rcases List.mem_cons.1 hd with rfl | hd
    · exact hl.num
    · exact h.num d hd
  · intro d hd
    rcases List.mem_cons.1 hd with rfl | hd
    · exact hl.word
    · exact h.word d hd
  · intro d hd
    rcases List.mem_cons.1 hd with rfl | hd
    · exact hp
    · exact h.at_ d hd

theorem dgood_end (p : Nat) (hp : p ≤ 100000) : DGood [dend p] := by
  refine ⟨by simp, ?_, ?_, ?_, ?_, ?_, ?_⟩
  · intro i d hd _
    cases i with
    | zero => simp at hd; subst hd; rfl
    | succ i => simp at hd
  all_goals
    intro d hd
    simp only [List.mem_singleton] at hd
    subst hd
    simp [dend, hp]

theorem dtoks_len : ∀ (N : Nat) (t : List UInt8) (p : Nat), (dtoks N t p).length ≤ t.length + 1
  | 0, _, _ => by simp [dtoks]
  | N + 1, [], p => by simp [dtoks]
  | N + 1, c :: u, p => by
    rw [dtoks]
    split
    · have := dtoks_len N u (p + 1); simp only [List.length_cons]; omega
    · have hl := (first_like c u).pos
      have := dtoks_len N ((c :: u).drop (dfirst (c :: u)).s.length) (p + (dfirst (c :: u)).s.length)
      rw [List.length_drop] at this
      simp only [List.length_cons] at this ⊢
      omega

theorem dfirst_le (c : UInt8) (u : List UInt8) : (dfirst (c :: u)).s.length ≤ (c :: u).length := by
  have tw : ∀ (f : UInt8 → Bool) (l : List UInt8), (l.takeWhile f).length ≤ l.length := by
    intro f l
    induction l with
    | nil => simp
    | cons a l ih => rw [List.takeWhile_cons]; split <;> simp <;> omega
  unfold dfirst
  simp only
  split
  · exact tw _ _
  · split
    · exact tw _ _
    · split
      · simp
      · simp only [List.length_take]; omega

theorem dtoks_good : ∀ (N : Nat) (t : List UInt8) (p : Nat), p + t.length ≤ 10000 → DGood (dtoks N t p)
  | 0, _, p, h => by rw [dtoks]; exact dgood_end p (by omega)
  | N + 1, [], p, h => by rw [dtoks]; exact dgood_end p (by omega)
  | N + 1, c :: u, p, h => by
    rw [dtoks]
    simp only [List.length_cons] at h
    split
    · exact dtoks_good N u (p + 1) (by omega)
    · have hl := dfirst_le c u
      have hn := dtoks_len N ((c :: u).drop (dfirst (c :: u)).s.length) (p + (dfirst (c :: u)).s.length)
      rw [List.length_drop] at hn
      simp only [List.length_cons] at hl hn
      refine dgood_cons (dtoks_good N _ _ ?_) (dtoks_ne _ _ _) _ _ p (first_like c u) rfl (by omega) (by omega)
      rw [List.length_drop, List.length_cons]
      omega

/- What the grammar's reader sees, where the document's reader stands at token i. -/
theorem cut_at {L : List DP} {i : Nat} {d : DP} (h : L[i]? = some d) : cutL (L.drop i) = if d.k = 33 then [⟨if i + 1 = L.length then 0 else 1, [], d.at_⟩] else ⟨kd d.k, d.s, d.at_⟩ :: cutL (L.drop (i + 1)) := by
  obtain ⟨hi, e⟩ := List.getElem?_eq_some_iff.1 h
  rw [List.drop_eq_getElem_cons hi, e, cutL]
  have e2 : (L.drop (i + 1)).isEmpty = decide (i + 1 = L.length) := by
    rw [Bool.eq_iff_iff, List.isEmpty_iff, List.drop_eq_nil_iff, decide_eq_true_iff]
    omega
  rw [e2]
  simp

theorem kd_ge (k : Nat) : 2 ≤ kd k := by unfold kd; split; omega; split <;> omega

def stAt (L : List DP) (i : Nat) : St := ⟨cutL (L.drop i), none⟩

theorem stAt_hd {L : List DP} {i : Nat} {d : DP} (h : L[i]? = some d) : (stAt L i).hd = if d.k = 33 then ⟨if i + 1 = L.length then 0 else 1, [], d.at_⟩ else ⟨kd d.k, d.s, d.at_⟩ := by
  unfold stAt St.hd
  rw [cut_at h]
  split <;> rfl

theorem stAt_at {L : List DP} {i : Nat} {d : DP} (h : L[i]? = some d) : (stAt L i).hd.at_ = d.at_ := by
  rw [stAt_hd h]
  split <;> rfl

theorem stAt_is {L : List DP} {i : Nat} {d : DP} (h : L[i]? = some d) (x : List UInt8) (hx : x ≠ []) : (stAt L i).is x = (d.s == x && d.k != 33) := by
  have e : (stAt L i).is x = ((stAt L i).hd.s == x) := rfl
  rw [e, stAt_hd h]
  by_cases hk : d.k = 33
  · simp [hk, hx]
  · simp [hk]

theorem stAt_kind2 {L : List DP} {i : Nat} {d : DP} (h : L[i]? = some d) : (stAt L i).kind 2 = (d.k == 97) := by
  have e : (stAt L i).kind 2 = ((stAt L i).hd.k == 2) := rfl
  rw [e, stAt_hd h]
  by_cases hk : d.k = 33
  · rw [if_pos hk, hk]; split <;> rfl
  · rw [if_neg hk]
    simp only [kd]
    by_cases h1 : d.k = 97
    · simp [h1]
    · by_cases h2 : d.k = 48 <;> simp [h1, h2]

theorem stAt_kind3 {L : List DP} {i : Nat} {d : DP} (h : L[i]? = some d) : (stAt L i).kind 3 = (d.k == 48) := by
  have e : (stAt L i).kind 3 = ((stAt L i).hd.k == 3) := rfl
  rw [e, stAt_hd h]
  by_cases hk : d.k = 33
  · rw [if_pos hk, hk]; split <;> rfl
  · rw [if_neg hk]
    simp only [kd]
    by_cases h1 : d.k = 97
    · simp [h1]
    · by_cases h2 : d.k = 48 <;> simp [h1, h2]

theorem stAt_adv {L : List DP} {i : Nat} {d : DP} (h : L[i]? = some d) (hk : d.k ≠ 33) : (stAt L i).adv = stAt L (i + 1) := by
  unfold stAt St.adv
  simp only
  rw [cut_at h, if_neg hk]
  rfl

theorem stAt_tok {L : List DP} {i : Nat} {d : DP} (h : L[i]? = some d) (hk : d.k ≠ 33) : (stAt L i).hd = ⟨kd d.k, d.s, d.at_⟩ := by
  rw [stAt_hd h, if_neg hk]

theorem stAt_end {L : List DP} {i : Nat} {d : DP} (hg : DGood L) (h : L[i]? = some d) : ((stAt L i).hd.k = 0) ↔ i + 1 = L.length := by
  rw [stAt_hd h]
  by_cases hk : d.k = 33
  · rw [if_pos hk]
    simp only
    split
    · simp_all
    · simp_all
  · rw [if_neg hk]
    have := kd_ge d.k
    simp only
    constructor
    · intro h; omega
    · intro h2; exact absurd (hg.last i d h h2) hk

theorem stAt_next {L : List DP} {i : Nat} {d d' : DP} (hg : DGood L) (h : L[i]? = some d) (hk : d.k ≠ 33) (h' : L[i + 1]? = some d') : (((stAt L i).rest.tail.headD tok0).s == [60]) = (d'.k == 115 && d'.s == [60]) := by
  have e : (stAt L i).rest.tail = (stAt L (i + 1)).rest := by
    have := stAt_adv h hk
    rw [← this]; rfl
  rw [e]
  have e2 : (stAt L (i + 1)).rest.headD tok0 = (stAt L (i + 1)).hd := rfl
  rw [e2, stAt_hd h']
  by_cases hk' : d'.k = 33
  · simp [hk']
  · rw [if_neg hk']
    simp only
    have hs := hg.sgn d' (List.mem_of_getElem? h')
    by_cases h1 : d'.s = [60]
    · simp [hs (.inl h1), h1]
    · simp [h1]

theorem not_end {L : List DP} {i : Nat} {d : DP} (hg : DGood L) (h : L[i]? = some d) (hk : d.k ≠ 33) : i + 1 < L.length := by
  obtain ⟨hi, -⟩ := List.getElem?_eq_some_iff.1 h
  have : i + 1 ≠ L.length := fun e => hk (hg.last i d h e)
  omega

theorem pnames_kind (st : St) : pnames st = if st.kind 2 then (st.hd :: (pnames st.adv).1, (pnames st.adv).2) else ([], st) := by
  obtain ⟨rest, bad⟩ := st
  cases bad with
  | some p => simp [pnames, St.kind]
  | none =>
    cases rest with
    | nil => simp [pnames, St.kind, St.hd, tok0]
    | cons t r =>
      by_cases ht : t.k = 2
      · simp [pnames, St.kind, St.hd, St.adv, ht]
      · simp [pnames, St.kind, St.hd, ht]

end Go.Proofs.YtgahgkddaljmkaaGreatDoor.Th

namespace Go.Proofs.YtgahgkddaljmkaaGreatDoor
open Go.RowKit
attribute [local go_sem ↓] Go.wp_at_zero Go.wp_at_succ

theorem dfirst_sign (s : ByteArray) (p : Nat) (hp : p < s.size) (hl : Th.isLet s[p] = false) (hd : Th.isDig s[p] = false) : Th.dfirst (s.data.toList.drop p) = if Th.signLen (s.data.toList.drop p) = 0 then ⟨[s[p]], 33, 0⟩ else ⟨(s.data.toList.drop p).take (Th.signLen (s.data.toList.drop p)), 115, 0⟩ := by
  rw [drop_cons s p hp]
  simp only [Th.dfirst, hl, hd, Bool.false_eq_true, if_false]

theorem extract_toList (s : ByteArray) (p k : Nat) : (s.extract p k).data.toList = (s.data.toList.drop p).take (k - p) := by
  simp

theorem ba_of (l : List UInt8) (s : ByteArray) (h : s.data.toList = l) : s = ⟨l.toArray⟩ := by
  rw [← h, ba_eq]

set_option maxRecDepth 100000 in
set_option maxHeartbeats 4000000 in
theorem dtoken_sign (s : ByteArray) (p : Nat) (hp : p < s.size) (hm : s.size ≤ 600) (hl : Th.isLet s[p] = false) (hd : Th.isDig s[p] = false) (w : World) :
    Calls Tryz.prog 167 #[.string s, .int .i64 p] w fun e w' => e = .returned (dtV (Th.dfirst (s.data.toList.drop p)) p) ∧ Below w.heap.size w w' := by
  have hp' : (p : Int) < (s.size : Int) := by omega
  have hp0 : (0 : Int) ≤ (p : Int) := by omega
  have hz : s.data.toList.length = s.size := by rw [Array.length_toList]; rfl
  have HF := hide (dfirst_sign s p hp hl hd)
  have HLE : Hid (Th.signLen (s.data.toList.drop p) ≤ s.size - p) := hide (by
    have := Th.signLen_le s[p] (s.data.toList.drop (p + 1))
    rw [← drop_cons s p hp, List.length_drop, hz] at this
    exact this)
  have HX : Hid (∀ k, (s.extract p k).data.toList = (s.data.toList.drop p).take (k - p)) := hide (fun k => extract_toList s p k)
  have HA : Hid ((s.extract p s.size).data.toList = s.data.toList.drop p) := hide (by rw [extract_toList, List.take_of_length_le (by rw [List.length_drop, hz]; omega)])
  have HL := hide hl
  have HD := hide hd
  clear hl hd hz
  go_enter Tryz.func167, Tryz.ntmps167
  go_wp2_with fail
  refine (letter_any _ _).mono ?_
  rintro e w1 ⟨rfl, rfl⟩
  rw [kLet_eq, unhide HL]
  go_wp2_with fail
  refine (digit_any _ _).mono ?_
  rintro e w1 ⟨rfl, rfl⟩
  rw [kDig_eq, unhide HD]
  go_wp2_with fail
  have hes : 0 < (s.extract p s.size).size ∧ (s.extract p s.size).size ≤ 1000 := by
    rw [ByteArray.size_extract]; omega
  refine (sign_any _ hes.1 hes.2 _).mono ?_
  rintro e w1 ⟨rfl, hb⟩
  rw [unhide HA]
  have B0 := ((Blk.new w [.string ⟨#[]⟩, .int .i64 0, .int .u8 0, .int .i64 0] 108).alloc (.cells #[.string ⟨#[]⟩, .int .i64 p, .int .u8 0, .int .i64 0] 108)).below hb (by simp; omega)
  have B1 := (Blk.new (w.alloc (.cells #[.string ⟨#[]⟩, .int .i64 0, .int .u8 0, .int .i64 0] 108)) [.string ⟨#[]⟩, .int .i64 p, .int .u8 0, .int .i64 0] 108).below hb (by simp)
  have c0 := B1.cell 0
  have c1 := B1.cell 1
  have c2 := B1.cell 2
  have c3 := B1.cell 3
  have f0 := B1.frozen 0
  have f2 := B1.frozen 2
  have a0 := B0.cell 0
  have a1 := B0.cell 1
  have a2 := B0.cell 2
  have a3 := B0.cell 3
  have g0 := B0.frozen 0
  have g1 := B0.frozen 1
  have g2 := B0.frozen 2
  have g3 := B0.frozen 3
  have hbl := B1.lt
  simp at c0 c1 c2 c3 f0 f2 hbl a0 a1 a2 a3
  have HB0 := hide B0
  have HG : Hid (w.grownBy w1 none) := hide (gb_trans (gb_trans (gb_alloc _ _ _) (gb_alloc _ _ _)) (gb_below none hb))
  clear hb B0 B1
  obtain ⟨n, hn⟩ : ∃ n, Th.signLen (s.data.toList.drop p) = n := ⟨_, rfl⟩
  rw [hn] at HF HLE ⊢
  clear hn hes
  by_cases h0 : n = 0
  · subst h0
    have FIN := hide (((((((unhide HB0).other ⟨w.heap.size + 1, 2, none⟩ (.int .u8 115) (by simp)).other ⟨w.heap.size + 1, 2, none⟩ (.int .u8 33) (by simp)).other ⟨w.heap.size + 1, 0, none⟩ (.string (s.extract p (p + 1))) (by simp)).set 0 (.string (s.extract p (p + 1)))).set 1 (.int .i64 p)).set 2 (.int .u8 33)).set 3 (.int .i64 0)
    have e : Hid (dtV (Th.dfirst (s.data.toList.drop p)) p = .agg #[.string (s.extract p (p + 1)), .int .i64 p, .int .u8 33, .int .i64 0]) := hide (by
      rw [unhide HF, if_pos rfl, ba_of _ _ (unhide HX (p + 1)), Nat.add_sub_cancel_left, drop_cons s p hp]
      rfl)
    have FG := hide (gb_set_new (gb_set_new (gb_set_new (gb_set_new (gb_set_new (gb_set_new (gb_set_new (unhide HG) ⟨w.heap.size + 1, 2, none⟩ (.int .u8 115) (by simp)) ⟨w.heap.size + 1, 2, none⟩ (.int .u8 33) (by simp)) ⟨w.heap.size + 1, 0, none⟩ (.string (s.extract p (p + 1))) (by simp)) ⟨w.heap.size, 0, none⟩ (.string (s.extract p (p + 1))) (by simp)) ⟨w.heap.size, 1, none⟩ (.int .i64 p) (by simp)) ⟨w.heap.size, 2, none⟩ (.int .u8 33) (by simp)) ⟨w.heap.size, 3, none⟩ (.int .i64 0) (by simp))
    go_wp2_with fail
    have p0 := Blk.cell (unhide FIN) 0
    have p1 := Blk.cell (unhide FIN) 1
    have p2 := Blk.cell (unhide FIN) 2
    have p3 := Blk.cell (unhide FIN) 3
    simp at p0 p1 p2 p3
    refine bodyPost_ret (by simp [results, Tryz.results167, go_sem, p0, p1, p2, p3]) rfl ⟨congrArg Ending.returned (unhide e).symm, below_gb (unhide FG)⟩
  · have hn0 : ((n : Int) == 0) = false := by simp; omega
    have hle := unhide HLE
    have h1 : (0 : Int) ≤ (p : Int) + (n : Int) := by omega
    have h2 : (p : Int) + (n : Int) ≤ (s.size : Int) := by omega
    have FIN := hide ((((((unhide HB0).other ⟨w.heap.size + 1, 2, none⟩ (.int .u8 115) (by simp)).other ⟨w.heap.size + 1, 0, none⟩ (.string (s.extract p (p + n))) (by simp)).set 0 (.string (s.extract p (p + n)))).set 1 (.int .i64 p)).set 2 (.int .u8 115)).set 3 (.int .i64 0)
    have e : Hid (dtV (Th.dfirst (s.data.toList.drop p)) p = .agg #[.string (s.extract p (p + n)), .int .i64 p, .int .u8 115, .int .i64 0]) := hide (by
      rw [unhide HF, if_neg h0, ba_of _ _ (unhide HX (p + n)), Nat.add_sub_cancel_left]
      rfl)
    have FG := hide (gb_set_new (gb_set_new (gb_set_new (gb_set_new (gb_set_new (gb_set_new (unhide HG) ⟨w.heap.size + 1, 2, none⟩ (.int .u8 115) (by simp)) ⟨w.heap.size + 1, 0, none⟩ (.string (s.extract p (p + n))) (by simp)) ⟨w.heap.size, 0, none⟩ (.string (s.extract p (p + n))) (by simp)) ⟨w.heap.size, 1, none⟩ (.int .i64 p) (by simp)) ⟨w.heap.size, 2, none⟩ (.int .u8 115) (by simp)) ⟨w.heap.size, 3, none⟩ (.int .i64 0) (by simp))
    go_wp2_with fail
    have p0 := Blk.cell (unhide FIN) 0
    have p1 := Blk.cell (unhide FIN) 1
    have p2 := Blk.cell (unhide FIN) 2
    have p3 := Blk.cell (unhide FIN) 3
    simp at p0 p1 p2 p3
    refine bodyPost_ret (by simp [results, Tryz.results167, go_sem, p0, p1, p2, p3]) rfl ⟨congrArg Ending.returned (unhide e).symm, below_gb (unhide FG)⟩

end Go.Proofs.YtgahgkddaljmkaaGreatDoor
