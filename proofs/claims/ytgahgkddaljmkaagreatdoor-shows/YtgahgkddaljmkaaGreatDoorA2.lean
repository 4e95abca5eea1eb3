/- What the small tests of package scan answer. What span counts: the bytes at the head of a text that all fit. What the makers of one token answer. What the first token of a text is. -/
import Derived.Test.YtgahgkddaljmkaaGreatDoorA1
import Derived.Lib.RuneCount
import Derived.Laws.RangeString
import Derived.Laws.RangeAny
import Derived.Test.YtgahgkddaljmkaaGreatDoorShelf
namespace Go.Proofs.YtgahgkddaljmkaaGreatDoor
open Go.RowKit

def runeBl (r : Int) : Bool := r == 32 || r == 10
def runeLet (r : Int) : Bool := decide (97 ≤ r) && decide (r ≤ 122)
def runeDig (r : Int) : Bool := decide (48 ≤ r) && decide (r ≤ 57)
def runeWc (r : Int) : Bool := runeLet r || runeDig r

set_option maxHeartbeats 400000 in
theorem isBlank_any (r : Int) (w : World) :
    Calls Tryz.prog 189 #[.int .i32 r] w fun e w' => e = .returned (.bool (runeBl r)) ∧ w' = w := by
  by_cases h : (r == 32) = true
  · go_enter Tryz.func189, Tryz.ntmps189
    go_wp2
    go_ret
    exact ⟨by simp [runeBl, h], rfl⟩
  · have h : (r == 32) = false := by simpa using h
    go_enter Tryz.func189, Tryz.ntmps189
    go_wp2
    go_ret
    exact ⟨by simp [runeBl, h], rfl⟩

set_option maxHeartbeats 400000 in
theorem isLetter_any (r : Int) (w : World) :
    Calls Tryz.prog 242 #[.int .i32 r] w fun e w' => e = .returned (.bool (runeLet r)) ∧ w' = w := by
  by_cases h : 97 ≤ r
  · go_enter Tryz.func242, Tryz.ntmps242
    go_wp2
    go_ret
    exact ⟨by simp [runeLet, h], rfl⟩
  · have hd : decide (97 ≤ r) = false := by simpa using h
    go_enter Tryz.func242, Tryz.ntmps242
    go_wp2
    go_ret
    exact ⟨by simp [runeLet, hd], rfl⟩

set_option maxHeartbeats 400000 in
theorem isDigit_any (r : Int) (w : World) :
    Calls Tryz.prog 245 #[.int .i32 r] w fun e w' => e = .returned (.bool (runeDig r)) ∧ w' = w := by
  by_cases h : 48 ≤ r
  · go_enter Tryz.func245, Tryz.ntmps245
    go_wp2
    go_ret
    exact ⟨by simp [runeDig, h], rfl⟩
  · have hd : decide (48 ≤ r) = false := by simpa using h
    go_enter Tryz.func245, Tryz.ntmps245
    go_wp2
    go_ret
    exact ⟨by simp [runeDig, hd], rfl⟩

end Go.Proofs.YtgahgkddaljmkaaGreatDoor

namespace Go.Proofs.YtgahgkddaljmkaaGreatDoor
open Go.RowKit

set_option maxHeartbeats 400000 in
theorem isWc_any (r : Int) (w : World) :
    Calls Tryz.prog 244 #[.int .i32 r] w fun e w' => e = .returned (.bool (runeWc r)) ∧ w' = w := by
  cases h : runeLet r
  · go_enter Tryz.func244, Tryz.ntmps244
    go_wp2_with fail
    refine (isLetter_any r _).mono ?_
    rintro e w' ⟨rfl, rfl⟩
    rw [h]
    go_wp2_with fail
    refine (isDigit_any r _).mono ?_
    rintro e w' ⟨rfl, rfl⟩
    go_wp2_with fail
    go_ret
    exact ⟨by simp [runeWc, h], rfl⟩
  · go_enter Tryz.func244, Tryz.ntmps244
    go_wp2_with fail
    refine (isLetter_any r _).mono ?_
    rintro e w' ⟨rfl, rfl⟩
    rw [h]
    go_wp2_with fail
    go_ret
    exact ⟨by simp [runeWc, h], rfl⟩

theorem tw_len {q : UInt8 → Bool} : ∀ (l : List UInt8) (k : Nat), k ≤ l.length → (∀ j (h : j < l.length), j < k → q l[j] = true) →
    (∀ (h : k < l.length), q l[k] = false) → (l.takeWhile q).length = k
  | [], k, hk, _, _ => by simp at hk; simp [hk]
  | c :: l, 0, _, _, h2 => by
    have := h2 (by simp)
    simp at this
    simp [this]
  | c :: l, k + 1, hk, h1, h2 => by
    have a := h1 0 (by simp) (by omega)
    simp at a
    have ih := tw_len l k (by simpa using hk) (fun j h hj => by have := h1 (j + 1) (by simpa using h) (by omega); simpa using this)
      (fun h => by have := h2 (by simpa using h); simpa using this)
    simp [a, ih]

theorem bl_low (c : UInt8) (_h : c.toNat < 128) : Th.isBl c = runeBl c.toNat := by
  unfold Th.isBl runeBl
  rw [Bool.eq_iff_iff]
  simp [← UInt8.toNat_inj]
  omega
theorem bl_high (c : UInt8) (h : 128 ≤ c.toNat) : Th.isBl c = false := by
  unfold Th.isBl
  simp [← UInt8.toNat_inj]
  omega
theorem bl_rune (r : Int) (h : 128 ≤ r) : runeBl r = false := by
  unfold runeBl
  simp
  omega
theorem dig_low (c : UInt8) (_h : c.toNat < 128) : Th.isDig c = runeDig c.toNat := by
  unfold Th.isDig runeDig
  rw [Bool.eq_iff_iff]
  simp
  omega
theorem dig_high (c : UInt8) (h : 128 ≤ c.toNat) : Th.isDig c = false := by
  unfold Th.isDig
  simp
  omega
theorem dig_rune (r : Int) (h : 128 ≤ r) : runeDig r = false := by
  unfold runeDig
  simp
  omega
theorem let_low (c : UInt8) (_h : c.toNat < 128) : Th.isLet c = runeLet c.toNat := by
  unfold Th.isLet runeLet
  rw [Bool.eq_iff_iff]
  simp
  omega
theorem wc_low (c : UInt8) (h : c.toNat < 128) : Th.isWc c = runeWc c.toNat := by
  unfold Th.isWc runeWc
  rw [dig_low c h, let_low c h]
theorem wc_high (c : UInt8) (h : 128 ≤ c.toNat) : Th.isWc c = false := by
  unfold Th.isWc Th.isLet Th.isDig
  simp
  omega
theorem wc_rune (r : Int) (h : 128 ≤ r) : runeWc r = false := by
  unfold runeWc runeLet runeDig
  simp
  omega

set_option maxRecDepth 100000 in
set_option maxHeartbeats 1000000 in
theorem span_bl (s : ByteArray) (w : World) (_hs : s.size < 9223372036854775807) :
    Calls Tryz.prog 188 #[.string s, .func (.func 189) #[] #[]] w fun e w' => e = .returned (.int .i64 (s.data.toList.takeWhile Th.isBl).length) ∧ ∃ pos, w' = w.alloc (.stringIter s pos) := by
  go_enter Tryz.func188, Tryz.ntmps188
  go_wp2_with fail
  go_loopw [5] (fun _ w' => ∃ pos : Nat, w' = w.iter s pos ∧ pos ≤ s.size ∧ Hid (∀ j (h : j < s.size), j < pos → Th.isBl s[j] = true)) (fun _ w' => s.size - w'.iterPos w.heap.size)
  case atStart => exact ⟨0, rfl, Nat.zero_le _, hide (fun _ _ h => by omega)⟩
  case round =>
    obtain ⟨pos, rfl, hp, hall⟩ := hrel
    by_cases hlt : pos < s.size
    · by_cases hb : (s[pos]'hlt).toNat < 128
      · have hnx : ∀ ty, (Instr.next (.pointer (some ⟨w.heap.size, 0, none⟩)) true ty).run Tryz.prog (w.iter s pos) = _ := fun ty => run_next_ascii w s pos ty hlt hb
        have hqp := hide (bl_low (s[pos]'hlt) hb)
        clear hb
        cases hv : Th.isBl s[pos]
        · have hv' := hide hv; clear hv
          go_wp2_with fail
          refine (isBlank_any _ _).mono ?_
          rintro e w' ⟨rfl, rfl⟩
          rw [← unhide hqp, unhide hv']
          go_wp2_with fail
          go_ret
          refine ⟨?_, _, rfl⟩
          rw [tw_len s.data.toList pos (by simp; omega) (fun j h hj => unhide hall j (by simpa using h) hj) (fun h => unhide hv')]
          rfl
        · have hv' := hide hv; clear hv
          go_wp2_with fail
          refine (isBlank_any _ _).mono ?_
          rintro e w' ⟨rfl, rfl⟩
          rw [← unhide hqp, unhide hv']
          go_wp2_with fail
          go_roundw
          case rel =>
            refine ⟨pos + 1, rfl, by omega, hide fun j h hj => ?_⟩
            by_cases e : j = pos
            · subst e; exact unhide hv'
            · exact unhide hall j h (by omega)
          case measure =>
            simp
            omega
      · have hnx : ∀ ty, (Instr.next (.pointer (some ⟨w.heap.size, 0, none⟩)) true ty).run Tryz.prog (w.iter s pos) = _ := fun ty => run_next_any w s pos ty hlt
        have hv' := hide (bl_high _ (by omega : 128 ≤ (s[pos]'hlt).toNat))
        have hd := (decode_high s pos hlt (by omega)).1
        have hvp := hide (bl_rune ((Utf8.decode s pos).1 : Int) (by omega))
        clear hb hd
        go_wp2_with fail
        refine (isBlank_any _ _).mono ?_
        rintro e w' ⟨rfl, rfl⟩
        rw [unhide hvp]
        go_wp2_with fail
        go_ret
        refine ⟨?_, _, rfl⟩
        rw [tw_len s.data.toList pos (by simp; omega) (fun j h hj => unhide hall j (by simpa using h) hj) (fun h => unhide hv')]
        rfl
    · have hnx : ∀ ty, (Instr.next (.pointer (some ⟨w.heap.size, 0, none⟩)) true ty).run Tryz.prog (w.iter s pos) = _ := fun ty => run_next_end w s pos ty hlt
      go_wp2_with fail
      go_ret
      refine ⟨?_, _, rfl⟩
      rw [tw_len s.data.toList s.size (by simp) (fun j h hj => unhide hall j (by simpa using h) (by omega)) (fun h => by simp at h)]
      rfl

set_option maxRecDepth 100000 in
set_option maxHeartbeats 1000000 in
theorem span_wc (s : ByteArray) (w : World) (_hs : s.size < 9223372036854775807) :
    Calls Tryz.prog 188 #[.string s, .func (.func 244) #[] #[]] w fun e w' => e = .returned (.int .i64 (s.data.toList.takeWhile Th.isWc).length) ∧ ∃ pos, w' = w.alloc (.stringIter s pos) := by
  go_enter Tryz.func188, Tryz.ntmps188
  go_wp2_with fail
  go_loopw [5] (fun _ w' => ∃ pos : Nat, w' = w.iter s pos ∧ pos ≤ s.size ∧ Hid (∀ j (h : j < s.size), j < pos → Th.isWc s[j] = true)) (fun _ w' => s.size - w'.iterPos w.heap.size)
  case atStart => exact ⟨0, rfl, Nat.zero_le _, hide (fun _ _ h => by omega)⟩
  case round =>
    obtain ⟨pos, rfl, hp, hall⟩ := hrel
    by_cases hlt : pos < s.size
    · by_cases hb : (s[pos]'hlt).toNat < 128
      · have hnx : ∀ ty, (Instr.next (.pointer (some ⟨w.heap.size, 0, none⟩)) true ty).run Tryz.prog (w.iter s pos) = _ := fun ty => run_next_ascii w s pos ty hlt hb
        have hqp := hide (wc_low (s[pos]'hlt) hb)
        clear hb
        cases hv : Th.isWc s[pos]
        · have hv' := hide hv; clear hv
          go_wp2_with fail
          refine (isWc_any _ _).mono ?_
          rintro e w' ⟨rfl, rfl⟩
          rw [← unhide hqp, unhide hv']
          go_wp2_with fail
          go_ret
          refine ⟨?_, _, rfl⟩
          rw [tw_len s.data.toList pos (by simp; omega) (fun j h hj => unhide hall j (by simpa using h) hj) (fun h => unhide hv')]
          rfl
        · have hv' := hide hv; clear hv
          go_wp2_with fail
          refine (isWc_any _ _).mono ?_
          rintro e w' ⟨rfl, rfl⟩
          rw [← unhide hqp, unhide hv']
          go_wp2_with fail
          go_roundw
          case rel =>
            refine ⟨pos + 1, rfl, by omega, hide fun j h hj => ?_⟩
            by_cases e : j = pos
            · subst e; exact unhide hv'
            · exact unhide hall j h (by omega)
          case measure =>
            simp
            omega
      · have hnx : ∀ ty, (Instr.next (.pointer (some ⟨w.heap.size, 0, none⟩)) true ty).run Tryz.prog (w.iter s pos) = _ := fun ty => run_next_any w s pos ty hlt
        have hv' := hide (wc_high _ (by omega : 128 ≤ (s[pos]'hlt).toNat))
        have hd := (decode_high s pos hlt (by omega)).1
        have hvp := hide (wc_rune ((Utf8.decode s pos).1 : Int) (by omega))
        clear hb hd
        go_wp2_with fail
        refine (isWc_any _ _).mono ?_
        rintro e w' ⟨rfl, rfl⟩
        rw [unhide hvp]
        go_wp2_with fail
        go_ret
        refine ⟨?_, _, rfl⟩
        rw [tw_len s.data.toList pos (by simp; omega) (fun j h hj => unhide hall j (by simpa using h) hj) (fun h => unhide hv')]
        rfl
    · have hnx : ∀ ty, (Instr.next (.pointer (some ⟨w.heap.size, 0, none⟩)) true ty).run Tryz.prog (w.iter s pos) = _ := fun ty => run_next_end w s pos ty hlt
      go_wp2_with fail
      go_ret
      refine ⟨?_, _, rfl⟩
      rw [tw_len s.data.toList s.size (by simp) (fun j h hj => unhide hall j (by simpa using h) (by omega)) (fun h => by simp at h)]
      rfl

set_option maxRecDepth 100000 in
set_option maxHeartbeats 1000000 in
theorem span_dig (s : ByteArray) (w : World) (_hs : s.size < 9223372036854775807) :
    Calls Tryz.prog 188 #[.string s, .func (.func 245) #[] #[]] w fun e w' => e = .returned (.int .i64 (s.data.toList.takeWhile Th.isDig).length) ∧ ∃ pos, w' = w.alloc (.stringIter s pos) := by
  go_enter Tryz.func188, Tryz.ntmps188
  go_wp2_with fail
  go_loopw [5] (fun _ w' => ∃ pos : Nat, w' = w.iter s pos ∧ pos ≤ s.size ∧ Hid (∀ j (h : j < s.size), j < pos → Th.isDig s[j] = true)) (fun _ w' => s.size - w'.iterPos w.heap.size)
  case atStart => exact ⟨0, rfl, Nat.zero_le _, hide (fun _ _ h => by omega)⟩
  case round =>
    obtain ⟨pos, rfl, hp, hall⟩ := hrel
    by_cases hlt : pos < s.size
    · by_cases hb : (s[pos]'hlt).toNat < 128
      · have hnx : ∀ ty, (Instr.next (.pointer (some ⟨w.heap.size, 0, none⟩)) true ty).run Tryz.prog (w.iter s pos) = _ := fun ty => run_next_ascii w s pos ty hlt hb
        have hqp := hide (dig_low (s[pos]'hlt) hb)
        clear hb
        cases hv : Th.isDig s[pos]
        · have hv' := hide hv; clear hv
          go_wp2_with fail
          refine (isDigit_any _ _).mono ?_
          rintro e w' ⟨rfl, rfl⟩
          rw [← unhide hqp, unhide hv']
          go_wp2_with fail
          go_ret
          refine ⟨?_, _, rfl⟩
          rw [tw_len s.data.toList pos (by simp; omega) (fun j h hj => unhide hall j (by simpa using h) hj) (fun h => unhide hv')]
          rfl
        · have hv' := hide hv; clear hv
          go_wp2_with fail
          refine (isDigit_any _ _).mono ?_
          rintro e w' ⟨rfl, rfl⟩
          rw [← unhide hqp, unhide hv']
          go_wp2_with fail
          go_roundw
          case rel =>
            refine ⟨pos + 1, rfl, by omega, hide fun j h hj => ?_⟩
            by_cases e : j = pos
            · subst e; exact unhide hv'
            · exact unhide hall j h (by omega)
          case measure =>
            simp
            omega
      · have hnx : ∀ ty, (Instr.next (.pointer (some ⟨w.heap.size, 0, none⟩)) true ty).run Tryz.prog (w.iter s pos) = _ := fun ty => run_next_any w s pos ty hlt
        have hv' := hide (dig_high _ (by omega : 128 ≤ (s[pos]'hlt).toNat))
        have hd := (decode_high s pos hlt (by omega)).1
        have hvp := hide (dig_rune ((Utf8.decode s pos).1 : Int) (by omega))
        clear hb hd
        go_wp2_with fail
        refine (isDigit_any _ _).mono ?_
        rintro e w' ⟨rfl, rfl⟩
        rw [unhide hvp]
        go_wp2_with fail
        go_ret
        refine ⟨?_, _, rfl⟩
        rw [tw_len s.data.toList pos (by simp; omega) (fun j h hj => unhide hall j (by simpa using h) hj) (fun h => unhide hv')]
        rfl
    · have hnx : ∀ ty, (Instr.next (.pointer (some ⟨w.heap.size, 0, none⟩)) true ty).run Tryz.prog (w.iter s pos) = _ := fun ty => run_next_end w s pos ty hlt
      go_wp2_with fail
      go_ret
      refine ⟨?_, _, rfl⟩
      rw [tw_len s.data.toList s.size (by simp) (fun j h hj => unhide hall j (by simpa using h) (by omega)) (fun h => by simp at h)]
      rfl

end Go.Proofs.YtgahgkddaljmkaaGreatDoor

namespace Go.Proofs.YtgahgkddaljmkaaGreatDoor
open Go.RowKit

/-- A token's value in package scan. -/
abbrev tokV (k : Nat) (s : List UInt8) (p : Int) : Value := .agg #[.int .i64 k, .string ⟨s.toArray⟩, .int .i64 p]

theorem sz (s : ByteArray) : s.data.toList.length = s.size := by simp

theorem ba_eq (s : ByteArray) : (⟨s.data.toList.toArray⟩ : ByteArray) = s := by cases s; simp

set_option maxHeartbeats 400000 in
theorem number_any (s : ByteArray) (w : World) (_hs : s.size < 9223372036854775807) :
    Calls Tryz.prog 246 #[.string s] w fun e w' => e = .returned (tokV (Th.numb s.data.toList).1 (Th.numb s.data.toList).2 0) ∧ Below w.heap.size w w' := by
  by_cases h : 9 < s.size
  · have e : Th.numb s.data.toList = (1, []) := by simp [Th.numb, h]
    rw [e]; clear e
    go_enter Tryz.func246, Tryz.ntmps246
    go_wp2_with fail
    go_returns
    exact ⟨rfl, below_alloc _ _⟩
  · have e : Th.numb s.data.toList = (3, s.data.toList) := by simp [Th.numb, h]
    rw [e]; clear e
    go_enter Tryz.func246, Tryz.ntmps246
    go_wp2_with fail
    go_returns
    exact ⟨by rw [tokV, ba_eq]; rfl, below_alloc _ _⟩

set_option maxHeartbeats 1000000 in
theorem word_any (s : ByteArray) (w : World) :
    Calls Tryz.prog 243 #[.string s] w fun e w' => e = .returned (tokV (Th.word s.data.toList).1 (Th.word s.data.toList).2 0) ∧ Below w.heap.size w w' := by
  cases h0 : s.toList == [108, 101, 116]
  case true =>
    have e : Th.word s.data.toList = (4, s.data.toList) := by
      rw [← ByteArray.toList_eq]; simp only [Th.word, Th.isKw, Th.sLet, Th.sRec, Th.sIn, Th.sCase, Th.sOf, h0, Bool.true_or, if_true]
    rw [e]; clear e
    go_enter Tryz.func243, Tryz.ntmps243
    go_wp2_with fail
    go_returns
    exact ⟨by rw [tokV, ba_eq]; rfl, below_alloc _ _⟩
  cases h1 : s.toList == [114, 101, 99]
  case true =>
    have e : Th.word s.data.toList = (4, s.data.toList) := by
      rw [← ByteArray.toList_eq]; simp only [Th.word, Th.isKw, Th.sLet, Th.sRec, Th.sIn, Th.sCase, Th.sOf, h0, h1, Bool.or_true, Bool.true_or, if_true]
    rw [e]; clear e
    go_enter Tryz.func243, Tryz.ntmps243
    go_wp2_with fail
    go_returns
    exact ⟨by rw [tokV, ba_eq]; rfl, below_alloc _ _⟩
  cases h2 : s.toList == [105, 110]
  case true =>
    have e : Th.word s.data.toList = (4, s.data.toList) := by
      rw [← ByteArray.toList_eq]; simp only [Th.word, Th.isKw, Th.sLet, Th.sRec, Th.sIn, Th.sCase, Th.sOf, h0, h1, h2, Bool.or_true, Bool.true_or, Bool.or_false, if_true]
    rw [e]; clear e
    go_enter Tryz.func243, Tryz.ntmps243
    go_wp2_with fail
    go_returns
    exact ⟨by rw [tokV, ba_eq]; rfl, below_alloc _ _⟩
  cases h3 : s.toList == [99, 97, 115, 101]
  case true =>
    have e : Th.word s.data.toList = (4, s.data.toList) := by
      rw [← ByteArray.toList_eq]; simp only [Th.word, Th.isKw, Th.sLet, Th.sRec, Th.sIn, Th.sCase, Th.sOf, h0, h1, h2, h3, Bool.or_true, Bool.true_or, Bool.or_false, if_true]
    rw [e]; clear e
    go_enter Tryz.func243, Tryz.ntmps243
    go_wp2_with fail
    go_returns
    exact ⟨by rw [tokV, ba_eq]; rfl, below_alloc _ _⟩
  cases h4 : s.toList == [111, 102]
  case true =>
    have e : Th.word s.data.toList = (4, s.data.toList) := by
      rw [← ByteArray.toList_eq]; simp only [Th.word, Th.isKw, Th.sLet, Th.sRec, Th.sIn, Th.sCase, Th.sOf, h0, h1, h2, h3, h4, Bool.or_true, Bool.or_false, if_true]
    rw [e]; clear e
    go_enter Tryz.func243, Tryz.ntmps243
    go_wp2_with fail
    go_returns
    exact ⟨by rw [tokV, ba_eq]; rfl, below_alloc _ _⟩
  have e : Th.word s.data.toList = (2, s.data.toList) := by
    rw [← ByteArray.toList_eq]; simp only [Th.word, Th.isKw, Th.sLet, Th.sRec, Th.sIn, Th.sCase, Th.sOf, h0, h1, h2, h3, h4, Bool.or_false]; rfl
  rw [e]; clear e
  go_enter Tryz.func243, Tryz.ntmps243
  go_wp2_with fail
  go_returns
  exact ⟨by rw [tokV, ba_eq]; rfl, below_alloc _ _⟩

theorem pre2 (s : List UInt8) (a b : UInt8) : Lib.hasPrefix s [a, b] = (s.take 2 == [a, b]) := by
  cases s with
  | nil => rfl
  | cons c s => cases s with
    | nil => simp [Lib.hasPrefix, List.isPrefixOf]
    | cons d s => 
      rw [Bool.eq_iff_iff]
      simp [Lib.hasPrefix, List.isPrefixOf]
      constructor
      · rintro ⟨rfl, rfl⟩; exact ⟨rfl, rfl⟩
      · rintro ⟨rfl, rfl⟩; exact ⟨rfl, rfl⟩

theorem idxByte_iff (l : List UInt8) (c : UInt8) : 0 ≤ Lib.indexByte l c ↔ c ∈ l := by
  induction l with
  | nil => simp [Lib.indexByte]
  | cons b l ih =>
    have hg := Lib.indexByte_ge l c
    simp only [Lib.indexByte]
    by_cases h : b = c
    · simp [h]
    · have h' : ¬ c = b := fun e => h e.symm
      simp only [beq_iff_eq, h, if_false, List.mem_cons, h', false_or, ← ih]
      split <;> omega

theorem signLen_two {l : List UInt8} (h : (l.take 2 == [45, 62] || l.take 2 == [61, 61]) = true) : Th.signLen l = 2 := by
  simp only [Th.signLen, h, if_true]
theorem signLen_one {l : List UInt8} {c : UInt8} {r : List UInt8} (e : l = c :: r) (h : (l.take 2 == [45, 62] || l.take 2 == [61, 61]) = false) (h1 : 0 ≤ Lib.indexByte Th.signs c) : Th.signLen l = 1 := by
  subst e
  have hc : Th.signs.contains c = true := by simpa using (idxByte_iff _ _).1 h1
  simp only [Th.signLen, h, Bool.false_eq_true, if_false, hc, if_true]
theorem signLen_no {l : List UInt8} {c : UInt8} {r : List UInt8} (e : l = c :: r) (h : (l.take 2 == [45, 62] || l.take 2 == [61, 61]) = false) (h1 : ¬ 0 ≤ Lib.indexByte Th.signs c) : Th.signLen l = 0 := by
  subst e
  have hc : Th.signs.contains c = false := by rw [← Bool.not_eq_true]; intro hc; exact h1 ((idxByte_iff _ _).2 (by simpa using hc))
  simp only [Th.signLen, h, Bool.false_eq_true, if_false, hc]

theorem ba_cons (s : ByteArray) (h : 0 < s.size) : ∃ r, s.data.toList = s[0] :: r := by
  cases s with
  | mk d => cases d with
    | mk l => cases l with
      | nil => exact absurd h (by decide)
      | cons c r => exact ⟨r, rfl⟩

set_option maxHeartbeats 1000000 in
theorem signLength_any (s : ByteArray) (w : World) (h0 : 0 < s.size) :
    Calls Tryz.prog 247 #[.string s] w fun e w' => e = .returned (.int .i64 (Th.signLen s.data.toList)) ∧ w' = w := by
  obtain ⟨r, hr⟩ := ba_cons s h0
  have Hr := hide hr; clear hr
  cases h1 : s.data.toList.take 2 == [45, 62]
  · have H1 := hide h1; clear h1
    cases h2 : s.data.toList.take 2 == [61, 61]
    · have H2 := hide h2; clear h2
      have H0 := hide (show (s.data.toList.take 2 == [45, 62] || s.data.toList.take 2 == [61, 61]) = false by rw [unhide H1, unhide H2]; rfl)
      go_enter Tryz.func247, Tryz.ntmps247
      go_wp2_with fail
      refine (Tryz.strings_HasPrefix _ _ _).mono ?_
      rintro e w' ⟨rfl, rfl⟩
      rw [show Lib.hasPrefix s.data.toList (ByteArray.mk #[45, 62]).data.toList = false from (pre2 _ _ _).trans (unhide H1)]
      go_wp2_with fail
      refine (Tryz.strings_HasPrefix _ _ _).mono ?_
      rintro e w' ⟨rfl, rfl⟩
      rw [show Lib.hasPrefix s.data.toList (ByteArray.mk #[61, 61]).data.toList = false from (pre2 _ _ _).trans (unhide H2)]
      go_wp2_with fail
      refine (Tryz.strings_IndexByte _ _ _).mono ?_
      rintro e w' ⟨rfl, rfl⟩
      go_wp2_with fail
      · have hw : 0 ≤ Lib.indexByte [61, 59, 40, 41, 123, 125, 44, 60, 62, 46, 92, 43, 45, 42, 47] s[0] := by assumption
        go_ret
        exact ⟨by rw [signLen_one (unhide Hr) (unhide H0) hw]; rfl, rfl⟩
      · have hw : Lib.indexByte [61, 59, 40, 41, 123, 125, 44, 60, 62, 46, 92, 43, 45, 42, 47] s[0] < 0 := by assumption
        go_ret
        exact ⟨by rw [signLen_no (unhide Hr) (unhide H0) (by show ¬ 0 ≤ Lib.indexByte [61, 59, 40, 41, 123, 125, 44, 60, 62, 46, 92, 43, 45, 42, 47] s[0]; omega)]; rfl, rfl⟩
    · have H2 := hide h2; clear h2
      have H0 := hide (show (s.data.toList.take 2 == [45, 62] || s.data.toList.take 2 == [61, 61]) = true by rw [unhide H1, unhide H2]; rfl)
      go_enter Tryz.func247, Tryz.ntmps247
      go_wp2_with fail
      refine (Tryz.strings_HasPrefix _ _ _).mono ?_
      rintro e w' ⟨rfl, rfl⟩
      rw [show Lib.hasPrefix s.data.toList (ByteArray.mk #[45, 62]).data.toList = false from (pre2 _ _ _).trans (unhide H1)]
      go_wp2_with fail
      refine (Tryz.strings_HasPrefix _ _ _).mono ?_
      rintro e w' ⟨rfl, rfl⟩
      rw [show Lib.hasPrefix s.data.toList (ByteArray.mk #[61, 61]).data.toList = true from (pre2 _ _ _).trans (unhide H2)]
      go_wp2_with fail
      go_ret
      exact ⟨by rw [signLen_two (unhide H0)]; rfl, rfl⟩
  · have H1 := hide h1; clear h1
    have H0 := hide (show (s.data.toList.take 2 == [45, 62] || s.data.toList.take 2 == [61, 61]) = true by rw [unhide H1]; rfl)
    go_enter Tryz.func247, Tryz.ntmps247
    go_wp2_with fail
    refine (Tryz.strings_HasPrefix _ _ _).mono ?_
    rintro e w' ⟨rfl, rfl⟩
    rw [show Lib.hasPrefix s.data.toList (ByteArray.mk #[45, 62]).data.toList = true from (pre2 _ _ _).trans (unhide H1)]
    go_wp2_with fail
    go_ret
    exact ⟨by rw [signLen_two (unhide H0)]; rfl, rfl⟩

end Go.Proofs.YtgahgkddaljmkaaGreatDoor

namespace Go.Proofs.YtgahgkddaljmkaaGreatDoor
open Go.RowKit

theorem let_eq (c : UInt8) : Th.isLet c = runeLet c.toNat := by
  unfold Th.isLet runeLet
  rw [Bool.eq_iff_iff]
  simp
  omega

theorem take_tw (q : UInt8 → Bool) (l : List UInt8) : l.take (l.takeWhile q).length = l.takeWhile q := by
  induction l with
  | nil => rfl
  | cons c l ih => by_cases h : q c <;> simp [h, ih]

theorem ext_tw (q : UInt8 → Bool) (s : ByteArray) : (s.extract 0 (s.data.toList.takeWhile q).length).data.toList = s.data.toList.takeWhile q := by
  rw [Lib.extract_data]
  simp only [List.drop_zero, Nat.sub_zero, take_tw]

theorem tw_le (q : UInt8 → Bool) (l : List UInt8) : (l.takeWhile q).length ≤ l.length := (List.takeWhile_prefix q).length_le

theorem first_let {l r : List UInt8} {c : UInt8} (e : l = c :: r) (h : Th.isLet c = true) : Th.first l = Th.word (l.takeWhile Th.isWc) := by
  subst e; simp only [Th.first, h, if_true]
theorem first_dig {l r : List UInt8} {c : UInt8} (e : l = c :: r) (h : Th.isLet c = false) (h1 : 0 < (l.takeWhile Th.isDig).length) : Th.first l = Th.numb (l.takeWhile Th.isDig) := by
  subst e
  have hd : Th.isDig c = true := by
    rw [← Bool.not_eq_false]; intro hc; simp [hc] at h1
  simp only [Th.first, h, hd, if_true, Bool.false_eq_true, if_false]
theorem dig_no {r : List UInt8} {c : UInt8} (h1 : ¬ 0 < ((c :: r).takeWhile Th.isDig).length) : Th.isDig c = false := by
  rw [← Bool.not_eq_true]; intro hc; simp [hc] at h1
theorem first_sign {l r : List UInt8} {c : UInt8} (e : l = c :: r) (h : Th.isLet c = false) (h1 : ¬ 0 < (l.takeWhile Th.isDig).length) (h2 : 0 < Th.signLen l) : Th.first l = (4, l.take (Th.signLen l)) := by
  subst e
  simp only [Th.first, h, dig_no h1, Bool.false_eq_true, if_false]
  rw [if_neg (by omega)]
theorem first_bad {l r : List UInt8} {c : UInt8} (e : l = c :: r) (h : Th.isLet c = false) (h1 : ¬ 0 < (l.takeWhile Th.isDig).length) (h2 : ¬ 0 < Th.signLen l) : Th.first l = (1, []) := by
  subst e
  simp only [Th.first, h, dig_no h1, Bool.false_eq_true, if_false]
  rw [if_pos (by omega)]

theorem signLen_le (l : List UInt8) : Th.signLen l ≤ l.length := by
  unfold Th.signLen
  split
  · next h =>
    match l, h with
    | [], h => simp at h
    | [c], h => simp at h
    | c :: d :: r, _ => simp
  · cases l with
    | nil => simp
    | cons c r => simp only; split <;> simp

theorem ba_ne (s : ByteArray) (h : 0 < s.size) : s.toList.isEmpty = false := by
  obtain ⟨r, hr⟩ := ba_cons s h
  rw [ByteArray.toList_eq, hr]; rfl
theorem wrap32_u8 (c : UInt8) : wrap32 (c.toNat : Int) = c.toNat := by
  have := c.toNat_lt
  unfold wrap32
  omega

set_option maxRecDepth 100000 in
set_option maxHeartbeats 1000000 in
theorem first_any (s : ByteArray) (w : World) (hs : s.size < 9223372036854775807) :
    Calls Tryz.prog 190 #[.string s] w fun e w' => e = .returned (tokV (Th.first s.data.toList).1 (Th.first s.data.toList).2 0) ∧ Below w.heap.size w w' := by
  by_cases h0 : 0 < s.size
  · have he : s.toList.isEmpty = false := ba_ne s h0
    obtain ⟨r, hr⟩ := ba_cons s h0
    have Hr := hide hr; clear hr
    have hw := wrap32_u8 s[0]
    cases h1 : runeLet (wrap32 s[0].toNat)
    · have H1 := hide h1; clear h1
      have H2 : Hid (Th.isLet s[0] = false) := hide (by rw [let_eq, ← hw]; exact unhide H1)
      clear hw
      have hle : (s.data.toList.takeWhile Th.isDig).length ≤ s.size := by have := tw_le Th.isDig s.data.toList; simpa using this
      have hle2 : Th.signLen s.data.toList ≤ s.size := by have := signLen_le s.data.toList; simpa using this
      obtain ⟨n, hn⟩ : ∃ n, (s.data.toList.takeWhile Th.isDig).length = n := ⟨_, rfl⟩
      obtain ⟨m, hm⟩ : ∃ m, Th.signLen s.data.toList = m := ⟨_, rfl⟩
      rw [hn] at hle
      rw [hm] at hle2
      have Hn := hide hn; clear hn
      have Hm := hide hm; clear hm
      go_enter Tryz.func190, Tryz.ntmps190
      go_wp2_with fail
      refine (isLetter_any _ _).mono ?_
      rintro e w' ⟨rfl, rfl⟩
      rw [unhide H1]
      go_wp2_with fail
      refine (span_dig _ _ hs).mono ?_
      rintro e w' ⟨rfl, pos, rfl⟩
      rw [unhide Hn]
      by_cases hd : 0 < n
      · go_wp2_with fail
        refine (number_any _ _ (by rw [ByteArray.size_extract]; omega)).mono ?_
        rintro e w1 ⟨rfl, hb⟩
        rw [show (s.extract 0 n).data.toList = s.data.toList.takeWhile Th.isDig from by rw [← unhide Hn]; exact ext_tw _ _]
        obtain ⟨⟨k, t⟩, hkt⟩ : ∃ x, Th.numb (s.data.toList.takeWhile Th.isDig) = x := ⟨_, rfl⟩
        rw [hkt]
        have Hk : Hid (Th.first s.data.toList = (k, t)) := hide ((first_dig (unhide Hr) (unhide H2) (by rw [unhide Hn]; exact hd)).trans hkt)
        clear hkt
        have B := (((Blk.new w [.int .i64 0, .string ⟨#[]⟩, .int .i64 0] 135).alloc (.stringIter s pos))).below hb (by simp; omega)
        have c0 := B.cell 0
        have c1 := B.cell 1
        have c2 := B.cell 2
        have f0 := B.frozen 0
        have f1 := B.frozen 1
        have f2 := B.frozen 2
        simp at c0 c1 c2
        have B3 := hide (((B.set 0 (.int .i64 k)).set 1 (.string ⟨t.toArray⟩)).set 2 (.int .i64 0))
        clear B
        go_wp2_with fail
        have q0 := (unhide B3).cell 0
        have q1 := (unhide B3).cell 1
        have q2 := (unhide B3).cell 2
        simp at q0 q1 q2
        refine bodyPost_ret (v := tokV k t 0) (by simp [results, Tryz.results190, go_sem, q0, q1, q2]) rfl ⟨by rw [unhide Hk], ?_⟩
        exact below_gb (gb_set_new (gb_set_new (gb_set_new (gb_trans (gb_trans (gb_alloc w _ none) (gb_alloc _ _ none)) (gb_below none hb)) _ _ (Nat.le_refl _)) _ _ (Nat.le_refl _)) _ _ (Nat.le_refl _))
      · go_wp2_with fail
        refine (signLength_any _ _ h0).mono ?_
        rintro e w1 ⟨rfl, rfl⟩
        rw [unhide Hm]
        by_cases hd2 : 0 < m
        · go_wp2_with fail
          go_returns
          refine ⟨?_, below_gb (gb_trans (gb_alloc w _ none) (gb_alloc _ _ none))⟩
          rw [first_sign (unhide Hr) (unhide H2) (by rw [unhide Hn]; exact hd) (by rw [unhide Hm]; exact hd2), unhide Hm]
          rw [tokV, show (⟨(s.data.toList.take m).toArray⟩ : ByteArray) = s.extract 0 m from by rw [← ba_eq (s.extract 0 m), Lib.extract_data]; simp]
          rfl
        · go_wp2_with fail
          go_returns
          refine ⟨?_, below_gb (gb_trans (gb_alloc w _ none) (gb_alloc _ _ none))⟩
          rw [first_bad (unhide Hr) (unhide H2) (by rw [unhide Hn]; exact hd) (by rw [unhide Hm]; exact hd2)]
          rfl
    · have H1 := hide h1; clear h1
      have H2 : Hid (Th.isLet s[0] = true) := hide (by rw [let_eq, ← hw]; exact unhide H1)
      clear hw
      have hle : (s.data.toList.takeWhile Th.isWc).length ≤ s.size := by have := tw_le Th.isWc s.data.toList; simpa using this
      obtain ⟨n, hn⟩ : ∃ n, (s.data.toList.takeWhile Th.isWc).length = n := ⟨_, rfl⟩
      rw [hn] at hle
      have Hn := hide hn; clear hn
      go_enter Tryz.func190, Tryz.ntmps190
      go_wp2_with fail
      refine (isLetter_any _ _).mono ?_
      rintro e w' ⟨rfl, rfl⟩
      rw [unhide H1]
      go_wp2_with fail
      refine (span_wc _ _ hs).mono ?_
      rintro e w' ⟨rfl, pos, rfl⟩
      rw [unhide Hn]
      go_wp2_with fail
      refine (word_any _ _).mono ?_
      rintro e w1 ⟨rfl, hb⟩
      rw [show (s.extract 0 n).data.toList = s.data.toList.takeWhile Th.isWc from by rw [← unhide Hn]; exact ext_tw _ _]
      obtain ⟨⟨k, t⟩, hkt⟩ : ∃ x, Th.word (s.data.toList.takeWhile Th.isWc) = x := ⟨_, rfl⟩
      rw [hkt]
      have Hk : Hid (Th.first s.data.toList = (k, t)) := hide ((first_let (unhide Hr) (unhide H2)).trans hkt)
      clear hkt
      have B := (((Blk.new w [.int .i64 0, .string ⟨#[]⟩, .int .i64 0] 135).alloc (.stringIter s pos))).below hb (by simp; omega)
      have c0 := B.cell 0
      have c1 := B.cell 1
      have c2 := B.cell 2
      have f0 := B.frozen 0
      have f1 := B.frozen 1
      have f2 := B.frozen 2
      simp at c0 c1 c2
      have B3 := hide (((B.set 0 (.int .i64 k)).set 1 (.string ⟨t.toArray⟩)).set 2 (.int .i64 0))
      clear B
      go_wp2_with fail
      have q0 := (unhide B3).cell 0
      have q1 := (unhide B3).cell 1
      have q2 := (unhide B3).cell 2
      simp at q0 q1 q2
      refine bodyPost_ret (v := tokV k t 0) (by simp [results, Tryz.results190, go_sem, q0, q1, q2]) rfl ⟨by rw [unhide Hk], ?_⟩
      exact below_gb (gb_set_new (gb_set_new (gb_set_new (gb_trans (gb_trans (gb_alloc w _ none) (gb_alloc _ _ none)) (gb_below none hb)) _ _ (Nat.le_refl _)) _ _ (Nat.le_refl _)) _ _ (Nat.le_refl _))
  · have he : s.toList.isEmpty = true := by rw [ByteArray.toList_eq, List.isEmpty_iff, ← List.length_eq_zero_iff, sz]; omega
    go_enter Tryz.func190, Tryz.ntmps190
    go_wp2_with fail
    go_returns
    refine ⟨?_, below_alloc _ _⟩
    rw [List.isEmpty_iff, ByteArray.toList_eq] at he
    rw [he]
    rfl

end Go.Proofs.YtgahgkddaljmkaaGreatDoor
