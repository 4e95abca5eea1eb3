/- The document's own reader: a number; a token, whatever it is. -/
import Derived.Test.YtgahgkddaljmkaaGreatDoorB1
namespace Go.Proofs.YtgahgkddaljmkaaGreatDoor
open Go.RowKit
attribute [local go_sem ↓] Go.wp_at_zero Go.wp_at_succ

theorem dfirst_number (s : ByteArray) (p : Nat) (hp : p < s.size) (hl : Th.isLet s[p] = false) (hd : Th.isDig s[p] = true) : Th.dfirst (s.data.toList.drop p) = ⟨(s.data.toList.drop p).takeWhile Th.isDig, if 9 < ((s.data.toList.drop p).takeWhile Th.isDig).length then 33 else 48, Th.val (((s.data.toList.drop p).takeWhile Th.isDig).take 9)⟩ := by
  rw [drop_cons s p hp]
  simp only [Th.dfirst, hl, hd, Bool.false_eq_true, if_false, if_true]

theorem val_snoc (l : List UInt8) (c : UInt8) : Th.val (l ++ [c]) = 10 * Th.val l + (c.toNat - 48) := by
  simp [Th.val, List.foldl_append]

/-- The number that the first digits make, nine of them at most. -/
def Th.upto (s : ByteArray) (p k : Nat) : Nat := Th.val ((s.data.toList.drop p).take (min 9 (k - p)))

theorem upto_step (s : ByteArray) (p k : Nat) (hpk : p ≤ k) (hk : k < s.size) (h9 : k < p + 9) : Th.upto s p (k + 1) = 10 * Th.upto s p k + (s[k].toNat - 48) := by
  unfold Th.upto
  rw [show min 9 (k + 1 - p) = (k - p) + 1 by omega, show min 9 (k - p) = k - p by omega, List.take_add_one]
  have e : (s.data.toList.drop p)[k - p]? = some s[k] := by
    rw [List.getElem?_drop, show p + (k - p) = k by omega, List.getElem?_eq_getElem (by rw [Array.length_toList]; exact hk)]
    rfl
  rw [e]
  exact val_snoc _ _
theorem upto_stay (s : ByteArray) (p k : Nat) (h9 : ¬ k < p + 9) : Th.upto s p (k + 1) = Th.upto s p k := by
  unfold Th.upto
  rw [show min 9 (k + 1 - p) = 9 by omega, show min 9 (k - p) = 9 by omega]
theorem upto_small (s : ByteArray) (p k : Nat) (hk : k ≤ s.size) (h : ∀ j (h : j < s.size), p ≤ j → j < k → Th.isDig s[j] = true) : Th.upto s p k < 1000000000 := by
  unfold Th.upto
  refine val_small _ (by rw [List.length_take]; omega) ?_
  intro c hc
  obtain ⟨j, hj, e⟩ := List.getElem_of_mem hc
  rw [List.length_take, List.length_drop, Array.length_toList] at hj
  have hz : s.data.size = s.size := rfl
  rw [List.getElem_take, List.getElem_drop] at e
  rw [← e]
  exact h (p + j) (by omega) (by omega) (by omega)

def tokC (b : ByteArray) (p : Nat) (k n : Int) : List Value := [.string b, .int .i64 p, .int .u8 k, .int .i64 n]

set_option maxRecDepth 100000 in
set_option maxHeartbeats 8000000 in
theorem dtoken_number (s : ByteArray) (p : Nat) (hp : p < s.size) (hm : s.size ≤ 600) (hl : Th.isLet s[p] = false) (hd : Th.isDig s[p] = true) (w : World) :
    Calls Tryz.prog 167 #[.string s, .int .i64 p] w fun e w' => e = .returned (dtV (Th.dfirst (s.data.toList.drop p)) p) ∧ Below w.heap.size w w' := by
  have hp' : (p : Int) < (s.size : Int) := by omega
  have hp0 : (0 : Int) ≤ (p : Int) := by omega
  have HF := hide (dfirst_number s p hp hl hd)
  have HL := hide hl
  have HD := hide hd
  clear hl hd
  go_enter Tryz.func167, Tryz.ntmps167
  go_wp2_with fail
  refine (letter_any _ _).mono ?_
  rintro e w1 ⟨rfl, rfl⟩
  rw [kLet_eq, unhide HL]
  go_wp2_with fail
  refine (digit_any _ _).mono ?_
  rintro e w1 ⟨rfl, rfl⟩
  rw [kDig_eq, unhide HD]
  go_wp2_with fail
  go_loopg [6] s.size (fun gk i wr => ∃ k : Nat, i = .int .i64 k ∧ p ≤ k ∧ k ≤ s.size ∧ s.size - k ≤ gk ∧ (∀ j (h : j < s.size), p ≤ j → j < k → Th.isDig s[j] = true) ∧ Blk wr w.heap.size [.string ⟨#[]⟩, .int .i64 0, .int .u8 0, .int .i64 0] 108 ∧ Blk wr (w.heap.size + 1) [.string ⟨#[]⟩, .int .i64 p, .int .u8 0, .int .i64 (Th.upto s p k)] 108 ∧ w.grownBy wr none)
  case atStart =>
    refine ⟨p, rfl, Nat.le_refl _, by omega, by omega, fun j _ h1 h2 => absurd h2 (by omega), (Blk.new w [.string ⟨#[]⟩, .int .i64 0, .int .u8 0, .int .i64 0] 108).alloc _, ?_, gb_trans (gb_alloc _ _ _) (gb_alloc _ _ _)⟩
    have := Blk.new (w.alloc (.cells #[.string ⟨#[]⟩, .int .i64 0, .int .u8 0, .int .i64 0] 108)) [.string ⟨#[]⟩, .int .i64 p, .int .u8 0, .int .i64 0] 108
    simpa [Th.upto, Th.val] using this
  case round =>
    obtain ⟨k, rfl, hpk, hk, hgk, hrun, hB0, hB1, hg⟩ := hrel
    have HRUN := hide hrun
    have hsm := upto_small s p k hk hrun
    obtain ⟨u, hu⟩ : ∃ u, Th.upto s p k = u := ⟨_, rfl⟩
    rw [hu] at hsm hB1
    have HU := hide hu
    clear hu
    have c0 := hB1.cell 0
    have c1 := hB1.cell 1
    have c2 := hB1.cell 2
    have c3 := hB1.cell 3
    have f0 := hB1.frozen 0
    have f2 := hB1.frozen 2
    have f3 := hB1.frozen 3
    have a0 := hB0.cell 0
    have a1 := hB0.cell 1
    have a2 := hB0.cell 2
    have a3 := hB0.cell 3
    have g0 := hB0.frozen 0
    have g1 := hB0.frozen 1
    have g2 := hB0.frozen 2
    have g3 := hB0.frozen 3
    simp at c0 c1 c2 c3 a0 a1 a2 a3
    have HB0 := hide hB0
    have HB1 := hide hB1
    have HG := hide hg
    clear hrun hB0 hB1 hg
    have END : (∀ h : k < s.size, Th.isDig s[k] = false) → Hid (dtV (Th.dfirst (s.data.toList.drop p)) p = .agg #[.string (s.extract p k), .int .i64 p, .int .u8 (if 9 < k - p then 33 else 48 : Nat), .int .i64 u]) := fun hno => hide (by
      have e := ext_run s p k hpk hk (unhide HRUN) hno
      have e2 : ((s.data.toList.drop p).takeWhile Th.isDig).length = k - p := by
        rw [← e, Array.length_toList]
        have : (s.extract p k).data.size = (s.extract p k).size := rfl
        rw [this, ByteArray.size_extract]
        omega
      have e3 : ((s.data.toList.drop p).takeWhile Th.isDig).take 9 = (s.data.toList.drop p).take (min 9 (k - p)) := by
        rw [← e, extract_toList, List.take_take]
      rw [unhide HF, e2, e3, ← e, ← unhide HU]
      simp only [dtV, ba_eq]
      rfl)
    by_cases hlt : k < s.size
    · have hlt' : (k : Int) < (s.size : Int) := by omega
      have hk0 : (0 : Int) ≤ (k : Int) := by omega
      go_wp2_with fail
      refine (digit_any _ _).mono ?_
      rintro e w1 ⟨rfl, rfl⟩
      rw [kDig_eq]
      cases hc2 : Th.isDig s[k]
      · have e := END (fun _ => hc2)
        clear hc2 END
        by_cases h9 : (9 : Int) < (k : Int) - (p : Int)
        · have e2 := unhide e
          rw [if_pos (show 9 < k - p by omega)] at e2
          have HE := hide e2
          have FIN := hide ((((((((unhide HB0).other ⟨w.heap.size + 1, 0, none⟩ (.string (s.extract p k)) (by simp)).other ⟨w.heap.size + 1, 2, none⟩ (.int .u8 48) (by simp)).other ⟨w.heap.size + 1, 2, none⟩ (.int .u8 33) (by simp)).set 0 (.string (s.extract p k))).set 1 (.int .i64 p)).set 2 (.int .u8 33)).set 3 (.int .i64 u))
          have FG := hide (gb_set_new (gb_set_new (gb_set_new (gb_set_new (gb_set_new (gb_set_new (gb_set_new (unhide HG) ⟨w.heap.size + 1, 0, none⟩ (.string (s.extract p k)) (by simp)) ⟨w.heap.size + 1, 2, none⟩ (.int .u8 48) (by simp)) ⟨w.heap.size + 1, 2, none⟩ (.int .u8 33) (by simp)) ⟨w.heap.size, 0, none⟩ (.string (s.extract p k)) (by simp)) ⟨w.heap.size, 1, none⟩ (.int .i64 p) (by simp)) ⟨w.heap.size, 2, none⟩ (.int .u8 33) (by simp)) ⟨w.heap.size, 3, none⟩ (.int .i64 u) (by simp))
          clear e e2
          have BW := hide ((((unhide HB1).set 0 (.string (s.extract p k))).set 2 (.int .u8 48)).set 2 (.int .u8 33))
          have q0 := Blk.cell (unhide BW) 0
          have q1 := Blk.cell (unhide BW) 1
          have q2 := Blk.cell (unhide BW) 2
          have q3 := Blk.cell (unhide BW) 3
          simp at q0 q1 q2 q3
          go_wp2_with fail
          have p0 := Blk.cell (unhide FIN) 0
          have p1 := Blk.cell (unhide FIN) 1
          have p2 := Blk.cell (unhide FIN) 2
          have p3 := Blk.cell (unhide FIN) 3
          simp at p0 p1 p2 p3
          refine bodyPost_ret (by simp [results, Tryz.results167, go_sem, p0, p1, p2, p3]) rfl ⟨congrArg Ending.returned (unhide HE).symm, below_gb (unhide FG)⟩
        · have e2 := unhide e
          rw [if_neg (show ¬ 9 < k - p by omega)] at e2
          have HE := hide e2
          have FIN := hide (((((((unhide HB0).other ⟨w.heap.size + 1, 0, none⟩ (.string (s.extract p k)) (by simp)).other ⟨w.heap.size + 1, 2, none⟩ (.int .u8 48) (by simp)).set 0 (.string (s.extract p k))).set 1 (.int .i64 p)).set 2 (.int .u8 48)).set 3 (.int .i64 u))
          have FG := hide (gb_set_new (gb_set_new (gb_set_new (gb_set_new (gb_set_new (gb_set_new (unhide HG) ⟨w.heap.size + 1, 0, none⟩ (.string (s.extract p k)) (by simp)) ⟨w.heap.size + 1, 2, none⟩ (.int .u8 48) (by simp)) ⟨w.heap.size, 0, none⟩ (.string (s.extract p k)) (by simp)) ⟨w.heap.size, 1, none⟩ (.int .i64 p) (by simp)) ⟨w.heap.size, 2, none⟩ (.int .u8 48) (by simp)) ⟨w.heap.size, 3, none⟩ (.int .i64 u) (by simp))
          clear e e2
          have BW := hide ((((unhide HB1).set 0 (.string (s.extract p k))).set 2 (.int .u8 48)))
          have q0 := Blk.cell (unhide BW) 0
          have q1 := Blk.cell (unhide BW) 1
          have q2 := Blk.cell (unhide BW) 2
          have q3 := Blk.cell (unhide BW) 3
          simp at q0 q1 q2 q3
          go_wp2_with fail
          have p0 := Blk.cell (unhide FIN) 0
          have p1 := Blk.cell (unhide FIN) 1
          have p2 := Blk.cell (unhide FIN) 2
          have p3 := Blk.cell (unhide FIN) 3
          simp at p0 p1 p2 p3
          refine bodyPost_ret (by simp [results, Tryz.results167, go_sem, p0, p1, p2, p3]) rfl ⟨congrArg Ending.returned (unhide HE).symm, below_gb (unhide FG)⟩
      · have hdc : 48 ≤ s[k].toNat ∧ s[k].toNat ≤ 57 := by simpa [Th.isDig] using hc2
        have HC2 := hide hc2
        clear hc2 END
        by_cases h9 : (k : Int) < (p : Int) + 9
        · go_wp2_with fail
          go_region_with fail
          all_goals
            go_wp2_with fail
            go_roundg (s.size - (k + 1))
            case measure => omega
            case rel =>
              have hu : (10 * (u : Int) + ((s[k].toNat : Int) - 48)) = (Th.upto s p (k + 1) : Int) := by
                rw [upto_step s p k hpk hlt (by omega), unhide HU]
                omega
              rw [hu]
              refine ⟨k + 1, by go_num, by omega, by omega, Nat.le_refl _, fun j h h1 h2 => ?_, ((unhide HB0).other ⟨w.heap.size + 1, 3, none⟩ _ (by simp)).drew, ((unhide HB1).set 3 _).drew, gb_trans (gb_set_new (unhide HG) ⟨w.heap.size + 1, 3, none⟩ _ (by simp)) (gb_drew _ _)⟩
              by_cases hj : j = k
              · subst hj
                exact unhide HC2
              · exact unhide HRUN j h h1 (by omega)
        · go_wp2_with fail
          go_roundg (s.size - (k + 1))
          case measure => omega
          case rel =>
            refine ⟨k + 1, by go_num, by omega, by omega, Nat.le_refl _, fun j h h1 h2 => ?_, unhide HB0, by rw [upto_stay s p k (by omega), unhide HU]; exact unhide HB1, unhide HG⟩
            by_cases hj : j = k
            · subst hj
              exact unhide HC2
            · exact unhide HRUN j h h1 (by omega)
    · have e := END (fun h => absurd h hlt)
      clear END
      by_cases h9 : (9 : Int) < (k : Int) - (p : Int)
      · have e2 := unhide e
        rw [if_pos (show 9 < k - p by omega)] at e2
        have HE := hide e2
        have FIN := hide ((((((((unhide HB0).other ⟨w.heap.size + 1, 0, none⟩ (.string (s.extract p k)) (by simp)).other ⟨w.heap.size + 1, 2, none⟩ (.int .u8 48) (by simp)).other ⟨w.heap.size + 1, 2, none⟩ (.int .u8 33) (by simp)).set 0 (.string (s.extract p k))).set 1 (.int .i64 p)).set 2 (.int .u8 33)).set 3 (.int .i64 u))
        have FG := hide (gb_set_new (gb_set_new (gb_set_new (gb_set_new (gb_set_new (gb_set_new (gb_set_new (unhide HG) ⟨w.heap.size + 1, 0, none⟩ (.string (s.extract p k)) (by simp)) ⟨w.heap.size + 1, 2, none⟩ (.int .u8 48) (by simp)) ⟨w.heap.size + 1, 2, none⟩ (.int .u8 33) (by simp)) ⟨w.heap.size, 0, none⟩ (.string (s.extract p k)) (by simp)) ⟨w.heap.size, 1, none⟩ (.int .i64 p) (by simp)) ⟨w.heap.size, 2, none⟩ (.int .u8 33) (by simp)) ⟨w.heap.size, 3, none⟩ (.int .i64 u) (by simp))
        clear e e2
        have BW := hide ((((unhide HB1).set 0 (.string (s.extract p k))).set 2 (.int .u8 48)).set 2 (.int .u8 33))
        have q0 := Blk.cell (unhide BW) 0
        have q1 := Blk.cell (unhide BW) 1
        have q2 := Blk.cell (unhide BW) 2
        have q3 := Blk.cell (unhide BW) 3
        simp at q0 q1 q2 q3
        go_wp2_with fail
        have p0 := Blk.cell (unhide FIN) 0
        have p1 := Blk.cell (unhide FIN) 1
        have p2 := Blk.cell (unhide FIN) 2
        have p3 := Blk.cell (unhide FIN) 3
        simp at p0 p1 p2 p3
        refine bodyPost_ret (by simp [results, Tryz.results167, go_sem, p0, p1, p2, p3]) rfl ⟨congrArg Ending.returned (unhide HE).symm, below_gb (unhide FG)⟩
      · have e2 := unhide e
        rw [if_neg (show ¬ 9 < k - p by omega)] at e2
        have HE := hide e2
        have FIN := hide (((((((unhide HB0).other ⟨w.heap.size + 1, 0, none⟩ (.string (s.extract p k)) (by simp)).other ⟨w.heap.size + 1, 2, none⟩ (.int .u8 48) (by simp)).set 0 (.string (s.extract p k))).set 1 (.int .i64 p)).set 2 (.int .u8 48)).set 3 (.int .i64 u))
        have FG := hide (gb_set_new (gb_set_new (gb_set_new (gb_set_new (gb_set_new (gb_set_new (unhide HG) ⟨w.heap.size + 1, 0, none⟩ (.string (s.extract p k)) (by simp)) ⟨w.heap.size + 1, 2, none⟩ (.int .u8 48) (by simp)) ⟨w.heap.size, 0, none⟩ (.string (s.extract p k)) (by simp)) ⟨w.heap.size, 1, none⟩ (.int .i64 p) (by simp)) ⟨w.heap.size, 2, none⟩ (.int .u8 48) (by simp)) ⟨w.heap.size, 3, none⟩ (.int .i64 u) (by simp))
        clear e e2
        have BW := hide ((((unhide HB1).set 0 (.string (s.extract p k))).set 2 (.int .u8 48)))
        have q0 := Blk.cell (unhide BW) 0
        have q1 := Blk.cell (unhide BW) 1
        have q2 := Blk.cell (unhide BW) 2
        have q3 := Blk.cell (unhide BW) 3
        simp at q0 q1 q2 q3
        go_wp2_with fail
        have p0 := Blk.cell (unhide FIN) 0
        have p1 := Blk.cell (unhide FIN) 1
        have p2 := Blk.cell (unhide FIN) 2
        have p3 := Blk.cell (unhide FIN) 3
        simp at p0 p1 p2 p3
        refine bodyPost_ret (by simp [results, Tryz.results167, go_sem, p0, p1, p2, p3]) rfl ⟨congrArg Ending.returned (unhide HE).symm, below_gb (unhide FG)⟩

theorem dtoken_any (s : ByteArray) (p : Nat) (hp : p < s.size) (hm : s.size ≤ 600) (w : World) :
    Calls Tryz.prog 167 #[.string s, .int .i64 p] w fun e w' => e = .returned (dtV (Th.dfirst (s.data.toList.drop p)) p) ∧ Below w.heap.size w w' := by
  cases hl : Th.isLet s[p]
  · cases hd : Th.isDig s[p]
    · exact dtoken_sign s p hp hm hl hd w
    · exact dtoken_number s p hp hm hl hd w
  · exact dtoken_word s p hp hm hl w

end Go.Proofs.YtgahgkddaljmkaaGreatDoor
