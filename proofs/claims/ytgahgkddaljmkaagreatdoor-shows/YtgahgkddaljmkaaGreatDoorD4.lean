/- The document's list: names, each with a space ahead. The document's ends: whether an expression ends in an open case; and tight: how tight it is. The document's tight: how tight an expression is. The document's within; its text of a number, a name, a maker. -/
import Derived.Test.YtgahgkddaljmkaaGreatDoorD1
import Derived.Test.YtgahgkddaljmkaaGreatDoorC2
import Derived.Test.YtgahgkddaljmkaaGreatDoorC4
import Derived.Test.YtgahgkddaljmkaaGreatDoorD3
namespace Go.Proofs.YtgahgkddaljmkaaGreatDoor
open Go.RowKit
attribute [local go_sem ↓] Go.wp_at_zero Go.wp_at_succ

theorem str_app (a b : List UInt8) : ((⟨a.toArray⟩ : ByteArray) ++ (⟨b.toArray⟩ : ByteArray)) = ⟨(a ++ b).toArray⟩ := by
  apply ByteArray.ext
  simp

theorem Th.spaced_take_le (l : List Th.Tok) : ∀ i, (Th.spaced (l.take i)).length ≤ (Th.spaced l).length := by
  have h : ∀ (k l : List Th.Tok), (Th.spaced l).length ≤ (Th.spaced (l ++ k)).length := by
    intro k
    induction k with
    | nil => intro l; simp
    | cons t k ih =>
      intro l
      have h1 := ih (l ++ [t])
      have h2 := congrArg List.length (Th.spaced_snoc l t)
      simp only [List.length_append, List.append_assoc, List.singleton_append] at h1 h2
      omega
  intro i
  have := h (l.drop i) (l.take i)
  rwa [List.take_append_drop] at this

set_option maxRecDepth 100000 in
set_option maxHeartbeats 4000000 in
theorem dlist_any {w : World} {S : Nat → Prop} {nv : Value} {l : List Th.Tok} (hr : Row S w 108 4 nv l.length (dnsCells l)) (hl : l.length ≤ 1000000) (hz : (Th.spaced l).length ≤ 1000000) :
    Calls Tryz.prog 57 #[nv] w fun e w' => e = .returned (.string ⟨(Th.spaced l).toArray⟩) ∧ Below w.heap.size w w' := by
  have HR := hide hr
  rcases row_shape hr with hv | ⟨g, cap, hv⟩
  · have hl0 : l = [] := by
      rcases hr.1.2 with ⟨_, h0⟩ | ⟨_, _, _, h0, _⟩
      · exact List.length_eq_zero_iff.1 h0
      · rw [hv] at h0; cases h0
    subst hv hl0
    clear hr HR
    go_enter Tryz.func57, Tryz.ntmps57
    go_wp2_with fail
    refine wp_loop_rounds 1 ?_
    rw [rounds_succ]
    go_wp2_with fail
    go_ret
    exact ⟨rfl, Below.refl _ _⟩
  · subst hv
    have HGL := hide (hr.1.lt g rfl).2
    clear hr
    go_enter Tryz.func57, Tryz.ntmps57
    go_wp2_with fail
    go_loopg [3, 4] l.length (fun gk sv iv wr => ∃ i : Nat, sv = .string ⟨(Th.spaced (l.take i)).toArray⟩ ∧ iv = .int .i64 i ∧ i ≤ l.length ∧ l.length - i ≤ gk ∧ Below w.heap.size w wr)
    case atStart => exact ⟨0, rfl, rfl, Nat.zero_le _, by omega, Below.refl _ _⟩
    case round =>
      obtain ⟨i, rfl, rfl, hi, hgk, hb⟩ := hrel
      have Hb := hide hb
      by_cases hlt : i < l.length
      · obtain ⟨t, ht⟩ : ∃ t, l[i]? = some t := ⟨l[i], List.getElem?_eq_getElem hlt⟩
        have hrow := (unhide HR).1.kept (gb_below none hb) (own_none _)
        have ci := dnsCells_get l i t ht
        have i0 := (hrow.cellAt (i * 4) (by omega)).trans ci.1
        have HS := hide (Th.spaced_take ht)
        have hz1 : (Th.spaced (l.take i)).length + 1 + t.s.length ≤ 1000000 := by
          have h1 := Th.spaced_take_le l (i + 1)
          have h2 := congrArg List.length (unhide HS)
          simp only [List.length_append, List.length_cons, List.length_nil] at h2
          omega
        clear hrow ci ht hb
        go_wp2_with fail
        go_roundg (l.length - (i + 1))
        case measure => omega
        case rel =>
          refine ⟨i + 1, ?_, by go_num, by omega, Nat.le_refl _, ?_⟩
          · rw [unhide HS]
            simp only [str_app, List.append_assoc]
          · exact unhide Hb
      · have hil : i = l.length := by omega
        subst hil
        clear hb
        go_wp2_with fail
        go_ret
        refine ⟨?_, ?_⟩
        · simp
        · exact unhide Hb

end Go.Proofs.YtgahgkddaljmkaaGreatDoor

namespace Go.Proofs.YtgahgkddaljmkaaGreatDoor
open Go.RowKit
attribute [local go_sem ↓] Go.wp_at_zero Go.wp_at_succ

set_option maxRecDepth 100000 in
set_option maxHeartbeats 4000000 in
theorem dends_flat {w : World} {a k : Nat} (hk : k ≤ 9) (h4 : k ≠ 4) (h7 : k ≠ 7) (h8 : k ≠ 8) (c0 : w.cell? ⟨a, 0, none⟩ = some (.int .i64 k)) :
    Calls Tryz.prog 178 #[.pointer (some ⟨a, 0, none⟩)] w fun r w' => r = .returned (.bool (decide (k = 9))) ∧ Below w.heap.size w w' := by
  have hc : k = 0 ∨ k = 1 ∨ k = 2 ∨ k = 3 ∨ k = 5 ∨ k = 6 ∨ k = 9 := by omega
  clear hk h4 h7 h8
  rcases hc with rfl | rfl | rfl | rfl | rfl | rfl | rfl
  all_goals
    go_enter Tryz.func178, Tryz.ntmps178
    go_wp2_with fail
    go_ret
    exact ⟨rfl, Below.refl _ _⟩

set_option maxRecDepth 100000 in
set_option maxHeartbeats 4000000 in
theorem dends_deep {w : World} {a k : Nat} {lv : Value} {x : Bool} (hk : k = 4 ∨ k = 7 ∨ k = 8) (c0 : w.cell? ⟨a, 0, none⟩ = some (.int .i64 k)) (c6 : w.cell? ⟨a, 6, none⟩ = some lv) (hv : ∃ b, lv = .pointer (some ⟨b, 0, none⟩))
    (hx : ∀ W, Below w.heap.size w W → Calls Tryz.prog 178 #[lv] W fun r w' => r = .returned (.bool x) ∧ Below W.heap.size W w') :
    Calls Tryz.prog 178 #[.pointer (some ⟨a, 0, none⟩)] w fun r w' => r = .returned (.bool x) ∧ Below w.heap.size w w' := by
  obtain ⟨b, rfl⟩ := hv
  have CX := hide hx
  clear hx
  rcases hk with rfl | rfl | rfl
  all_goals
    go_enter Tryz.func178, Tryz.ntmps178
    go_wp2_with fail
    refine (unhide CX _ (Below.refl _ _)).mono ?_
    rintro en w1 ⟨rfl, b1⟩
    go_wp2_with fail
    go_ret
    exact ⟨rfl, b1⟩

theorem dends_any : ∀ (n : Nat) {w : World} {S : Nat → Prop} {v : Value} {e : Th.Ex}, DRep S w n v e →
    Calls Tryz.prog 178 #[v] w fun r w' => r = .returned (.bool (Th.ends n e)) ∧ Below w.heap.size w w'
  | 0, _, _, _, _, h => h.elim
  | n + 1, w, S, v, e, h => by
    obtain ⟨a, lv, rv, nv, pv, av, rfl, hS, hB, h⟩ := h
    have c0 : w.cell? ⟨a, 0, none⟩ = some (.int .i64 e.kind) := hB.cell 0
    have c6 : w.cell? ⟨a, 6, none⟩ = some lv := hB.cell 6
    have deep : ∀ b, e.kids.headD Th.ex0 = b → DRep S w n lv b → (e.kind = 4 ∨ e.kind = 7 ∨ e.kind = 8) → Calls Tryz.prog 178 #[.pointer (some ⟨a, 0, none⟩)] w fun r w' => r = .returned (.bool (Th.ends (n + 1) e)) ∧ Below w.heap.size w w' := by
      intro b hb d hk
      have e1 : Th.ends (n + 1) e = Th.ends n b := by
        rw [Th.ends, if_neg (by omega), if_pos hk, hb]
      rw [e1]
      exact dends_deep hk c0 c6 (drep_ptr d) (fun W hW => dends_any n (d.gb (gb_below none hW) (by simp)))
    have flat : ∀ k, e.kind = k → k ≤ 9 → k ≠ 4 → k ≠ 7 → k ≠ 8 → Calls Tryz.prog 178 #[.pointer (some ⟨a, 0, none⟩)] w fun r w' => r = .returned (.bool (Th.ends (n + 1) e)) ∧ Below w.heap.size w w' := by
      intro k hk h9 h4 h7 h8
      have e1 : Th.ends (n + 1) e = decide (k = 9) := by
        rw [Th.ends, hk]
        by_cases h : k = 9
        · rw [if_pos h]; simp [h]
        · rw [if_neg h, if_neg (by omega)]; simp [h]
      rw [e1]
      exact dends_flat h9 h4 h7 h8 (hk ▸ c0)
    rcases h with h | ⟨hk, b, h1, h2, h3⟩ | ⟨hk, e1, e2, h1, h2, h3⟩ | ⟨hk, b, parts, pvs, h1, h2, h3, h4, h5, h6, h7⟩ | ⟨hk, b, bodies, nvs, bvs, h1, h2, h3, h4, h5, h6, h7, h8⟩
    · exact flat _ rfl (by omega) (by omega) (by omega) (by omega)
    · exact deep b (by rw [h1]; rfl) h3 (.inl hk)
    · exact flat _ rfl (by omega) (by omega) (by omega) (by omega)
    · exact deep b (by rw [h1]; rfl) h7 (.inr hk)
    · exact flat _ rfl (by omega) (by omega) (by omega) (by omega)

end Go.Proofs.YtgahgkddaljmkaaGreatDoor

namespace Go.Proofs.YtgahgkddaljmkaaGreatDoor
open Go.RowKit
attribute [local go_sem ↓] Go.wp_at_zero Go.wp_at_succ

set_option maxRecDepth 100000 in
set_option maxHeartbeats 4000000 in
theorem tight_flat {w : World} {a k : Nat} (hk : k ≤ 9) (h6 : k ≠ 6) (c0 : w.cell? ⟨a, 0, none⟩ = some (.int .i64 k)) :
    Calls Tryz.prog 103 #[.pointer (some ⟨a, 0, none⟩)] w fun r w' => r = .returned (.int .i64 (if k = 5 then 4 else if k ≤ 3 then 5 else 0 : Nat)) ∧ Below w.heap.size w w' := by
  have hc : k = 0 ∨ k = 1 ∨ k = 2 ∨ k = 3 ∨ k = 4 ∨ k = 5 ∨ k = 7 ∨ k = 8 ∨ k = 9 := by omega
  clear hk h6
  rcases hc with rfl | rfl | rfl | rfl | rfl | rfl | rfl | rfl | rfl
  all_goals
    go_enter Tryz.func103, Tryz.ntmps103
    go_wp2_with fail
    go_ret
    exact ⟨rfl, Below.refl _ _⟩

set_option maxRecDepth 100000 in
set_option maxHeartbeats 4000000 in
theorem tight_op {w : World} {a : Nat} {s : List UInt8} (hs : s ∈ Th.six) (c0 : w.cell? ⟨a, 0, none⟩ = some (.int .i64 (6 : Nat))) (c2 : w.cell? ⟨a, 2, none⟩ = some (.string ⟨s.toArray⟩)) :
    Calls Tryz.prog 103 #[.pointer (some ⟨a, 0, none⟩)] w fun r w' => r = .returned (.int .i64 (if s = [42] ∨ s = [47] then 3 else if s = [43] ∨ s = [45] then 2 else 1 : Nat)) ∧ Below w.heap.size w w' := by
  have hc : s = [43] ∨ s = [45] ∨ s = [42] ∨ s = [47] ∨ s = [60] ∨ s = [61, 61] := by simpa [Th.six] using hs
  clear hs
  rcases hc with rfl | rfl | rfl | rfl | rfl | rfl
  all_goals
    go_enter Tryz.func103, Tryz.ntmps103
    go_wp2_with fail
    go_ret
    exact ⟨rfl, Below.refl _ _⟩

theorem wf_sign {n : Nat} {e : Th.Ex} (h : Th.Wf n e) (hk : e.kind = 6) : e.tok.s ∈ Th.six := by
  cases n with
  | zero => exact h.elim
  | succ n =>
    rcases h with h | h | h | ⟨h, _⟩ | ⟨h, _⟩ | ⟨h, hs, _⟩ | ⟨h, _⟩ | ⟨h, _⟩
    all_goals first | exact hs | omega

theorem drep_kind {S : Nat → Prop} {w : World} {n : Nat} {v : Value} {e : Th.Ex} (h : DRep S w n v e) : e.kind ≤ 9 := by
  cases n with
  | zero => exact h.elim
  | succ n =>
    obtain ⟨a, lv, rv, nv, pv, av, hv, hS, hB, h⟩ := h
    rcases h with h | ⟨hk, _⟩ | ⟨hk, _⟩ | ⟨hk, _⟩ | ⟨hk, _⟩
    all_goals omega

theorem tight_any {n m : Nat} {w : World} {S : Nat → Prop} {v : Value} {e : Th.Ex} (h : DRep S w n v e) (hw : Th.Wf m e) :
    Calls Tryz.prog 103 #[v] w fun r w' => r = .returned (.int .i64 (Th.level e : Nat)) ∧ Below w.heap.size w w' := by
  have h9 := drep_kind h
  cases n with
  | zero => exact h.elim
  | succ n =>
    obtain ⟨a, lv, rv, nv, pv, av, rfl, hS, hB, h⟩ := h
    have c0 : w.cell? ⟨a, 0, none⟩ = some (.int .i64 e.kind) := hB.cell 0
    by_cases hk : e.kind = 6
    · have c2 : w.cell? ⟨a, 2, none⟩ = some (.string ⟨e.tok.s.toArray⟩) := by
        have : w.cell? ⟨a, 2, none⟩ = some (.string ⟨(if e.kind = 2 ∨ e.kind = 6 then e.tok.s else []).toArray⟩) := hB.cell 2
        rw [this, if_pos (.inr hk)]
      have := tight_op (wf_sign hw hk) (by rw [c0, hk]) c2
      have e1 : Th.level e = if e.tok.s = [42] ∨ e.tok.s = [47] then 3 else if e.tok.s = [43] ∨ e.tok.s = [45] then 2 else 1 := by
        rw [Th.level, if_neg (by omega), if_pos hk]
      rw [e1]
      exact this
    · have e1 : Th.level e = if e.kind = 5 then 4 else if e.kind ≤ 3 then 5 else 0 := by
        rw [Th.level, if_neg (c := e.kind = 6) hk]
      rw [e1]
      exact tight_flat h9 hk c0

end Go.Proofs.YtgahgkddaljmkaaGreatDoor

namespace Go.Proofs.YtgahgkddaljmkaaGreatDoor
open Go.RowKit
attribute [local go_sem ↓] Go.wp_at_zero Go.wp_at_succ

/-- The document's text of an expression, at a depth. -/
def TxOK (n : Nat) : Prop := ∀ (w : World) (S : Nat → Prop) (v : Value) (e : Th.Ex), Tab w → DRep S w n v e → Th.Wf n e → (Th.text n e).length ≤ 1000000 →
  Calls Tryz.prog 58 #[v] w fun r w' => r = .returned (.string ⟨(Th.text n e).toArray⟩) ∧ Below w.heap.size w w'

set_option maxRecDepth 100000 in
set_option maxHeartbeats 4000000 in
theorem within_any {n : Nat} (hx : TxOK n) {w : World} {S : Nat → Prop} {v : Value} {e : Th.Ex} {least : Nat} (ht : Tab w) (h : DRep S w n v e) (hw : Th.Wf n e) (hl : (Th.text n e).length ≤ 1000000) (_ : least ≤ 9) :
    Calls Tryz.prog 102 #[v, .int .i64 least] w fun r w' => r = .returned (.string ⟨(Th.within e least (Th.text n e)).toArray⟩) ∧ Below w.heap.size w w' := by
  obtain ⟨x, rfl⟩ := drep_ptr h
  have CT := hide (tight_any h hw)
  have CX := hide (fun (W : World) (hW : Below w.heap.size w W) => hx W S _ e (ht.below hW) (h.gb (gb_below none hW) (by simp)) hw hl)
  clear hx h hw ht
  by_cases hc : Th.level e < least
  · have HE : Hid (Th.within e least (Th.text n e) = Th.paren (Th.text n e)) := by unfold Hid Th.within; rw [if_pos hc]
    have hci : ((Th.level e : Int) < (least : Int)) := by omega
    go_enter Tryz.func102, Tryz.ntmps102
    go_wp2_with (first
      | (go_at_call 103; refine (unhide CT).mono ?_; rintro en w1 ⟨rfl, b1⟩; have HB1 := hide b1; clear b1)
      | (go_at_call 58; refine (unhide CX _ (unhide HB1)).mono ?_; rintro en w2 ⟨rfl, b2⟩; have HB2 := hide b2; clear b2))
    go_ret
    refine ⟨?_, (unhide HB1).trans ((unhide HB2).mono (unhide HB1).size)⟩
    rw [unhide HE]
    simp only [Th.paren, ← str_app]
    rfl
  · have HE : Hid (Th.within e least (Th.text n e) = Th.text n e) := by unfold Hid Th.within; rw [if_neg hc]
    have hci : ¬ ((Th.level e : Int) < (least : Int)) := by omega
    go_enter Tryz.func102, Tryz.ntmps102
    go_wp2_with (first
      | (go_at_call 103; refine (unhide CT).mono ?_; rintro en w1 ⟨rfl, b1⟩; have HB1 := hide b1; clear b1)
      | (go_at_call 58; refine (unhide CX _ (unhide HB1)).mono ?_; rintro en w2 ⟨rfl, b2⟩; have HB2 := hide b2; clear b2))
    go_ret
    refine ⟨?_, (unhide HB1).trans ((unhide HB2).mono (unhide HB1).size)⟩
    rw [unhide HE]
    rfl

end Go.Proofs.YtgahgkddaljmkaaGreatDoor
