/- What a type switch finds at each kind of expression. Package show: spaced; endsInCase. -/
import Derived.Test.YtgahgkddaljmkaaGreatDoorA1
import Derived.Test.YtgahgkddaljmkaaGreatDoorD1
import Derived.Test.YtgahgkddaljmkaaGreatDoorA7
namespace Go.Proofs.YtgahgkddaljmkaaGreatDoor
open Go.RowKit

theorem tt_Use_Use (x : Value) (w : World) : (Instr.typeAssert (.iface 215 x) 91 215 true).run Tryz.prog w = .ok (.tuple #[x, .bool true]) w := by kernel_rfl
theorem tt_Use_Number (x : Value) (w : World) : (Instr.typeAssert (.iface 215 x) 91 217 true).run Tryz.prog w = .ok (.tuple #[.agg #[.int .i64 0], .bool false]) w := by kernel_rfl
theorem tt_Use_Maker (x : Value) (w : World) : (Instr.typeAssert (.iface 215 x) 91 219 true).run Tryz.prog w = .ok (.tuple #[.agg #[.int .i64 0, .int .i64 0], .bool false]) w := by kernel_rfl
theorem tt_Use_Call (x : Value) (w : World) : (Instr.typeAssert (.iface 215 x) 91 163 true).run Tryz.prog w = .ok (.tuple #[.agg #[.nilIface, .nilIface], .bool false]) w := by kernel_rfl
theorem tt_Use_Operation (x : Value) (w : World) : (Instr.typeAssert (.iface 215 x) 91 166 true).run Tryz.prog w = .ok (.tuple #[.agg #[.string ⟨#[]⟩, .nilIface, .nilIface], .bool false]) w := by kernel_rfl
theorem tt_Use_Let (x : Value) (w : World) : (Instr.typeAssert (.iface 215 x) 91 178 true).run Tryz.prog w = .ok (.tuple #[.agg #[.bool false, .slice none 0 0, .nilIface], .bool false]) w := by kernel_rfl
theorem tt_Use_Case (x : Value) (w : World) : (Instr.typeAssert (.iface 215 x) 91 173 true).run Tryz.prog w = .ok (.tuple #[.agg #[.nilIface, .slice none 0 0], .bool false]) w := by kernel_rfl
theorem tt_Use_Lambda (x : Value) (w : World) : (Instr.typeAssert (.iface 215 x) 91 226 true).run Tryz.prog w = .ok (.tuple #[.agg #[.slice none 0 0, .nilIface], .bool false]) w := by kernel_rfl
theorem tt_Number_Use (x : Value) (w : World) : (Instr.typeAssert (.iface 217 x) 91 215 true).run Tryz.prog w = .ok (.tuple #[.agg #[.string ⟨#[]⟩, .int .i64 0], .bool false]) w := by kernel_rfl
theorem tt_Number_Number (x : Value) (w : World) : (Instr.typeAssert (.iface 217 x) 91 217 true).run Tryz.prog w = .ok (.tuple #[x, .bool true]) w := by kernel_rfl
theorem tt_Number_Maker (x : Value) (w : World) : (Instr.typeAssert (.iface 217 x) 91 219 true).run Tryz.prog w = .ok (.tuple #[.agg #[.int .i64 0, .int .i64 0], .bool false]) w := by kernel_rfl
theorem tt_Number_Call (x : Value) (w : World) : (Instr.typeAssert (.iface 217 x) 91 163 true).run Tryz.prog w = .ok (.tuple #[.agg #[.nilIface, .nilIface], .bool false]) w := by kernel_rfl
theorem tt_Number_Operation (x : Value) (w : World) : (Instr.typeAssert (.iface 217 x) 91 166 true).run Tryz.prog w = .ok (.tuple #[.agg #[.string ⟨#[]⟩, .nilIface, .nilIface], .bool false]) w := by kernel_rfl
theorem tt_Number_Let (x : Value) (w : World) : (Instr.typeAssert (.iface 217 x) 91 178 true).run Tryz.prog w = .ok (.tuple #[.agg #[.bool false, .slice none 0 0, .nilIface], .bool false]) w := by kernel_rfl
theorem tt_Number_Case (x : Value) (w : World) : (Instr.typeAssert (.iface 217 x) 91 173 true).run Tryz.prog w = .ok (.tuple #[.agg #[.nilIface, .slice none 0 0], .bool false]) w := by kernel_rfl
theorem tt_Number_Lambda (x : Value) (w : World) : (Instr.typeAssert (.iface 217 x) 91 226 true).run Tryz.prog w = .ok (.tuple #[.agg #[.slice none 0 0, .nilIface], .bool false]) w := by kernel_rfl
theorem tt_Maker_Use (x : Value) (w : World) : (Instr.typeAssert (.iface 219 x) 91 215 true).run Tryz.prog w = .ok (.tuple #[.agg #[.string ⟨#[]⟩, .int .i64 0], .bool false]) w := by kernel_rfl
theorem tt_Maker_Number (x : Value) (w : World) : (Instr.typeAssert (.iface 219 x) 91 217 true).run Tryz.prog w = .ok (.tuple #[.agg #[.int .i64 0], .bool false]) w := by kernel_rfl
theorem tt_Maker_Maker (x : Value) (w : World) : (Instr.typeAssert (.iface 219 x) 91 219 true).run Tryz.prog w = .ok (.tuple #[x, .bool true]) w := by kernel_rfl
theorem tt_Maker_Call (x : Value) (w : World) : (Instr.typeAssert (.iface 219 x) 91 163 true).run Tryz.prog w = .ok (.tuple #[.agg #[.nilIface, .nilIface], .bool false]) w := by kernel_rfl
theorem tt_Maker_Operation (x : Value) (w : World) : (Instr.typeAssert (.iface 219 x) 91 166 true).run Tryz.prog w = .ok (.tuple #[.agg #[.string ⟨#[]⟩, .nilIface, .nilIface], .bool false]) w := by kernel_rfl
theorem tt_Maker_Let (x : Value) (w : World) : (Instr.typeAssert (.iface 219 x) 91 178 true).run Tryz.prog w = .ok (.tuple #[.agg #[.bool false, .slice none 0 0, .nilIface], .bool false]) w := by kernel_rfl
theorem tt_Maker_Case (x : Value) (w : World) : (Instr.typeAssert (.iface 219 x) 91 173 true).run Tryz.prog w = .ok (.tuple #[.agg #[.nilIface, .slice none 0 0], .bool false]) w := by kernel_rfl
theorem tt_Maker_Lambda (x : Value) (w : World) : (Instr.typeAssert (.iface 219 x) 91 226 true).run Tryz.prog w = .ok (.tuple #[.agg #[.slice none 0 0, .nilIface], .bool false]) w := by kernel_rfl
theorem tt_Call_Use (x : Value) (w : World) : (Instr.typeAssert (.iface 163 x) 91 215 true).run Tryz.prog w = .ok (.tuple #[.agg #[.string ⟨#[]⟩, .int .i64 0], .bool false]) w := by kernel_rfl
theorem tt_Call_Number (x : Value) (w : World) : (Instr.typeAssert (.iface 163 x) 91 217 true).run Tryz.prog w = .ok (.tuple #[.agg #[.int .i64 0], .bool false]) w := by kernel_rfl
theorem tt_Call_Maker (x : Value) (w : World) : (Instr.typeAssert (.iface 163 x) 91 219 true).run Tryz.prog w = .ok (.tuple #[.agg #[.int .i64 0, .int .i64 0], .bool false]) w := by kernel_rfl
theorem tt_Call_Call (x : Value) (w : World) : (Instr.typeAssert (.iface 163 x) 91 163 true).run Tryz.prog w = .ok (.tuple #[x, .bool true]) w := by kernel_rfl
theorem tt_Call_Operation (x : Value) (w : World) : (Instr.typeAssert (.iface 163 x) 91 166 true).run Tryz.prog w = .ok (.tuple #[.agg #[.string ⟨#[]⟩, .nilIface, .nilIface], .bool false]) w := by kernel_rfl
theorem tt_Call_Let (x : Value) (w : World) : (Instr.typeAssert (.iface 163 x) 91 178 true).run Tryz.prog w = .ok (.tuple #[.agg #[.bool false, .slice none 0 0, .nilIface], .bool false]) w := by kernel_rfl
theorem tt_Call_Case (x : Value) (w : World) : (Instr.typeAssert (.iface 163 x) 91 173 true).run Tryz.prog w = .ok (.tuple #[.agg #[.nilIface, .slice none 0 0], .bool false]) w := by kernel_rfl
theorem tt_Call_Lambda (x : Value) (w : World) : (Instr.typeAssert (.iface 163 x) 91 226 true).run Tryz.prog w = .ok (.tuple #[.agg #[.slice none 0 0, .nilIface], .bool false]) w := by kernel_rfl
theorem tt_Operation_Use (x : Value) (w : World) : (Instr.typeAssert (.iface 166 x) 91 215 true).run Tryz.prog w = .ok (.tuple #[.agg #[.string ⟨#[]⟩, .int .i64 0], .bool false]) w := by kernel_rfl
theorem tt_Operation_Number (x : Value) (w : World) : (Instr.typeAssert (.iface 166 x) 91 217 true).run Tryz.prog w = .ok (.tuple #[.agg #[.int .i64 0], .bool false]) w := by kernel_rfl
theorem tt_Operation_Maker (x : Value) (w : World) : (Instr.typeAssert (.iface 166 x) 91 219 true).run Tryz.prog w = .ok (.tuple #[.agg #[.int .i64 0, .int .i64 0], .bool false]) w := by kernel_rfl
theorem tt_Operation_Call (x : Value) (w : World) : (Instr.typeAssert (.iface 166 x) 91 163 true).run Tryz.prog w = .ok (.tuple #[.agg #[.nilIface, .nilIface], .bool false]) w := by kernel_rfl
theorem tt_Operation_Operation (x : Value) (w : World) : (Instr.typeAssert (.iface 166 x) 91 166 true).run Tryz.prog w = .ok (.tuple #[x, .bool true]) w := by kernel_rfl
theorem tt_Operation_Let (x : Value) (w : World) : (Instr.typeAssert (.iface 166 x) 91 178 true).run Tryz.prog w = .ok (.tuple #[.agg #[.bool false, .slice none 0 0, .nilIface], .bool false]) w := by kernel_rfl
theorem tt_Operation_Case (x : Value) (w : World) : (Instr.typeAssert (.iface 166 x) 91 173 true).run Tryz.prog w = .ok (.tuple #[.agg #[.nilIface, .slice none 0 0], .bool false]) w := by kernel_rfl
theorem tt_Operation_Lambda (x : Value) (w : World) : (Instr.typeAssert (.iface 166 x) 91 226 true).run Tryz.prog w = .ok (.tuple #[.agg #[.slice none 0 0, .nilIface], .bool false]) w := by kernel_rfl
theorem tt_Let_Use (x : Value) (w : World) : (Instr.typeAssert (.iface 178 x) 91 215 true).run Tryz.prog w = .ok (.tuple #[.agg #[.string ⟨#[]⟩, .int .i64 0], .bool false]) w := by kernel_rfl
theorem tt_Let_Number (x : Value) (w : World) : (Instr.typeAssert (.iface 178 x) 91 217 true).run Tryz.prog w = .ok (.tuple #[.agg #[.int .i64 0], .bool false]) w := by kernel_rfl
theorem tt_Let_Maker (x : Value) (w : World) : (Instr.typeAssert (.iface 178 x) 91 219 true).run Tryz.prog w = .ok (.tuple #[.agg #[.int .i64 0, .int .i64 0], .bool false]) w := by kernel_rfl
theorem tt_Let_Call (x : Value) (w : World) : (Instr.typeAssert (.iface 178 x) 91 163 true).run Tryz.prog w = .ok (.tuple #[.agg #[.nilIface, .nilIface], .bool false]) w := by kernel_rfl
theorem tt_Let_Operation (x : Value) (w : World) : (Instr.typeAssert (.iface 178 x) 91 166 true).run Tryz.prog w = .ok (.tuple #[.agg #[.string ⟨#[]⟩, .nilIface, .nilIface], .bool false]) w := by kernel_rfl
theorem tt_Let_Let (x : Value) (w : World) : (Instr.typeAssert (.iface 178 x) 91 178 true).run Tryz.prog w = .ok (.tuple #[x, .bool true]) w := by kernel_rfl
theorem tt_Let_Case (x : Value) (w : World) : (Instr.typeAssert (.iface 178 x) 91 173 true).run Tryz.prog w = .ok (.tuple #[.agg #[.nilIface, .slice none 0 0], .bool false]) w := by kernel_rfl
theorem tt_Let_Lambda (x : Value) (w : World) : (Instr.typeAssert (.iface 178 x) 91 226 true).run Tryz.prog w = .ok (.tuple #[.agg #[.slice none 0 0, .nilIface], .bool false]) w := by kernel_rfl
theorem tt_Case_Use (x : Value) (w : World) : (Instr.typeAssert (.iface 173 x) 91 215 true).run Tryz.prog w = .ok (.tuple #[.agg #[.string ⟨#[]⟩, .int .i64 0], .bool false]) w := by kernel_rfl
theorem tt_Case_Number (x : Value) (w : World) : (Instr.typeAssert (.iface 173 x) 91 217 true).run Tryz.prog w = .ok (.tuple #[.agg #[.int .i64 0], .bool false]) w := by kernel_rfl
theorem tt_Case_Maker (x : Value) (w : World) : (Instr.typeAssert (.iface 173 x) 91 219 true).run Tryz.prog w = .ok (.tuple #[.agg #[.int .i64 0, .int .i64 0], .bool false]) w := by kernel_rfl
theorem tt_Case_Call (x : Value) (w : World) : (Instr.typeAssert (.iface 173 x) 91 163 true).run Tryz.prog w = .ok (.tuple #[.agg #[.nilIface, .nilIface], .bool false]) w := by kernel_rfl
theorem tt_Case_Operation (x : Value) (w : World) : (Instr.typeAssert (.iface 173 x) 91 166 true).run Tryz.prog w = .ok (.tuple #[.agg #[.string ⟨#[]⟩, .nilIface, .nilIface], .bool false]) w := by kernel_rfl
theorem tt_Case_Let (x : Value) (w : World) : (Instr.typeAssert (.iface 173 x) 91 178 true).run Tryz.prog w = .ok (.tuple #[.agg #[.bool false, .slice none 0 0, .nilIface], .bool false]) w := by kernel_rfl
theorem tt_Case_Case (x : Value) (w : World) : (Instr.typeAssert (.iface 173 x) 91 173 true).run Tryz.prog w = .ok (.tuple #[x, .bool true]) w := by kernel_rfl
theorem tt_Case_Lambda (x : Value) (w : World) : (Instr.typeAssert (.iface 173 x) 91 226 true).run Tryz.prog w = .ok (.tuple #[.agg #[.slice none 0 0, .nilIface], .bool false]) w := by kernel_rfl
theorem tt_Lambda_Use (x : Value) (w : World) : (Instr.typeAssert (.iface 226 x) 91 215 true).run Tryz.prog w = .ok (.tuple #[.agg #[.string ⟨#[]⟩, .int .i64 0], .bool false]) w := by kernel_rfl
theorem tt_Lambda_Number (x : Value) (w : World) : (Instr.typeAssert (.iface 226 x) 91 217 true).run Tryz.prog w = .ok (.tuple #[.agg #[.int .i64 0], .bool false]) w := by kernel_rfl
theorem tt_Lambda_Maker (x : Value) (w : World) : (Instr.typeAssert (.iface 226 x) 91 219 true).run Tryz.prog w = .ok (.tuple #[.agg #[.int .i64 0, .int .i64 0], .bool false]) w := by kernel_rfl
theorem tt_Lambda_Call (x : Value) (w : World) : (Instr.typeAssert (.iface 226 x) 91 163 true).run Tryz.prog w = .ok (.tuple #[.agg #[.nilIface, .nilIface], .bool false]) w := by kernel_rfl
theorem tt_Lambda_Operation (x : Value) (w : World) : (Instr.typeAssert (.iface 226 x) 91 166 true).run Tryz.prog w = .ok (.tuple #[.agg #[.string ⟨#[]⟩, .nilIface, .nilIface], .bool false]) w := by kernel_rfl
theorem tt_Lambda_Let (x : Value) (w : World) : (Instr.typeAssert (.iface 226 x) 91 178 true).run Tryz.prog w = .ok (.tuple #[.agg #[.bool false, .slice none 0 0, .nilIface], .bool false]) w := by kernel_rfl
theorem tt_Lambda_Case (x : Value) (w : World) : (Instr.typeAssert (.iface 226 x) 91 173 true).run Tryz.prog w = .ok (.tuple #[.agg #[.nilIface, .slice none 0 0], .bool false]) w := by kernel_rfl
theorem tt_Lambda_Lambda (x : Value) (w : World) : (Instr.typeAssert (.iface 226 x) 91 226 true).run Tryz.prog w = .ok (.tuple #[x, .bool true]) w := by kernel_rfl

end Go.Proofs.YtgahgkddaljmkaaGreatDoor

namespace Go.Proofs.YtgahgkddaljmkaaGreatDoor
open Go.RowKit
attribute [local go_sem ↓] Go.wp_at_zero Go.wp_at_succ

theorem bstr_app (a b : List UInt8) : ((⟨a.toArray⟩ : ByteArray) ++ (⟨b.toArray⟩ : ByteArray)) = ⟨(a ++ b).toArray⟩ := by
  apply ByteArray.ext
  simp

theorem Th.spaced_le (l : List Th.Tok) : ∀ i, (Th.spaced (l.take i)).length ≤ (Th.spaced l).length := by
  have h : ∀ (k l : List Th.Tok), (Th.spaced l).length ≤ (Th.spaced (l ++ k)).length := by
    intro k
    induction k with
    | nil => intro l; simp
    | cons t k ih =>
      intro l
      have h1 := ih (l ++ [t])
      have h2 := congrArg List.length (Th.spaced_snoc l t)
      simp only [List.length_append, List.append_assoc, List.singleton_append] at h1 h2
      omega
  intro i
  have := h (l.drop i) (l.take i)
  rwa [List.take_append_drop] at this

set_option maxRecDepth 100000 in
set_option maxHeartbeats 4000000 in
theorem pspaced_any {w : World} {S : Nat → Prop} {nv : Value} {l : List Th.Tok} (hr : Row S w 88 2 nv l.length (namesCells l)) (hl : l.length ≤ 1000000) (hz : (Th.spaced l).length ≤ 1000000) :
    Calls Tryz.prog 63 #[nv] w fun e w' => e = .returned (.string ⟨(Th.spaced l).toArray⟩) ∧ Below w.heap.size w w' := by
  have HR := hide hr
  rcases row_shape hr with hv | ⟨g, cap, hv⟩
  · have hl0 : l = [] := by
      rcases hr.1.2 with ⟨_, h0⟩ | ⟨_, _, _, h0, _⟩
      · exact List.length_eq_zero_iff.1 h0
      · rw [hv] at h0; cases h0
    subst hv hl0
    clear hr HR
    go_enter Tryz.func63, Tryz.ntmps63
    go_wp2_with fail
    refine wp_loop_rounds 1 ?_
    rw [rounds_succ]
    go_wp2_with fail
    go_ret
    exact ⟨rfl, Below.refl _ _⟩
  · subst hv
    clear hr
    go_enter Tryz.func63, Tryz.ntmps63
    go_wp2_with fail
    go_loopg [3, 8] l.length (fun gk sv iv wr => ∃ i : Nat, sv = .string ⟨(Th.spaced (l.take i)).toArray⟩ ∧ iv = .int .i64 i ∧ i ≤ l.length ∧ l.length - i ≤ gk ∧ Below w.heap.size w wr)
    case atStart => exact ⟨0, rfl, rfl, Nat.zero_le _, by omega, Below.refl _ _⟩
    case round =>
      obtain ⟨i, rfl, rfl, hi, hgk, hb⟩ := hrel
      have Hb := hide hb
      have hsz := hb.size
      by_cases hlt : i < l.length
      · obtain ⟨t, ht⟩ : ∃ t, l[i]? = some t := ⟨l[i], List.getElem?_eq_getElem hlt⟩
        have hrow := (unhide HR).1.kept (gb_below none hb) (own_none _)
        have ci := namesCells_get l i t ht
        have i0 := (hrow.cellAt (i * 2) (by omega)).trans ci.1
        have i1 := (hrow.cellAt (i * 2 + 1) (by omega)).trans ci.2
        have hgl := (hrow.lt g rfl).2
        have HS := hide (Th.spaced_take ht)
        have hz1 : (Th.spaced (l.take i)).length + 1 + t.s.length ≤ 1000000 := by
          have h1 := Th.spaced_le l (i + 1)
          have h2 := congrArg List.length (unhide HS)
          simp only [List.length_append, List.length_cons, List.length_nil] at h2
          omega
        clear hrow ci ht hb
        go_wp2_with fail
        go_roundg (l.length - (i + 1))
        case measure => omega
        case rel =>
          refine ⟨i + 1, ?_, by go_num, by omega, Nat.le_refl _, ?_⟩
          · rw [unhide HS]
            simp only [← bstr_app]
          · exact (unhide Hb).trans ((below_alloc _ _).mono hsz)
      · have hil : i = l.length := by omega
        subst hil
        clear hb
        go_wp2_with fail
        go_ret
        refine ⟨?_, ?_⟩
        · simp
        · exact unhide Hb

set_option maxRecDepth 100000 in
set_option maxHeartbeats 4000000 in
theorem pends_flat {w : World} {v : Value} (hv : (∃ x, v = .iface 217 x) ∨ (∃ x, v = .iface 215 x) ∨ (∃ x, v = .iface 219 x) ∨ (∃ x, v = .iface 163 x) ∨ ∃ x, v = .iface 166 x) :
    Calls Tryz.prog 240 #[v] w fun r w' => r = .returned (.bool false) ∧ Below w.heap.size w w' := by
  rcases hv with ⟨x, rfl⟩ | ⟨x, rfl⟩ | ⟨x, rfl⟩ | ⟨x, rfl⟩ | ⟨x, rfl⟩
  · have h1 := tt_Number_Case
    have h2 := tt_Number_Let
    have h3 := tt_Number_Lambda
    go_enter Tryz.func240, Tryz.ntmps240
    go_wp2_with fail
    go_ret
    exact ⟨rfl, Below.refl _ _⟩
  · have h1 := tt_Use_Case
    have h2 := tt_Use_Let
    have h3 := tt_Use_Lambda
    go_enter Tryz.func240, Tryz.ntmps240
    go_wp2_with fail
    go_ret
    exact ⟨rfl, Below.refl _ _⟩
  · have h1 := tt_Maker_Case
    have h2 := tt_Maker_Let
    have h3 := tt_Maker_Lambda
    go_enter Tryz.func240, Tryz.ntmps240
    go_wp2_with fail
    go_ret
    exact ⟨rfl, Below.refl _ _⟩
  · have h1 := tt_Call_Case
    have h2 := tt_Call_Let
    have h3 := tt_Call_Lambda
    go_enter Tryz.func240, Tryz.ntmps240
    go_wp2_with fail
    go_ret
    exact ⟨rfl, Below.refl _ _⟩
  · have h1 := tt_Operation_Case
    have h2 := tt_Operation_Let
    have h3 := tt_Operation_Lambda
    go_enter Tryz.func240, Tryz.ntmps240
    go_wp2_with fail
    go_ret
    exact ⟨rfl, Below.refl _ _⟩

set_option maxRecDepth 100000 in
set_option maxHeartbeats 4000000 in
theorem pends_case {w : World} {a b : Value} (ha : One a) (hb : ∃ x k c, b = .slice x k c) :
    Calls Tryz.prog 240 #[.iface 173 (.agg #[a, b])] w fun r w' => r = .returned (.bool true) ∧ Below w.heap.size w w' := by
  obtain ⟨x, k, c, rfl⟩ := hb
  have h1 := tt_Case_Case
  rcases ha.shape with rfl | ⟨t, y, rfl⟩
  all_goals
    go_enter Tryz.func240, Tryz.ntmps240
    go_wp2_with fail
    go_ret
    exact ⟨rfl, below_alloc _ _⟩

set_option maxRecDepth 100000 in
set_option maxHeartbeats 4000000 in
theorem pends_let {w : World} {r b : Bool} {sv bv : Value} (hs : ∃ x k c, sv = .slice x k c) (hb : ∃ t x, bv = .iface t x) (hx : ∀ W, Below w.heap.size w W → Calls Tryz.prog 240 #[bv] W fun r w' => r = .returned (.bool b) ∧ Below W.heap.size W w') :
    Calls Tryz.prog 240 #[.iface 178 (.agg #[.bool r, sv, bv])] w fun r w' => r = .returned (.bool b) ∧ Below w.heap.size w w' := by
  obtain ⟨x, k, c, rfl⟩ := hs
  obtain ⟨t, y, rfl⟩ := hb
  have h1 := tt_Let_Case
  have h2 := tt_Let_Let
  have CX := hide (hx _ (below_alloc w (.cells #[.bool r, .slice x k c, .iface t y] 178)))
  clear hx
  go_enter Tryz.func240, Tryz.ntmps240
  go_wp2_with fail
  refine (unhide CX).mono ?_
  rintro en w1 ⟨rfl, b1⟩
  have HB := hide ((below_alloc w (.cells #[.bool r, .slice x k c, .iface t y] 178)).trans (b1.mono (by simp)))
  clear b1
  go_wp2_with fail
  go_ret
  exact ⟨rfl, unhide HB⟩

set_option maxRecDepth 100000 in
set_option maxHeartbeats 4000000 in
theorem pends_fun {w : World} {b : Bool} {sv bv : Value} (hs : ∃ x k c, sv = .slice x k c) (hb : ∃ t x, bv = .iface t x) (hx : ∀ W, Below w.heap.size w W → Calls Tryz.prog 240 #[bv] W fun r w' => r = .returned (.bool b) ∧ Below W.heap.size W w') :
    Calls Tryz.prog 240 #[.iface 226 (.agg #[sv, bv])] w fun r w' => r = .returned (.bool b) ∧ Below w.heap.size w w' := by
  obtain ⟨x, k, c, rfl⟩ := hs
  obtain ⟨t, y, rfl⟩ := hb
  have h1 := tt_Lambda_Case
  have h2 := tt_Lambda_Let
  have h3 := tt_Lambda_Lambda
  have CX := hide (hx _ (below_alloc w (.cells #[.slice x k c, .iface t y] 226)))
  clear hx
  go_enter Tryz.func240, Tryz.ntmps240
  go_wp2_with fail
  refine (unhide CX).mono ?_
  rintro en w1 ⟨rfl, b1⟩
  have HB := hide ((below_alloc w (.cells #[.slice x k c, .iface t y] 226)).trans (b1.mono (by simp)))
  clear b1
  go_wp2_with fail
  go_ret
  exact ⟨rfl, unhide HB⟩

theorem pends_any : ∀ (n : Nat) {w : World} {S : Nat → Prop} {v : Value} {e : Th.Ex}, Rep S w n v e →
    Calls Tryz.prog 240 #[v] w fun r w' => r = .returned (.bool (Th.ends n e)) ∧ Below w.heap.size w w'
  | 0, _, _, _, _, h => h.elim
  | n + 1, w, S, v, e, h => by
    have flat : e.kind ≠ 9 → e.kind ≠ 4 → e.kind ≠ 7 → e.kind ≠ 8 → Th.ends (n + 1) e = false := by
      intro h1 h2 h3 h4
      rw [Th.ends, if_neg h1, if_neg (by omega)]
    rcases h with ⟨hk, rfl⟩ | ⟨hk, rfl⟩ | ⟨hk, rfl⟩ | ⟨hk, sv, bv, b, h1, rfl, h3, h4⟩ | ⟨hk, v1, v2, e1, e2, h1, rfl, h3, h4⟩ | ⟨hk, v1, v2, e1, e2, h1, rfl, h3, h4⟩ | ⟨hk, sv, bv, b, parts, pvs, h1, rfl, h3, h4, h5, h6, h7⟩ | ⟨hk, cv, sv, b, bodies, nvs, bvs, h1, rfl, h3, h4, h5, h6, h7, h8, h9⟩
    · rw [flat (by omega) (by omega) (by omega) (by omega)]; exact pends_flat (.inl ⟨_, rfl⟩)
    · rw [flat (by omega) (by omega) (by omega) (by omega)]; exact pends_flat (.inr (.inl ⟨_, rfl⟩))
    · rw [flat (by omega) (by omega) (by omega) (by omega)]; exact pends_flat (.inr (.inr (.inl ⟨_, rfl⟩)))
    · have e1 : Th.ends (n + 1) e = Th.ends n b := by rw [Th.ends, if_neg (by omega), if_pos (.inl hk), h1]; rfl
      rw [e1]
      exact pends_fun (row_slice h3) (rep_iface h4) (fun W hW => pends_any n (h4.gb (gb_below none hW) (by simp)))
    · rw [flat (by omega) (by omega) (by omega) (by omega)]; exact pends_flat (.inr (.inr (.inr (.inl ⟨_, rfl⟩))))
    · rw [flat (by omega) (by omega) (by omega) (by omega)]; exact pends_flat (.inr (.inr (.inr (.inr ⟨_, rfl⟩))))
    · have e1 : Th.ends (n + 1) e = Th.ends n b := by rw [Th.ends, if_neg (by omega), if_pos (.inr hk), h1]; rfl
      rw [e1]
      exact pends_let (row_slice h5) (rep_iface h7) (fun W hW => pends_any n (h7.gb (gb_below none hW) (by simp)))
    · have e1 : Th.ends (n + 1) e = true := by rw [Th.ends, if_pos hk]
      rw [e1]
      exact pends_case (rep_one h9) (row_slice h6)

end Go.Proofs.YtgahgkddaljmkaaGreatDoor
