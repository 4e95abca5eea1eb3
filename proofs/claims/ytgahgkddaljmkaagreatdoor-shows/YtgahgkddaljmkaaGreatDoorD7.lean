/- The document's text of a function. The document's binds. -/
import Derived.Test.YtgahgkddaljmkaaGreatDoorD6
namespace Go.Proofs.YtgahgkddaljmkaaGreatDoor
open Go.RowKit
attribute [local go_sem ↓] Go.wp_at_zero Go.wp_at_succ

set_option maxRecDepth 100000 in
set_option maxHeartbeats 4000000 in
theorem text_fun {n : Nat} (hx : TxOK n) {w : World} {S : Nat → Prop} {a : Nat} {lv nv : Value} {e1 : Th.Ex} {l : List Th.Tok} {A B : List UInt8} {R RB : ByteArray} (hRB : RB = ⟨B.toArray⟩) (hR : R = ⟨#[92]⟩ ++ ⟨A.toArray⟩ ++ ⟨#[46, 32]⟩ ++ RB) (hA : Th.spaced l = 32 :: A) (hB : B = Th.text n e1) (ht : Tab w) (c0 : w.cell? ⟨a, 0, none⟩ = some (.int .i64 (4 : Nat))) (c6 : w.cell? ⟨a, 6, none⟩ = some lv) (c8 : w.cell? ⟨a, 8, none⟩ = some nv)
    (d1 : DRep S w n lv e1) (hr : Row S w 108 4 nv l.length (dnsCells l)) (hll : l.length ≤ 1000000) (f1 : Th.Wf n e1) (hl : R.size ≤ 1000000) :
    Calls Tryz.prog 58 #[.pointer (some ⟨a, 0, none⟩)] w fun r w' => r = .returned (.string R) ∧ Below w.heap.size w w' := by
  obtain ⟨x1, rfl⟩ := drep_ptr d1
  obtain ⟨na, nk, nc, rfl⟩ := row_slice hr
  obtain ⟨J1, hJ1⟩ : ∃ J : ByteArray, J = ⟨#[92]⟩ ++ ⟨A.toArray⟩ := ⟨_, rfl⟩
  obtain ⟨J2, hJ2⟩ : ∃ J, J = J1 ++ ⟨#[46, 32]⟩ := ⟨_, rfl⟩
  have hJ4 : R = J2 ++ RB := by rw [hR, hJ2, hJ1]
  have s4 : R.size = J2.size + RB.size := by rw [hJ4]; exact ByteArray.size_append
  have s2 : J2.size = J1.size + 2 := by rw [hJ2]; exact ByteArray.size_append
  have s1 : J1.size = 1 + A.length := by rw [hJ1]; simp [ByteArray.size]; omega
  have sb : RB.size = B.length := by rw [hRB]; simp [ByteArray.size]
  have hz : (Th.spaced l).length ≤ 1000000 := by rw [hA]; simp; omega
  have hBl : (Th.text n e1).length ≤ 1000000 := by rw [← hB]; omega
  have q1 := cat_run hJ1 (by omega)
  have q2 := cat_run hJ2 (by omega)
  have q4 := cat_run hJ4 (by omega)
  have hAl : (A.length : Int) ≤ 1000000 := by omega
  have C1 := hide (fun (W : World) (hW : Below w.heap.size w W) => dlist_any (hr.gb (gb_below none hW) (by simp)) hll hz)
  have C2 := hide (fun (W : World) (hW : Below w.heap.size w W) => hx W S _ e1 (ht.below hW) (d1.gb (gb_below none hW) (by simp)) f1 hBl)
  obtain ⟨LS, hLS⟩ : ∃ J : ByteArray, J = ⟨(Th.spaced l).toArray⟩ := ⟨_, rfl⟩
  obtain ⟨TL, hTL⟩ : ∃ J : ByteArray, J = ⟨A.toArray⟩ := ⟨_, rfl⟩
  have qs : ∀ W : World, (Instr.slice 9 (.string LS) (some (.int .i64 1)) none none).run Tryz.prog W = .ok (.string TL) W := by
    intro W
    have e : LS.extract (Int.toNat 1) LS.size = TL := by
      rw [hLS, hA, hTL]
      apply ByteArray.ext
      simp [ByteArray.size]
    rw [run_slice_string_l W 9 LS Tryz.underlying9 .i64 1 (by decide) (by rw [hLS, hA]; simp [ByteArray.size]; omega), e]
  rw [← hLS] at C1
  rw [← hTL] at q1
  rw [← hB, ← hRB] at C2
  have CE := hide (fun (W : World) (hW : Below w.heap.size w W) => And.intro (cell_gb (gb_below none hW) c6 (by simp)) (cell_gb (gb_below none hW) c8 (by simp)))
  clear hLS hTL d1 f1 hx hA hB hR ht hr hz hBl hJ1 hJ2 hJ4 s1 s2 s4 sb hRB hl
  go_enter Tryz.func58, Tryz.ntmps58
  go_wp2_with fail
  go_region_held3 (fun W => W.cell? ⟨a, 6, none⟩ = some (.pointer (some ⟨x1, 0, none⟩)) ∧ W.cell? ⟨a, 8, none⟩ = some (.slice na nk nc)) (go_keep) (first
    | (go_at_call 57; refine (unhide C1 _ ?_).mono ?_; exact (Below.refl _ _).drew; rintro en w1 ⟨rfl, b1⟩; have b1' : Below w.heap.size w w1 := (Below.refl _ _).drew.trans (b1.mono (Nat.le_refl _)); have HB1 := hide b1'; obtain ⟨k6, k8⟩ := unhide CE w1 b1'; have hs1 := b1'.size; clear b1 b1')
    | (go_at_call 58; refine (unhide C2 _ ?_).mono ?_; exact unhide HB1; rintro en w2 ⟨rfl, b2⟩; have b2' := (unhide HB1).trans (b2.mono hs1); have HB2 := hide b2'; obtain ⟨m6, m8⟩ := unhide CE w2 b2'; clear b2 b2'))
  all_goals
    go_wp2_with fail
    go_ret
    exact ⟨rfl, unhide HB2⟩

end Go.Proofs.YtgahgkddaljmkaaGreatDoor

namespace Go.Proofs.YtgahgkddaljmkaaGreatDoor
open Go.RowKit
attribute [local go_sem ↓] Go.wp_at_zero Go.wp_at_succ

theorem Th.led_len {l : List (List UInt8)} : ∀ i, (Th.led (l.take i)).length ≤ (Th.led l).length := by
  have h : ∀ (k l : List (List UInt8)), (Th.led l).length ≤ (Th.led (l ++ k)).length := by
    intro k
    induction k with
    | nil => intro l; simp
    | cons t k ih =>
      intro l
      have h1 := ih (l ++ [t])
      have h2 : (Th.led l).length ≤ (Th.led (l ++ [t])).length := by
        by_cases hl : l = []
        · subst hl; simp [Th.led]
        · rw [Th.led_snoc hl]; simp
      simp only [List.append_assoc, List.singleton_append] at h1
      omega
  intro i
  have := h (l.drop i) (l.take i)
  rwa [List.take_append_drop] at this

theorem Th.led_take {l : List (List UInt8)} {i : Nat} {x : List UInt8} (h : l[i]? = some x) : Th.led (l.take (i + 1)) = Th.led (l.take i) ++ (if i = 0 then [] else [59]) ++ ([32] ++ x) := by
  rw [List.take_add_one, h]
  by_cases h0 : i = 0
  · subst h0; simp [Th.led, Th.joined]
  · have hi : i < l.length := (List.getElem?_eq_some_iff.1 h).1
    have hne : l.take i ≠ [] := by
      intro e
      have := congrArg List.length e
      rw [List.length_take, List.length_nil] at this
      omega
    rw [if_neg h0]
    exact Th.led_snoc hne x

set_option maxRecDepth 100000 in
set_option maxHeartbeats 4000000 in
theorem dbinds_any {n : Nat} (hx : TxOK n) {w : World} {S : Nat → Prop} {a : Nat} {nv pv : Value} {l : List Th.Tok} {parts : List Th.Ex} {pvs : List Value} (ht : Tab w) (c8 : w.cell? ⟨a, 8, none⟩ = some nv) (c9 : w.cell? ⟨a, 9, none⟩ = some pv)
    (hr : Row S w 108 4 nv l.length (dnsCells l)) (hp : Row S w 110 1 pv parts.length pvs) (hn : parts.length = l.length) (hv : pvs.length = parts.length) (hne : l ≠ [])
    (dp : ∀ (i : Nat) (x : Value) (p : Th.Ex), pvs[i]? = some x → parts[i]? = some p → DRep S w n x p) (fp : ∀ p ∈ parts, Th.Wf n p) (hll : l.length ≤ 1000000) (hz : (Th.led (Th.bindTexts (Th.text n) l parts)).length ≤ 1000000) :
    Calls Tryz.prog 104 #[.pointer (some ⟨a, 0, none⟩)] w fun e w' => e = .returned (.string ⟨(Th.led (Th.bindTexts (Th.text n) l parts)).toArray⟩) ∧ Below w.heap.size w w' := by
  have hlp : 0 < l.length := List.length_pos_iff.2 hne
  obtain ⟨z, hzz⟩ : ∃ z, Th.bindTexts (Th.text n) l parts = z := ⟨_, rfl⟩
  have hzl : z.length = l.length := by rw [← hzz]; exact Th.bindTexts_len _ _ _ hn
  have ZG : Hid (∀ (i : Nat) (t : Th.Tok) (p : Th.Ex), l[i]? = some t → parts[i]? = some p → z[i]? = some (Th.bindText t (Th.text n p))) := hide (fun i t p h1 h2 => by rw [← hzz]; exact Th.bindTexts_get _ _ _ i t p h1 h2)
  rw [hzz] at hz ⊢
  have hsn := row_shape hr
  have hsp := row_shape hp
  have HR := hide hr
  have HP := hide hp
  have hr0 : nv ≠ .slice none 0 0 := fun e => by
    rcases hr.1.2 with ⟨_, h0⟩ | ⟨_, _, _, h0, _⟩
    · omega
    · rw [e] at h0; cases h0
  have hp0 : pv ≠ .slice none 0 0 := fun e => by
    rcases hp.1.2 with ⟨_, h0⟩ | ⟨_, _, _, h0, _⟩
    · omega
    · rw [e] at h0; cases h0
  rcases hsn with h | ⟨g, cap, h⟩
  · exact absurd h hr0
  rcases hsp with h' | ⟨pg, pcap, h'⟩
  · exact absurd h' hp0
  subst h h'
  have CX : Hid (∀ (i : Nat) (x : Value) (p : Th.Ex), pvs[i]? = some x → parts[i]? = some p → (Th.text n p).length ≤ 1000000 → (∃ b, x = .pointer (some ⟨b, 0, none⟩)) ∧ ∀ W, Below w.heap.size w W → Calls Tryz.prog 58 #[x] W fun r w' => r = .returned (.string ⟨(Th.text n p).toArray⟩) ∧ Below W.heap.size W w') := hide (fun i x p h1 h2 h3 => ⟨drep_ptr (dp i x p h1 h2), fun W hW => hx W S x p (ht.below hW) ((dp i x p h1 h2).gb (gb_below none hW) (by simp)) (fp p (List.mem_of_getElem? h2)) h3⟩)
  have CE := hide (fun (W : World) (hW : Below w.heap.size w W) => And.intro (cell_gb (gb_below none hW) c8 (by simp)) (cell_gb (gb_below none hW) c9 (by simp)))
  have HN := hide (And.intro hn hv)
  have HZ := hide hzz
  clear hr hp dp fp hr0 hp0 hn hv hx ht hne hzz
  go_enter Tryz.func104, Tryz.ntmps104
  go_wp2_with fail
  go_loopg [3, 4] l.length (fun gk sv iv wr => ∃ i : Nat, sv = .string ⟨(Th.led (z.take i)).toArray⟩ ∧ iv = .int .i64 i ∧ i ≤ l.length ∧ l.length - i ≤ gk ∧ Below w.heap.size w wr)
  case atStart => exact ⟨0, rfl, rfl, Nat.zero_le _, by omega, Below.refl _ _⟩
  case round =>
    obtain ⟨i, rfl, rfl, hi, hgk, hb⟩ := hrel
    have HB := hide hb
    have hsr := hb.size
    obtain ⟨e8, e9⟩ := unhide CE wr hb
    have CE2 := hide (fun (W : World) (hW : Below wr.heap.size wr W) => unhide CE W (hb.trans (hW.mono hb.size)))
    clear c8 c9
    by_cases hlt : i < l.length
    · obtain ⟨t, ht⟩ : ∃ t, l[i]? = some t := ⟨l[i], List.getElem?_eq_getElem hlt⟩
      obtain ⟨p, hp⟩ : ∃ p, parts[i]? = some p := ⟨parts[i]'(by have := (unhide HN).1; omega), List.getElem?_eq_getElem (by have := (unhide HN).1; omega)⟩
      obtain ⟨x, hx⟩ : ∃ x, pvs[i]? = some x := ⟨pvs[i]'(by have := unhide HN; omega), List.getElem?_eq_getElem (by have := unhide HN; omega)⟩
      have hrow := (unhide HR).1.kept (gb_below none hb) (own_none _)
      have prow := (unhide HP).1.kept (gb_below none hb) (own_none _)
      have ci := dnsCells_get l i t ht
      have i0 := (hrow.cellAt (i * 4) (by omega)).trans ci.1
      have p0 := (prow.cellAt i (by have := unhide HN; omega)).trans hx
      have zi := unhide ZG i t p ht hp
      have HS := hide (Th.led_take zi)
      have hle := Th.led_len (l := z) (i + 1)
      rw [unhide HS] at hle
      simp only [List.length_append, Th.bindText, List.length_cons, List.length_nil] at hle
      have hz1 : (Th.led (z.take i)).length + 6 + t.s.length + (Th.text n p).length ≤ 1000006 := by omega
      obtain ⟨⟨xb, rfl⟩, cx⟩ := unhide CX i x p hx hp (by omega)
      have hgl := (hrow.lt g rfl).2
      have hpl := (prow.lt pg rfl).2
      have CXX := hide (fun (W : World) (hW : Below wr.heap.size wr W) => cx W (hb.trans (hW.mono hb.size)))
      have CI := hide (fun (W : World) (hW : Below wr.heap.size wr W) => And.intro (cell_gb (gb_below none hW) i0 (by simp)) (cell_gb (gb_below none hW) p0 (by simp)))
      have hi0 : (0 : Int) ≤ (i : Int) := by omega
      have hil : (i : Int) < (l.length : Int) := by omega
      have hpi : (i : Int) < (parts.length : Int) := by have := unhide HN; omega
      obtain ⟨J0, hJ0⟩ : ∃ J : ByteArray, J = ⟨(Th.led (z.take i)).toArray⟩ := ⟨_, rfl⟩
      obtain ⟨TS, hTS⟩ : ∃ J : ByteArray, J = ⟨t.s.toArray⟩ := ⟨_, rfl⟩
      obtain ⟨RB, hRB⟩ : ∃ J : ByteArray, J = ⟨(Th.text n p).toArray⟩ := ⟨_, rfl⟩
      obtain ⟨J5, hJ5⟩ : ∃ J : ByteArray, J = ⟨(if i = 0 then [] else [59]).toArray⟩ := ⟨_, rfl⟩
      obtain ⟨J6, hJ6⟩ : ∃ J : ByteArray, J = J0 ++ J5 := ⟨_, rfl⟩
      obtain ⟨J1, hJ1⟩ : ∃ J : ByteArray, J = J6 ++ ⟨#[32]⟩ := ⟨_, rfl⟩
      obtain ⟨J2, hJ2⟩ : ∃ J, J = J1 ++ TS := ⟨_, rfl⟩
      obtain ⟨J3, hJ3⟩ : ∃ J, J = J2 ++ ⟨#[32, 61, 32]⟩ := ⟨_, rfl⟩
      obtain ⟨J4, hJ4⟩ : ∃ J, J = J3 ++ RB := ⟨_, rfl⟩
      have HE : Hid ((⟨(Th.led (z.take (i + 1))).toArray⟩ : ByteArray) = J4) := hide (by
        rw [unhide HS, hJ4, hJ3, hJ2, hJ1, hJ6, hJ5, hRB, hTS, hJ0]
        simp only [str_app, Th.bindText, List.append_assoc])
      have s0 : J0.size = (Th.led (z.take i)).length := by rw [hJ0]; simp [ByteArray.size]
      have st : TS.size = t.s.length := by rw [hTS]; simp [ByteArray.size]
      have sr : RB.size = (Th.text n p).length := by rw [hRB]; simp [ByteArray.size]
      have s5 : J5.size ≤ 1 := by rw [hJ5]; split <;> simp [ByteArray.size]
      have s6 : J6.size = J0.size + J5.size := by rw [hJ6]; exact ByteArray.size_append
      have s1 : J1.size = J6.size + 1 := by rw [hJ1]; exact ByteArray.size_append
      have s2 : J2.size = J1.size + TS.size := by rw [hJ2]; exact ByteArray.size_append
      have s3 : J3.size = J2.size + 3 := by rw [hJ3]; exact ByteArray.size_append
      have s4 : J4.size = J3.size + RB.size := by rw [hJ4]; exact ByteArray.size_append
      have hJ4z : J4.size ≤ 1000000 := by
        have := congrArg ByteArray.size (unhide HE)
        rw [← this]
        simp only [ByteArray.size, List.size_toArray]
        exact Nat.le_trans (Th.led_len (l := z) (i + 1)) hz
      have s6z : J6.size ≤ 1000000 := by omega
      have q1 := cat_run hJ1 (by omega)
      have q2 := cat_run hJ2 (by omega)
      have q3 := cat_run hJ3 (by omega)
      have q4 := cat_run hJ4 (by omega)
      rw [← hTS] at i0 CI
      rw [← hRB] at CXX
      rw [← hJ0]
      clear hrow prow ci ht hp hx cx hb zi hle hz1 hTS hRB s1 s2 s3 s4 st sr hJ1 hJ2 hJ3 hJ4 hJ4z HS hJ0
      by_cases h0 : i = 0
      · have hc : ¬ ((0 : Int) < (i : Int)) := by omega
        have e6 : J6 = J0 := by rw [hJ6, hJ5, if_pos h0]; apply ByteArray.ext; simp
        subst e6
        clear h0 hJ6 hJ5 s0 s5 s6 s6z
        go_wp2_with fail
        go_region_held3 (fun W => W.cell? ⟨a, 8, none⟩ = some (.slice (some ⟨g, 0, none⟩) l.length cap) ∧ W.cell? ⟨a, 9, none⟩ = some (.slice (some ⟨pg, 0, none⟩) parts.length pcap) ∧ W.cell? ⟨g, i * 4, none⟩ = some (.string TS) ∧ W.cell? ⟨pg, i, none⟩ = some (.pointer (some ⟨xb, 0, none⟩))) (go_keep) (first | (go_at_call 58; refine (unhide CXX _ ?_).mono ?_; exact (Below.refl _ _).drew; rintro en w1 ⟨rfl, b1⟩; have b1' : Below wr.heap.size wr w1 := (Below.refl _ _).drew.trans (b1.mono (Nat.le_refl _)); have HB1 := hide b1'; obtain ⟨q8, q9⟩ := unhide CE2 w1 b1'; obtain ⟨qi, qp⟩ := unhide CI w1 b1'; have hs1 := b1'.size; clear b1 b1'))
        all_goals
          go_wp2_with fail
          go_roundg (l.length - (i + 1))
          case measure => omega
          case rel =>
            exact ⟨i + 1, by rw [unhide HE], by go_num, by omega, Nat.le_refl _, (unhide HB).trans ((unhide HB1).mono hsr)⟩
      · have hc : ((0 : Int) < (i : Int)) := by omega
        have e5 : J5 = ⟨#[59]⟩ := by rw [hJ5, if_neg h0]
        subst e5
        have q6 := cat_run hJ6 s6z
        clear h0 hJ6 hJ5 s0 s5 s6 s6z
        go_wp2_with fail
        go_region_held3 (fun W => W.cell? ⟨a, 8, none⟩ = some (.slice (some ⟨g, 0, none⟩) l.length cap) ∧ W.cell? ⟨a, 9, none⟩ = some (.slice (some ⟨pg, 0, none⟩) parts.length pcap) ∧ W.cell? ⟨g, i * 4, none⟩ = some (.string TS) ∧ W.cell? ⟨pg, i, none⟩ = some (.pointer (some ⟨xb, 0, none⟩))) (go_keep) (first | (go_at_call 58; refine (unhide CXX _ ?_).mono ?_; exact (Below.refl _ _).drew; rintro en w1 ⟨rfl, b1⟩; have b1' : Below wr.heap.size wr w1 := (Below.refl _ _).drew.trans (b1.mono (Nat.le_refl _)); have HB1 := hide b1'; obtain ⟨q8, q9⟩ := unhide CE2 w1 b1'; obtain ⟨qi, qp⟩ := unhide CI w1 b1'; have hs1 := b1'.size; clear b1 b1'))
        all_goals
          go_wp2_with fail
          go_roundg (l.length - (i + 1))
          case measure => omega
          case rel =>
            exact ⟨i + 1, by rw [unhide HE], by go_num, by omega, Nat.le_refl _, (unhide HB).trans ((unhide HB1).mono hsr)⟩
    · have hil : i = z.length := by omega
      have HE : Hid (Th.led (z.take i) = Th.led z) := hide (by rw [hil, List.take_of_length_le (Nat.le_refl _)])
      clear hb hil
      go_wp2_with fail
      go_ret
      exact ⟨by rw [unhide HE]; rfl, unhide HB⟩

end Go.Proofs.YtgahgkddaljmkaaGreatDoor
