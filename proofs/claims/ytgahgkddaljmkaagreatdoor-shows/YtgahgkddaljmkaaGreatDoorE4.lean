/- Package show: a let. Package show: the arms of a case. Package show: expr, of every expression. -/
import Derived.Test.YtgahgkddaljmkaaGreatDoorE3
import Derived.Deep.AppendLies
namespace Go.Proofs.YtgahgkddaljmkaaGreatDoor
open Go.RowKit
attribute [local go_sem ↓] Go.wp_at_zero Go.wp_at_succ

theorem joined_cons (x : List UInt8) (r : List (List UInt8)) : Th.joined (x :: r) = x ++ (r.map (fun y => [59, 32] ++ y)).flatten := by
  have h : ∀ (r : List (List UInt8)) (a : List UInt8), r.foldl (fun s y => s ++ [59, 32] ++ y) a = a ++ (r.map (fun y => [59, 32] ++ y)).flatten := by
    intro r
    induction r with
    | nil => intro a; simp
    | cons y r ih => intro a; rw [List.foldl_cons, ih]; simp
  exact h r x
theorem lib_join (l : List (List UInt8)) : Lib.join l [59, 32] = Th.joined l := by
  cases l with
  | nil => rfl
  | cons x r =>
    rw [joined_cons]
    unfold Lib.join
    induction r generalizing x with
    | nil => simp [List.intercalate]
    | cons y r ih =>
      have := ih y
      simp only [List.intercalate, List.map_cons, List.flatten_cons] at this ⊢
      rw [List.intersperse_cons_cons, List.flatten_cons, List.flatten_cons, this]
      simp

/-- Where the texts of a list lie, and what joins them. -/
theorem join_any {w : World} {base : Nat} {v : Value} {z : List (List UInt8)} (h : w.ownsRow base 9 1 v z.length (strCells z)) (hne : z ≠ []) (hz : z.length ≤ 1000000) (hl : (Th.joined z).length ≤ 1000000) :
    Calls Tryz.prog 184 #[v, .string ⟨#[59, 32]⟩] w fun e w' => e = .returned (.string ⟨(Th.joined z).toArray⟩) ∧ Below w.heap.size w w' := by
  have hsh := row_shape (Row.of_own h)
  rcases hsh with rfl | ⟨g, cap, rfl⟩
  · rcases h.2 with ⟨_, h0⟩ | ⟨_, _, _, h0, _⟩
    · exact absurd (List.length_eq_zero_iff.1 h0) hne
    · cases h0
  · have hcap : z.length ≤ cap := by
      rcases h.2 with ⟨h0, _⟩ | ⟨_, _, _, h0, _, _, hn, _⟩
      · cases h0
      · cases h0; exact hn
    have hm : (z.map (fun s => (⟨s.toArray⟩ : ByteArray))).map (·.data.toList) = z := by
      rw [List.map_map]
      exact (List.map_congr_left (fun s _ => by simp)).trans (List.map_id z)
    have := Tryz.strings_Join g 0 cap (z.map (fun s => (⟨s.toArray⟩ : ByteArray))) ⟨#[59, 32]⟩ w (fun j x hx => by
      have hj : j < z.length := by
        have := (List.getElem?_eq_some_iff.1 hx).1
        simpa using this
      have hc := h.cellAt j (by omega)
      rw [Nat.zero_add, hc]
      simp only [strCells, List.getElem?_map] at hx ⊢
      rw [List.getElem?_eq_getElem hj] at hx ⊢
      simp only [Option.map_some, Option.some.injEq] at hx ⊢
      rw [hx]) (h.lt g rfl).2 (by simp; omega) (by simp; omega) (by rw [hm]; show (Lib.join z [59, 32]).length ≤ _; rw [lib_join]; omega)
    rw [hm, List.length_map] at this
    rw [← lib_join]
    exact this

set_option maxRecDepth 100000 in
set_option maxHeartbeats 8000000 in
theorem plet_any {n : Nat} (hx : PxOK n) {w : World} {S : Nat → Prop} {r : Bool} {sv bv : Value} {l : List Th.Tok} {parts : List Th.Ex} {pvs : List Value} {b : Th.Ex} {R RA RB ST : ByteArray} (ht : Tab w)
    (h3 : parts.length = l.length) (h4 : pvs.length = l.length) (h5 : Row S w 312 3 sv l.length (bindCells l pvs)) (h6 : ∀ (i : Nat) (pv : Value) (p : Th.Ex), pvs[i]? = some pv → parts[i]? = some p → Rep S w n pv p) (h7 : Rep S w n bv b)
    (hne : l ≠ []) (hll : l.length ≤ 1000000) (fp : ∀ p ∈ parts, Th.Wf n p) (fb : Th.Wf n b) (hST : ST = ⟨(if r then [108, 101, 116, 32, 114, 101, 99, 32] else [108, 101, 116, 32]).toArray⟩) (hRA : RA = ⟨(Th.joined (Th.bindTexts (Th.text n) l parts)).toArray⟩) (hRB : RB = ⟨(Th.text n b).toArray⟩) (hR : R = ST ++ RA ++ ⟨#[32, 105, 110, 32]⟩ ++ RB) (hl : R.size ≤ 1000000) :
    Calls Tryz.prog 111 #[.agg #[.bool r, sv, bv]] w fun en w' => en = .returned (.string R) ∧ Below w.heap.size w w' := by
  obtain ⟨i0, hi, hz0, hz1, hz2⟩ := info_parts infoStr
  have HI := hide hi; clear hi
  have HZ := hide (And.intro hz0 (And.intro hz1 hz2)); clear hz0 hz1 hz2
  have hlp : 0 < l.length := List.length_pos_iff.2 hne
  obtain ⟨z, hzz⟩ : ∃ z, Th.bindTexts (Th.text n) l parts = z := ⟨_, rfl⟩
  have hzl : z.length = l.length := by rw [← hzz]; exact Th.bindTexts_len _ _ _ h3
  have ZG : Hid (∀ (i : Nat) (t : Th.Tok) (p : Th.Ex), l[i]? = some t → parts[i]? = some p → z[i]? = some (Th.bindText t (Th.text n p))) := hide (fun i t p h1 h2 => by rw [← hzz]; exact Th.bindTexts_get _ _ _ i t p h1 h2)
  rw [hzz] at hRA
  have hzn : z ≠ [] := fun e => by rw [e] at hzl; simp at hzl; omega
  obtain ⟨t0, x0, rfl⟩ := rep_iface h7
  have hsn := row_shape h5
  have hr0 : sv ≠ .slice none 0 0 := fun e => by
    rcases h5.1.2 with ⟨_, h0⟩ | ⟨_, _, _, h0, _⟩
    · omega
    · rw [e] at h0; cases h0
  rcases hsn with h | ⟨g, cap, h⟩
  · exact absurd h hr0
  subst h
  obtain ⟨J1, hJ1⟩ : ∃ J, J = ST ++ RA := ⟨_, rfl⟩
  obtain ⟨J2, hJ2⟩ : ∃ J, J = J1 ++ ⟨#[32, 105, 110, 32]⟩ := ⟨_, rfl⟩
  have hJ3 : R = J2 ++ RB := by rw [hR, hJ2, hJ1]
  have s3 : R.size = J2.size + RB.size := by rw [hJ3]; exact ByteArray.size_append
  have s2 : J2.size = J1.size + 4 := by rw [hJ2]; exact ByteArray.size_append
  have s1 : J1.size = ST.size + RA.size := by rw [hJ1]; exact ByteArray.size_append
  have sb : RB.size = (Th.text n b).length := by rw [hRB]; exact bsize _
  have sa : RA.size = (Th.joined z).length := by rw [hRA]; exact bsize _
  have c1 := cat_run hJ1 (by omega)
  have c2 := cat_run hJ2 (by omega)
  have c3 := cat_run hJ3 (by omega)
  have hjl : (Th.joined z).length ≤ 1000000 := by omega
  have hg0 := gb_alloc w (.cells #[.bool r, .slice (some ⟨g, 0, none⟩) l.length cap, .iface t0 x0] 178) none
  have CX : Hid (∀ (i : Nat) (x : Value) (p : Th.Ex), pvs[i]? = some x → parts[i]? = some p → (Th.text n p).length ≤ 1000000 → (∃ t y, x = .iface t y) ∧ ∀ W, Below w.heap.size w W → Calls Tryz.prog 64 #[x] W fun r w' => r = .returned (.string ⟨(Th.text n p).toArray⟩) ∧ Below W.heap.size W w') := hide (fun i x p q1 q2 q3 => ⟨rep_iface (h6 i x p q1 q2), fun W hW => hx W S x p (ht.below hW) ((h6 i x p q1 q2).gb (gb_below none hW) (by simp)) (fp p (List.mem_of_getElem? q2)) q3⟩)
  have CB := hide (fun (W : World) (hW : Below w.heap.size w W) => hx W S _ b (ht.below hW) (h7.gb (gb_below none hW) (by simp)) fb (by omega))
  rw [← hRB] at CB
  have CROW := hide (fun (W : World) (hW : Below w.heap.size w W) => h5.1.kept (gb_below none hW) (own_none _))
  have HN := hide (And.intro h3 h4)
  have HBa := hide (below_alloc w (.cells #[.bool r, .slice (some ⟨g, 0, none⟩) l.length cap, .iface t0 x0] 178))
  have HA := hide (Blk.new w [.bool r, .slice (some ⟨g, 0, none⟩) l.length cap, .iface t0 x0] 178)
  obtain ⟨W0, hW0⟩ : ∃ W0, w.alloc (.cells #[.bool r, .slice (some ⟨g, 0, none⟩) l.length cap, .iface t0 x0] 178) = W0 := ⟨_, rfl⟩
  have hs0 : W0.heap.size = w.heap.size + 1 := by rw [← hW0]; simp
  have HBW : Hid (∀ W : World, Below (w.heap.size + 1) W0 W → Below w.heap.size w W) := hide (fun W hW => by
    have := unhide HBa
    rw [hW0] at this
    exact this.trans (hW.mono (by omega)))
  have HCB : Hid (∀ W : World, Below (w.heap.size + 1) W0 W → W.cell? ⟨w.heap.size, 0, none⟩ = some (.bool r) ∧ W.cell? ⟨w.heap.size, 2, none⟩ = some (.iface t0 x0)) := hide (fun W hW => by
    have := unhide HA
    rw [hW0] at this
    exact ⟨by simpa using (this.below hW (by omega)).cell 0, by simpa using (this.below hW (by omega)).cell 2⟩)
  have HW0 := hide hW0
  have HRA := hide hRA
  have HST := hide hST
  clear h3 h4 h5 h6 h7 hx ht fp fb hr0 hR hRB hRA hST hJ1 hJ2 hJ3 s1 s2 s3 sa sb hl hg0 hzz hne hW0
  go_enter Tryz.func111, Tryz.ntmps111
  go_wp2_with fail
  rw [unhide HW0]
  go_loopg [3, 10] l.length (fun gk v iv wr => ∃ k : Nat, iv = .int .i64 k ∧ k ≤ l.length ∧ l.length - k ≤ gk ∧ wr.ownsRow (w.heap.size + 1) 9 1 v k (strCells (z.take k)) ∧ Below (w.heap.size + 1) W0 wr)
  case atStart => exact ⟨0, rfl, Nat.zero_le _, by omega, World.ownsRow_nil _ _ _ _, Below.refl _ _⟩
  case round =>
    obtain ⟨k, rfl, hk, hgk, hown, hb⟩ := hrel
    have Ho := hide hown
    have Hb := hide hb
    have hsz : w.heap.size + 1 ≤ wr.heap.size := by have := hb.size; omega
    have hbw := unhide HBW wr hb
    by_cases hlt : k < l.length
    · obtain ⟨t, ht⟩ : ∃ t, l[k]? = some t := ⟨l[k], List.getElem?_eq_getElem hlt⟩
      obtain ⟨p, hp⟩ : ∃ p, parts[k]? = some p := ⟨parts[k]'(by have := unhide HN; omega), List.getElem?_eq_getElem (by have := unhide HN; omega)⟩
      obtain ⟨x, hx⟩ : ∃ x, pvs[k]? = some x := ⟨pvs[k]'(by have := unhide HN; omega), List.getElem?_eq_getElem (by have := unhide HN; omega)⟩
      have hrow := unhide CROW wr hbw
      have ci := bindCells_get l pvs k t x ht hx
      have y0 := (hrow.cellAt (k * 3) (by omega)).trans ci.1
      have y1 := (hrow.cellAt (k * 3 + 1) (by omega)).trans ci.2.1
      have y2 := (hrow.cellAt (k * 3 + 2) (by omega)).trans ci.2.2
      have hgl := (hrow.lt g rfl).2
      have zi := unhide ZG k t p ht hp
      have hm := joined_many _ _ (List.mem_of_getElem? zi)
      simp only [Th.bindText, List.length_append, List.length_cons, List.length_nil] at hm
      obtain ⟨⟨xt, xy, rfl⟩, cx⟩ := unhide CX k x p hx hp (by omega)
      have HZ1 := hide (take_snoc_get zi)
      obtain ⟨TS, hTS⟩ : ∃ J : ByteArray, J = ⟨t.s.toArray⟩ := ⟨_, rfl⟩
      obtain ⟨TX, hTX⟩ : ∃ J : ByteArray, J = ⟨(Th.text n p).toArray⟩ := ⟨_, rfl⟩
      obtain ⟨K1, hK1⟩ : ∃ J : ByteArray, J = TS ++ ⟨#[32, 61, 32]⟩ := ⟨_, rfl⟩
      obtain ⟨K2, hK2⟩ : ∃ J : ByteArray, J = K1 ++ TX := ⟨_, rfl⟩
      have HE : Hid ((⟨(Th.bindText t (Th.text n p)).toArray⟩ : ByteArray) = K2) := hide (by
        rw [hK2, hK1, hTS, hTX]
        simp only [bstr_app, Th.bindText])
      have u1 : K1.size = TS.size + 3 := by rw [hK1]; exact ByteArray.size_append
      have u2 : K2.size = K1.size + TX.size := by rw [hK2]; exact ByteArray.size_append
      have ut : TS.size = t.s.length := by rw [hTS]; exact bsize _
      have ux : TX.size = (Th.text n p).length := by rw [hTX]; exact bsize _
      have d1 := cat_run hK1 (by omega)
      have d2 := cat_run hK2 (by omega)
      rw [← hTS] at y0
      rw [← hTX] at cx
      have hb1 := hb.alloc hsz (.cells #[.string TS, .int .i64 t.at_, .iface xt xy] 312)
      have hbw1 := unhide HBW _ hb1
      have CXX := hide (cx _ hbw1.drew)
      have Hb1 := hide hb1
      have HO1 := hide ((hown.alloc (.cells #[.string TS, .int .i64 t.at_, .iface xt xy] 312)).drew)
      have HC := hide (Blk.new wr [.string TS, .int .i64 t.at_, .iface xt xy] 312)
      have hk0 : (0 : Int) ≤ (k : Int) := by omega
      have hkl : (k : Int) < (l.length : Int) := by omega
      clear hrow ci ht hp hx zi hm cx hTS hTX hK1 hK2 u1 u2 ut ux hb hbw hb1 hbw1 hown
      go_wp2_with fail
      go_region_held3 (fun W => W.cell? ⟨wr.heap.size, 0, none⟩ = some (.string TS) ∧ W.cell? ⟨wr.heap.size, 2, none⟩ = some (.iface xt xy)) (first | go_keep | (refine ⟨?_, ?_⟩ <;> assumption)) (first
        | (refine step_append_lies _ (by rfl) _ _ _ (by rfl) (w.heap.size + 1) 9 i0 _ 1 16 Tryz.underlying38 (unhide HI) (unhide HZ).1 (unhide HZ).2.1 (unhide HZ).2.2 rfl (by omega) _ k (strCells (z.take k)) (by rfl) ((unhide HO2).alloc _) ⟨w2.heap.size, 0, none⟩ 1 1 [.string K2] (by rfl) (by rfl) (World.news_of_block (cs := #[.string K2]) (t := 9) (fr := (0, 0)) (heap_alloc_new w2 _)) (by simp [Value.oneCell']) (by omega) (by unfold maxLen; omega) (by omega) (by simp; omega) (w2.heap.size + 1) (by simp) ?_; intro g6 cap6 w6 hown6 hgrow hat hlt6; have HO6 := hide hown6; have b6 := ((unhide HB2).alloc hs2 (.cells #[.string K2] 9)).grown hgrow (by simp; omega) (fun j hj => (((unhide HO2).alloc (.cells #[.string K2] 9)).lt j hj).1); have HB6 := hide b6; have r0 := cell_gb hgrow (cell_gb (gb_alloc w2 (.cells #[.string K2] 9) none) e0 (by simp)) (fun h => absurd ((unhide Ho).lt _ h.symm).2 (Nat.lt_irrefl _)); have r2 := cell_gb hgrow (cell_gb (gb_alloc w2 (.cells #[.string K2] 9) none) e2 (by simp)) (fun h => absurd ((unhide Ho).lt _ h.symm).2 (Nat.lt_irrefl _)); clear b6 hown6)
        | (go_at_call 64; refine (unhide CXX).mono ?_; rintro en w2 ⟨rfl, b2⟩; have HO2 := hide ((unhide HO1).kept (gb_below none b2) (own_none _)); have HB2 := hide ((unhide Hb1).drew.trans (b2.mono (by simp; omega))); have hs2 : w.heap.size + 1 ≤ w2.heap.size := (by have := b2.size; simp at this; omega); have HC2 := (unhide HC).drew.below b2 (by simp); have e0 := HC2.cell 0; have e2 := HC2.cell 2; simp at e0 e2; clear b2 HC2))
      all_goals
        go_wp2_with fail
        go_roundg (l.length - (k + 1))
        case measure => omega
        case rel =>
          refine ⟨k + 1, by go_num, by omega, Nat.le_refl _, ?_, unhide HB6⟩
          rw [unhide HZ1, strCells_snoc, unhide HE]
          exact unhide HO6
    · have hkz : k = z.length := by omega
      have ho := hown
      rw [show z.take k = z from by rw [hkz]; exact List.take_of_length_le (Nat.le_refl _)] at ho
      rw [hkz] at ho
      have CJ := hide (fun (W : World) (hW : Below wr.heap.size wr W) => join_any (ho.kept (gb_below none hW) (own_none _)) hzn (by omega) hjl)
      rw [← unhide HRA] at CJ
      obtain ⟨f0, f2⟩ := unhide HCB wr hb
      have HCW := hide (fun (W : World) (hW : Below wr.heap.size wr W) => (unhide HCB W (hb.trans (hW.mono hsz))).2)
      have CBW := hide (fun (W : World) (hW : Below wr.heap.size wr W) => unhide CB W (hbw.trans (hW.mono (by omega))))
      have Hbw := hide hbw
      have hswr : w.heap.size ≤ wr.heap.size := by omega
      clear hown hb ho hkz hbw
      cases r with
      | false =>
        have hS : ST = ⟨#[108, 101, 116, 32]⟩ := by rw [unhide HST]; rfl
        subst hS
        go_wp2_with fail
        go_region_held3 (fun W => W.cell? ⟨w.heap.size, 2, none⟩ = some (.iface t0 x0)) (go_keep) (first
          | (go_at_call 184; refine (unhide CJ _ ?_).mono ?_; exact (Below.refl _ _).drew; rintro e3 w3 ⟨rfl, b3⟩; have b3' : Below wr.heap.size wr w3 := (Below.refl _ _).drew.trans (b3.mono (Nat.le_refl _)); have HB3 := hide b3'; have a3 := unhide HCW w3 b3'; have hs3 := b3'.size; clear b3 b3')
          | (go_at_call 64; refine (unhide CBW _ ?_).mono ?_; exact unhide HB3; rintro e4 w4 ⟨rfl, b4⟩; have b4' := (unhide HB3).trans (b4.mono hs3); have HB4 := hide b4'; have a4 := unhide HCW w4 b4'; clear b4 b4'))
        all_goals
          go_wp2_with fail
          go_ret
          exact ⟨rfl, (unhide Hbw).trans ((unhide HB4).mono hswr)⟩
      | true =>
        have hS : ST = ⟨#[108, 101, 116, 32, 114, 101, 99, 32]⟩ := by rw [unhide HST]; rfl
        subst hS
        go_wp2_with fail
        go_region_held3 (fun W => W.cell? ⟨w.heap.size, 2, none⟩ = some (.iface t0 x0)) (go_keep) (first
          | (go_at_call 184; refine (unhide CJ _ ?_).mono ?_; exact (Below.refl _ _).drew; rintro e3 w3 ⟨rfl, b3⟩; have b3' : Below wr.heap.size wr w3 := (Below.refl _ _).drew.trans (b3.mono (Nat.le_refl _)); have HB3 := hide b3'; have a3 := unhide HCW w3 b3'; have hs3 := b3'.size; clear b3 b3')
          | (go_at_call 64; refine (unhide CBW _ ?_).mono ?_; exact unhide HB3; rintro e4 w4 ⟨rfl, b4⟩; have b4' := (unhide HB3).trans (b4.mono hs3); have HB4 := hide b4'; have a4 := unhide HCW w4 b4'; clear b4 b4'))
        all_goals
          go_wp2_with fail
          go_ret
          exact ⟨rfl, (unhide Hbw).trans ((unhide HB4).mono hswr)⟩

end Go.Proofs.YtgahgkddaljmkaaGreatDoor

namespace Go.Proofs.YtgahgkddaljmkaaGreatDoor
open Go.RowKit
attribute [local go_sem ↓] Go.wp_at_zero Go.wp_at_succ

set_option maxRecDepth 100000 in
set_option maxHeartbeats 4000000 in
theorem armBody_core {w : World} {t : TypeId} {x : Value} {X P : ByteArray} {en last : Bool}
    (hN : ∀ W, Below w.heap.size w W → Calls Tryz.prog 240 #[.iface t x] W fun r w' => r = .returned (.bool en) ∧ Below W.heap.size W w')
    (hE : ∀ W, Below w.heap.size w W → Calls Tryz.prog 64 #[.iface t x] W fun r w' => r = .returned (.string X) ∧ Below W.heap.size W w')
    (hP : ∀ W, Below w.heap.size w W → Calls Tryz.prog 182 #[.iface t x] W fun r w' => r = .returned (.string P) ∧ Below W.heap.size W w') :
    Calls Tryz.prog 185 #[.iface t x, .bool last] w fun r w' => r = .returned (.string (if !last && en then P else X)) ∧ Below w.heap.size w w' := by
  have CN := hide hN
  have CE := hide hE
  have CP := hide hP
  clear hN hE hP
  cases last with
  | true =>
    simp only [Bool.not_true, Bool.false_and, Bool.false_eq_true, if_false]
    go_enter Tryz.func185, Tryz.ntmps185
    go_wp2_with fail
    refine (unhide CE _ (Below.refl _ _)).mono ?_
    rintro en w1 ⟨rfl, b1⟩
    have HB1 := hide b1
    clear b1
    go_wp2_with fail
    go_ret
    exact ⟨rfl, unhide HB1⟩
  | false =>
    cases en with
    | false =>
      simp only [Bool.not_false, Bool.true_and, Bool.false_eq_true, if_false]
      go_enter Tryz.func185, Tryz.ntmps185
      go_wp2_with fail
      refine (unhide CN _ (Below.refl _ _)).mono ?_
      rintro en w1 ⟨rfl, b1⟩
      have HB1 := hide b1
      clear b1
      go_wp2_with fail
      refine (unhide CE _ (unhide HB1)).mono ?_
      rintro en w2 ⟨rfl, b2⟩
      have HB2 := hide ((unhide HB1).trans (b2.mono (unhide HB1).size))
      clear b2
      go_wp2_with fail
      go_ret
      exact ⟨rfl, unhide HB2⟩
    | true =>
      simp only [Bool.not_false, Bool.true_and, if_true]
      go_enter Tryz.func185, Tryz.ntmps185
      go_wp2_with fail
      refine (unhide CN _ (Below.refl _ _)).mono ?_
      rintro en w1 ⟨rfl, b1⟩
      have HB1 := hide b1
      clear b1
      go_wp2_with fail
      refine (unhide CP _ (unhide HB1)).mono ?_
      rintro en w2 ⟨rfl, b2⟩
      have HB2 := hide ((unhide HB1).trans (b2.mono (unhide HB1).size))
      clear b2
      go_wp2_with fail
      go_ret
      exact ⟨rfl, unhide HB2⟩

theorem armBody_any {n : Nat} (hx : PxOK n) {w : World} {S : Nat → Prop} {v : Value} {e : Th.Ex} {last : Bool} (ht : Tab w) (h : Rep S w n v e) (hw : Th.Wf n e) (hl : (Th.text n e).length ≤ 999998) :
    Calls Tryz.prog 185 #[v, .bool last] w fun r w' => r = .returned (.string ⟨(Th.armBody (Th.ends n e) last (Th.text n e)).toArray⟩) ∧ Below w.heap.size w w' := by
  obtain ⟨t, x, rfl⟩ := rep_iface h
  have := armBody_core (last := last) (fun (W : World) (hW : Below w.heap.size w W) => pends_any n (h.gb (gb_below none hW) (by simp))) (fun (W : World) (hW : Below w.heap.size w W) => hx W S _ e (ht.below hW) (h.gb (gb_below none hW) (by simp)) hw (by omega)) (fun (W : World) (hW : Below w.heap.size w W) => paren_any hx (ht.below hW) (h.gb (gb_below none hW) (by simp)) hw hl)
  have e1 : (⟨(Th.armBody (Th.ends n e) last (Th.text n e)).toArray⟩ : ByteArray) = if (!last && Th.ends n e) = true then ⟨(Th.paren (Th.text n e)).toArray⟩ else ⟨(Th.text n e).toArray⟩ := by
    unfold Th.armBody
    split <;> rfl
  rw [e1]
  exact this

set_option maxRecDepth 100000 in
set_option maxHeartbeats 8000000 in
theorem parms_any {n : Nat} (hx : PxOK n) {w : World} {S : Nat → Prop} {sv : Value} {arms : List (Nat × List Th.Tok)} {bodies : List Th.Ex} {nvs bvs : List Value} (ht : Tab w)
    (h3 : bodies.length = arms.length) (h4 : nvs.length = arms.length) (h5 : bvs.length = arms.length) (h6 : Row S w 240 3 sv arms.length (armCells arms nvs bvs)) (h7 : ∀ (i : Nat) (a : Nat × List Th.Tok) (nv : Value), arms[i]? = some a → nvs[i]? = some nv → Row S w 88 2 nv a.2.length (namesCells a.2))
    (h8 : ∀ (i : Nat) (bv : Value) (p : Th.Ex), bvs[i]? = some bv → bodies[i]? = some p → Rep S w n bv p)
    (hne : arms ≠ []) (hll : arms.length ≤ 1000000) (hln : ∀ a ∈ arms, a.2.length ≤ 1000000) (fp : ∀ p ∈ bodies, Th.Wf n p) (ft : ∀ a ∈ arms, a.1 ≤ 99) (hl : (Th.joined (Th.armTexts (Th.text n) (Th.ends n) arms bodies)).length ≤ 1000000) :
    Calls Tryz.prog 112 #[sv] w fun en w' => en = .returned (.string ⟨(Th.joined (Th.armTexts (Th.text n) (Th.ends n) arms bodies)).toArray⟩) ∧ Below w.heap.size w w' := by
  obtain ⟨i0, hi, hz0, hz1, hz2⟩ := info_parts infoStr
  have HI := hide hi; clear hi
  have HZ := hide (And.intro hz0 (And.intro hz1 hz2)); clear hz0 hz1 hz2
  have hlp : 0 < arms.length := List.length_pos_iff.2 hne
  obtain ⟨z, hzz⟩ : ∃ z, Th.armTexts (Th.text n) (Th.ends n) arms bodies = z := ⟨_, rfl⟩
  have hzl : z.length = arms.length := by rw [← hzz]; exact Th.armTexts_len _ _ _ _ h3
  have ZG : Hid (∀ (i : Nat) (t : Nat × List Th.Tok) (p : Th.Ex), arms[i]? = some t → bodies[i]? = some p → z[i]? = some (Th.armText t (Th.armBody (Th.ends n p) (decide (i + 1 = arms.length)) (Th.text n p)))) := hide (fun i t p h1 h2 => by rw [← hzz]; exact Th.armTexts_get _ _ _ _ i t p h1 h2)
  rw [hzz] at hl ⊢
  have hzn : z ≠ [] := fun e => by rw [e] at hzl; simp at hzl; omega
  have hsn := row_shape h6
  have hr0 : sv ≠ .slice none 0 0 := fun e => by
    rcases h6.1.2 with ⟨_, h0⟩ | ⟨_, _, _, h0, _⟩
    · omega
    · rw [e] at h0; cases h0
  rcases hsn with h | ⟨g, cap, h⟩
  · exact absurd h hr0
  subst h
  have CA : Hid (∀ (k : Nat) (t : Nat × List Th.Tok) (p : Th.Ex) (x y : Value), arms[k]? = some t → bodies[k]? = some p → nvs[k]? = some x → bvs[k]? = some y → (Th.text n p).length ≤ 999998 → (Th.spaced t.2).length ≤ 1000000 → (∃ xa xn xc, x = .slice xa xn xc) ∧ (∃ yt yy, y = .iface yt yy) ∧ t.1 ≤ 99 ∧
      (∀ W : World, Below w.heap.size w W → Calls Tryz.prog 63 #[x] W fun e w' => e = .returned (.string ⟨(Th.spaced t.2).toArray⟩) ∧ Below W.heap.size W w') ∧
      (∀ (last : Bool) (W : World), Below w.heap.size w W → Calls Tryz.prog 185 #[y, .bool last] W fun e w' => e = .returned (.string ⟨(Th.armBody (Th.ends n p) last (Th.text n p)).toArray⟩) ∧ Below W.heap.size W w')) := hide (by
    intro k t p x y q1 q2 q3 q4 q5 q6
    have rn := h7 k t x q1 q3
    have dd := h8 k y p q4 q2
    exact ⟨row_slice rn, rep_iface dd, ft t (List.mem_of_getElem? q1), fun W hW => pspaced_any (rn.gb (gb_below none hW) (by simp)) (hln t (List.mem_of_getElem? q1)) q6, fun last W hW => armBody_any hx (ht.below hW) (dd.gb (gb_below none hW) (by simp)) (fp p (List.mem_of_getElem? q2)) q5⟩)
  have CROW := hide (fun (W : World) (hW : Below w.heap.size w W) => h6.1.kept (gb_below none hW) (own_none _))
  have HN := hide (And.intro h3 (And.intro h4 h5))
  clear h3 h4 h5 h6 h7 h8 hx ht fp ft hr0 hne hln hzz
  go_enter Tryz.func112, Tryz.ntmps112
  go_wp2_with fail
  go_loopg [3, 9] arms.length (fun gk v iv wr => ∃ k : Nat, iv = .int .i64 k ∧ k ≤ arms.length ∧ arms.length - k ≤ gk ∧ wr.ownsRow w.heap.size 9 1 v k (strCells (z.take k)) ∧ Below w.heap.size w wr)
  case atStart => exact ⟨0, rfl, Nat.zero_le _, by omega, World.ownsRow_nil _ _ _ _, Below.refl _ _⟩
  case round =>
    obtain ⟨k, rfl, hk, hgk, hown, hb⟩ := hrel
    have Ho := hide hown
    have Hb := hide hb
    have hsz : w.heap.size ≤ wr.heap.size := hb.size
    by_cases hlt : k < arms.length
    · obtain ⟨t, ht⟩ : ∃ t, arms[k]? = some t := ⟨arms[k], List.getElem?_eq_getElem hlt⟩
      obtain ⟨p, hp⟩ : ∃ p, bodies[k]? = some p := ⟨bodies[k]'(by have := unhide HN; omega), List.getElem?_eq_getElem (by have := unhide HN; omega)⟩
      obtain ⟨xx, hxx⟩ : ∃ x, nvs[k]? = some x := ⟨nvs[k]'(by have := unhide HN; omega), List.getElem?_eq_getElem (by have := unhide HN; omega)⟩
      obtain ⟨yy, hyy⟩ : ∃ x, bvs[k]? = some x := ⟨bvs[k]'(by have := unhide HN; omega), List.getElem?_eq_getElem (by have := unhide HN; omega)⟩
      have hrow := unhide CROW wr hb
      have ci := armCells_get arms nvs bvs k t xx yy ht hxx hyy
      have y0 := (hrow.cellAt (k * 3) (by omega)).trans ci.1
      have y1 := (hrow.cellAt (k * 3 + 1) (by omega)).trans ci.2.1
      have y2 := (hrow.cellAt (k * 3 + 2) (by omega)).trans ci.2.2
      have hgl := (hrow.lt g rfl).2
      have zi := unhide ZG k t p ht hp
      have hm := joined_many _ _ (List.mem_of_getElem? zi)
      have hab : (Th.text n p).length ≤ (Th.armBody (Th.ends n p) (decide (k + 1 = arms.length)) (Th.text n p)).length := by
        unfold Th.armBody
        split
        · simp [Th.paren]; omega
        · exact Nat.le_refl _
      simp only [Th.armText, List.length_append, List.length_cons, List.length_nil] at hm
      obtain ⟨⟨xa, xn, xc, rfl⟩, ⟨yt, y', rfl⟩, ht9, cs, cb⟩ := unhide CA k t p xx yy ht hp hxx hyy (by omega) (by omega)
      have HZ1 := hide (take_snoc_get zi)
      obtain ⟨lb, hlb⟩ : ∃ lb, decide (k + 1 = arms.length) = lb := ⟨_, rfl⟩
      have cb := cb lb
      rw [hlb] at hm HZ1
      obtain ⟨DG, hDG⟩ : ∃ J : ByteArray, J = ⟨(Lib.decDigits t.1).toArray⟩ := ⟨_, rfl⟩
      obtain ⟨SP, hSP⟩ : ∃ J : ByteArray, J = ⟨(Th.spaced t.2).toArray⟩ := ⟨_, rfl⟩
      obtain ⟨BD, hBD⟩ : ∃ J : ByteArray, J = ⟨(Th.armBody (Th.ends n p) lb (Th.text n p)).toArray⟩ := ⟨_, rfl⟩
      obtain ⟨K1, hK1⟩ : ∃ J : ByteArray, J = ⟨#[60]⟩ ++ DG := ⟨_, rfl⟩
      obtain ⟨K2, hK2⟩ : ∃ J : ByteArray, J = K1 ++ ⟨#[62]⟩ := ⟨_, rfl⟩
      obtain ⟨K3, hK3⟩ : ∃ J : ByteArray, J = K2 ++ SP := ⟨_, rfl⟩
      obtain ⟨K4, hK4⟩ : ∃ J : ByteArray, J = K3 ++ ⟨#[32, 45, 62, 32]⟩ := ⟨_, rfl⟩
      obtain ⟨K5, hK5⟩ : ∃ J : ByteArray, J = K4 ++ BD := ⟨_, rfl⟩
      have HE : Hid ((⟨(Th.armText t (Th.armBody (Th.ends n p) lb (Th.text n p))).toArray⟩ : ByteArray) = K5) := hide (by
        rw [hK5, hK4, hK3, hK2, hK1, hDG, hSP, hBD]
        simp only [bstr_app, Th.armText])
      have u5 : K5.size = K4.size + BD.size := by rw [hK5]; exact ByteArray.size_append
      have u4 : K4.size = K3.size + 4 := by rw [hK4]; exact ByteArray.size_append
      have u3 : K3.size = K2.size + SP.size := by rw [hK3]; exact ByteArray.size_append
      have u2 : K2.size = K1.size + 1 := by rw [hK2]; exact ByteArray.size_append
      have u6 : K5.size ≤ 1000000 := by
        have h1 := congrArg ByteArray.size (unhide HE)
        rw [bsize] at h1
        simp only [Th.armText, List.length_append, List.length_cons, List.length_nil] at h1
        omega
      have d1 := cat_run hK1 (by omega)
      have d2 := cat_run hK2 (by omega)
      have d3 := cat_run hK3 (by omega)
      have d4 := cat_run hK4 (by omega)
      have d5 := cat_run hK5 (by omega)
      have IT : Hid (∀ W : World, Calls Tryz.prog 101 #[.int .i64 (t.1 : Int)] W fun e w' => e = .returned (.string DG) ∧ w' = W) := hide (fun W => by rw [hDG]; exact Tryz.strconv_Itoa_small t.1 (by omega) W)
      rw [← hSP] at cs
      rw [← hBD] at cb
      have hb1 := hb.alloc hsz (.cells #[.int .i64 t.1, .slice xa xn xc, .iface yt y'] 240)
      have CS := hide cs
      have CBB := hide cb
      have Hb1 := hide hb1
      have HO1 := hide ((hown.alloc (.cells #[.int .i64 t.1, .slice xa xn xc, .iface yt y'] 240)).drew)
      have HC := hide (Blk.new wr [.int .i64 t.1, .slice xa xn xc, .iface yt y'] 240)
      have hk0 : (0 : Int) ≤ (k : Int) := by omega
      have hkl : (k : Int) < (arms.length : Int) := by omega
      have hlast : ((k : Int) == (arms.length : Int) - 1) = lb := by
        rw [← hlb, Bool.eq_iff_iff]
        simp
        omega
      clear hrow ci ht hp hxx hyy zi hm cs cb hDG hSP hBD hK1 hK2 hK3 hK4 hK5 u2 u3 u4 u5 u6 hb hb1 hown hab hlb
      go_wp2_with fail
      go_region_held3 (fun W => W.cell? ⟨wr.heap.size, 0, none⟩ = some (.int .i64 t.1) ∧ W.cell? ⟨wr.heap.size, 1, none⟩ = some (.slice xa xn xc) ∧ W.cell? ⟨wr.heap.size, 2, none⟩ = some (.iface yt y')) (first | go_keep | (refine ⟨?_, ?_, ?_⟩ <;> assumption)) (first
        | (refine step_append_lies _ (by rfl) _ _ _ (by rfl) w.heap.size 9 i0 _ 1 16 Tryz.underlying38 (unhide HI) (unhide HZ).1 (unhide HZ).2.1 (unhide HZ).2.2 rfl (by omega) _ k (strCells (z.take k)) (by rfl) ((unhide HO3).alloc _) ⟨w3.heap.size, 0, none⟩ 1 1 [.string K5] (by rfl) (by rfl) (World.news_of_block (cs := #[.string K5]) (t := 9) (fr := (0, 0)) (heap_alloc_new w3 _)) (by simp [Value.oneCell']) (by omega) (by unfold maxLen; omega) (by omega) (by simp; omega) (w3.heap.size + 1) (by simp) ?_; intro g6 cap6 w6 hown6 hgrow hat hlt6; have HO6 := hide hown6; have b6 := ((unhide HB3).alloc hs3 (.cells #[.string K5] 9)).grown hgrow (by simp; omega) (fun j hj => (((unhide HO3).alloc (.cells #[.string K5] 9)).lt j hj).1); have HB6 := hide b6; have r0 := cell_gb hgrow (cell_gb (gb_alloc w3 (.cells #[.string K5] 9) none) f0 (by simp)) (fun h => absurd ((unhide Ho).lt _ h.symm).2 (Nat.lt_irrefl _)); have r1 := cell_gb hgrow (cell_gb (gb_alloc w3 (.cells #[.string K5] 9) none) f1 (by simp)) (fun h => absurd ((unhide Ho).lt _ h.symm).2 (Nat.lt_irrefl _)); have r2 := cell_gb hgrow (cell_gb (gb_alloc w3 (.cells #[.string K5] 9) none) f2 (by simp)) (fun h => absurd ((unhide Ho).lt _ h.symm).2 (Nat.lt_irrefl _)); clear b6 hown6)
        | (go_at_call 101; refine (unhide IT _).mono ?_; rintro en w1 ⟨rfl, rfl⟩)
        | (go_at_call 63; refine (unhide CS _ ?_).mono ?_; exact (unhide Hb1).drew; rintro en w2 ⟨rfl, b2⟩; have HO2 := hide ((unhide HO1).kept (gb_below none b2) (own_none _)); have b2' := (unhide Hb1).drew.trans (b2.mono (unhide Hb1).size); have HB2 := hide b2'; have hs2 := b2'.size; have hc2 := (unhide HC).drew.below b2 (by simp); have HC2 := hide hc2; have e0 := hc2.cell 0; have e1 := hc2.cell 1; have e2 := hc2.cell 2; simp at e0 e1 e2; clear b2 b2' hc2)
        | (go_at_call 185; refine (unhide CBB _ ?_).mono ?_; exact unhide HB2; rintro en w3 ⟨rfl, b3⟩; have HO3 := hide ((unhide HO2).kept (gb_below none b3) (own_none _)); have b3' := (unhide HB2).trans (b3.mono hs2); have HB3 := hide b3'; have hs3 := b3'.size; have hc3 := (unhide HC2).below b3 (unhide HC2).lt; have f0 := hc3.cell 0; have f1 := hc3.cell 1; have f2 := hc3.cell 2; simp at f0 f1 f2; clear b3 b3' hc3))
      all_goals
        go_wp2_with fail
        go_roundg (arms.length - (k + 1))
        case measure => omega
        case rel =>
          refine ⟨k + 1, by go_num, by omega, Nat.le_refl _, ?_, unhide HB6⟩
          rw [unhide HZ1, strCells_snoc, unhide HE]
          exact unhide HO6
    · have hkz : k = z.length := by omega
      have ho := hown
      rw [show z.take k = z from by rw [hkz]; exact List.take_of_length_le (Nat.le_refl _)] at ho
      rw [hkz] at ho
      have CJ := hide (join_any ho hzn (by omega) (by omega))
      clear hown hb ho hkz
      go_wp2_with fail
      refine (unhide CJ).mono ?_
      rintro en w2 ⟨rfl, b2⟩
      have HB2 := hide ((unhide Hb).trans (b2.mono hsz))
      clear b2
      go_wp2_with fail
      go_ret
      exact ⟨rfl, unhide HB2⟩

end Go.Proofs.YtgahgkddaljmkaaGreatDoor

namespace Go.Proofs.YtgahgkddaljmkaaGreatDoor
open Go.RowKit
attribute [local go_sem ↓] Go.wp_at_zero Go.wp_at_succ

set_option maxRecDepth 100000 in
set_option maxHeartbeats 4000000 in
theorem pexpr_let {w : World} {r : Bool} {sv bv : Value} {R : ByteArray} (h1 : ∃ x k c, sv = .slice x k c) (h2 : ∃ t x, bv = .iface t x)
    (hO : ∀ W, Below w.heap.size w W → Calls Tryz.prog 111 #[.agg #[.bool r, sv, bv]] W fun r w' => r = .returned (.string R) ∧ Below W.heap.size W w') :
    Calls Tryz.prog 64 #[.iface 178 (.agg #[.bool r, sv, bv])] w fun r w' => r = .returned (.string R) ∧ Below w.heap.size w w' := by
  obtain ⟨x1, k1, c1, rfl⟩ := h1
  obtain ⟨t2, x2, rfl⟩ := h2
  have g1 := tt_Let_Use
  have g2 := tt_Let_Number
  have g3 := tt_Let_Maker
  have g4 := tt_Let_Call
  have g5 := tt_Let_Operation
  have g6 := tt_Let_Let
  have C1 := hide hO
  have HBa := hide (below_alloc w (.cells #[.bool r, .slice x1 k1 c1, .iface t2 x2] 178))
  clear hO
  go_enter Tryz.func64, Tryz.ntmps64
  go_wp2_with fail
  refine (unhide C1 _ (unhide HBa)).mono ?_
  rintro en w1 ⟨rfl, b1⟩
  have HB1 := hide ((unhide HBa).trans (b1.mono (unhide HBa).size))
  clear b1
  go_wp2_with fail
  go_ret
  exact ⟨rfl, unhide HB1⟩

set_option maxRecDepth 100000 in
set_option maxHeartbeats 4000000 in
theorem pexpr_case {n : Nat} (hx : PxOK n) {w : World} {S : Nat → Prop} {cv sv : Value} {e1 : Th.Ex} {R RA RB : ByteArray} (hRA : RA = ⟨(Th.text n e1).toArray⟩) (hR : R = ⟨#[99, 97, 115, 101, 32]⟩ ++ RA ++ ⟨#[32, 111, 102, 32]⟩ ++ RB) (ht : Tab w) (hsv : ∃ x k c, sv = .slice x k c)
    (hb : ∀ W, Below w.heap.size w W → Calls Tryz.prog 112 #[sv] W fun r w' => r = .returned (.string RB) ∧ Below W.heap.size W w')
    (d1 : Rep S w n cv e1) (f1 : Th.Wf n e1) (hl : R.size ≤ 1000000) :
    Calls Tryz.prog 64 #[.iface 173 (.agg #[cv, sv])] w fun r w' => r = .returned (.string R) ∧ Below w.heap.size w w' := by
  obtain ⟨t1, x1, rfl⟩ := rep_iface d1
  obtain ⟨sx, sk, sc, rfl⟩ := hsv
  have g1 := tt_Case_Use
  have g2 := tt_Case_Number
  have g3 := tt_Case_Maker
  have g4 := tt_Case_Call
  have g5 := tt_Case_Operation
  have g6 := tt_Case_Let
  have g7 := tt_Case_Case
  obtain ⟨J1, hJ1⟩ : ∃ J : ByteArray, J = ⟨#[99, 97, 115, 101, 32]⟩ ++ RA := ⟨_, rfl⟩
  obtain ⟨J2, hJ2⟩ : ∃ J, J = J1 ++ ⟨#[32, 111, 102, 32]⟩ := ⟨_, rfl⟩
  have hJ4 : R = J2 ++ RB := by rw [hR, hJ2, hJ1]
  have s4 : R.size = J2.size + RB.size := by rw [hJ4]; exact ByteArray.size_append
  have s2 : J2.size = J1.size + 4 := by rw [hJ2]; exact ByteArray.size_append
  have s1 : J1.size = 5 + RA.size := by rw [hJ1]; exact ByteArray.size_append
  have sb : RA.size = (Th.text n e1).length := by rw [hRA]; exact bsize _
  have q1 := cat_run hJ1 (by omega)
  have q2 := cat_run hJ2 (by omega)
  have q4 := cat_run hJ4 (by omega)
  have C1 := hide hb
  have C2 := hide (fun (W : World) (hW : Below w.heap.size w W) => hx W S _ e1 (ht.below hW) (d1.gb (gb_below none hW) (by simp)) f1 (by omega))
  rw [← hRA] at C2
  have HBa := hide (below_alloc w (.cells #[.iface t1 x1, .slice sx sk sc] 173))
  have HA2 := hide (Blk.new w [.iface t1 x1, .slice sx sk sc] 173)
  have CE : Hid (∀ W : World, Below (w.heap.size + 1) (w.alloc (.cells #[.iface t1 x1, .slice sx sk sc] 173)) W → W.cell? ⟨w.heap.size, 0, none⟩ = some (.iface t1 x1) ∧ W.cell? ⟨w.heap.size, 1, none⟩ = some (.slice sx sk sc)) := hide (fun W hW => ⟨by simpa using ((unhide HA2).below hW (by omega)).cell 0, by simpa using ((unhide HA2).below hW (by omega)).cell 1⟩)
  clear d1 f1 hx hR ht hJ1 hJ2 hJ4 s1 s2 s4 sb hRA hl hb
  go_enter Tryz.func64, Tryz.ntmps64
  go_wp2_with fail
  go_region_held3 (fun W => W.cell? ⟨w.heap.size, 0, none⟩ = some (.iface t1 x1) ∧ W.cell? ⟨w.heap.size, 1, none⟩ = some (.slice sx sk sc)) (go_keep) (first
    | (go_at_call 64; refine (unhide C2 _ ?_).mono ?_; exact (unhide HBa).drew; rintro en w1 ⟨rfl, b1⟩; have b1' : Below w.heap.size w w1 := (unhide HBa).drew.trans (b1.mono (unhide HBa).size); have HB1 := hide b1'; have q1' : Below (w.heap.size + 1) (w.alloc (.cells #[.iface t1 x1, .slice sx sk sc] 173)) w1 := (Below.refl _ _).drew.trans (b1.mono (by simp)); have HQ1 := hide q1'; obtain ⟨j0, j1⟩ := unhide CE w1 q1'; have hs1 := b1'.size; have hq1 : w.heap.size + 1 ≤ w1.heap.size := (Nat.le_trans (Nat.le_of_eq (World.size_alloc' _ _).symm) b1.size); clear b1 b1' q1')
    | (go_at_call 112; refine (unhide C1 _ ?_).mono ?_; exact unhide HB1; rintro en w2 ⟨rfl, b2⟩; have b2' := (unhide HB1).trans (b2.mono hs1); have HB2 := hide b2'; have q2' := (unhide HQ1).trans (b2.mono hq1); obtain ⟨m0, m1⟩ := unhide CE w2 q2'; clear b2 b2' q2'))
  all_goals
    go_wp2_with fail
    go_ret
    exact ⟨rfl, unhide HB2⟩

theorem pexpr_any : ∀ n, PxOK n
  | 0 => fun _ _ _ _ _ h => h.elim
  | n + 1 => by
    have ih := pexpr_any n
    intro w S v e ht h hw hl
    rcases hw with ⟨hk, hn⟩ | hk | ⟨hk, ht9, ha9⟩ | ⟨hk, hne, b, hkid, fb⟩ | ⟨hk, b1, b2, hkid, fb1, fb2⟩ | ⟨hk, hs6, b1, b2, hkid, fb1, fb2⟩ | ⟨hk, hne, b, parts, hkid, hpl, fps, fb⟩ | ⟨hk, hne, ha99, b, bodies, hkid, hbl, fps, fb⟩
    · rcases h with ⟨_, rfl⟩ | ⟨h, _⟩ | ⟨h, _⟩ | ⟨h, _⟩ | ⟨h, _⟩ | ⟨h, _⟩ | ⟨h, _⟩ | ⟨h, _⟩
      · have e1 : Th.text (n + 1) e = Lib.itoa e.n := by simp [Th.text, hk]
        rw [e1]
        exact pexpr_number ht hn
      all_goals omega
    · rcases h with ⟨h, _⟩ | ⟨_, rfl⟩ | ⟨h, _⟩ | ⟨h, _⟩ | ⟨h, _⟩ | ⟨h, _⟩ | ⟨h, _⟩ | ⟨h, _⟩
      · omega
      · have e1 : Th.text (n + 1) e = e.tok.s := by simp [Th.text, hk]
        rw [e1]
        exact pexpr_use
      all_goals omega
    · rcases h with ⟨h, _⟩ | ⟨h, _⟩ | ⟨_, rfl⟩ | ⟨h, _⟩ | ⟨h, _⟩ | ⟨h, _⟩ | ⟨h, _⟩ | ⟨h, _⟩
      · omega
      · omega
      · have e1 : Th.text (n + 1) e = [123] ++ Lib.decDigits e.tag ++ [44] ++ Lib.decDigits e.arity ++ [125] := by simp [Th.text, hk]
        rw [e1] at hl ⊢
        exact pexpr_maker ht9 ha9 (by simp only [List.length_append, List.length_cons, List.length_nil] at hl; omega)
      all_goals omega
    · rcases h with ⟨h, _⟩ | ⟨h, _⟩ | ⟨h, _⟩ | ⟨_, sv, bv, b', h1, rfl, h3, h4⟩ | ⟨h, _⟩ | ⟨h, _⟩ | ⟨h, _⟩ | ⟨h, _⟩
      · omega
      · omega
      · omega
      · rw [hkid] at h1
        cases h1
        obtain ⟨t, l, hnl⟩ : ∃ t l, e.names = t :: l := by
          cases hh : e.names with
          | nil => exact absurd hh hne
          | cons t l => exact ⟨t, l, rfl⟩
        obtain ⟨r, hr⟩ := Th.spaced_cons t l
        have hA : Th.spaced e.names = 32 :: (t.s ++ r) := by rw [hnl, hr]
        have e1 : Th.text (n + 1) e = [92] ++ (t.s ++ r) ++ [46, 32] ++ Th.text n b := by
          simp [Th.text, hk, hkid, hA]
        have hsl : e.names.length ≤ 1000000 := by
          have h1 := spaced_many e.names
          have h2 := congrArg List.length e1
          rw [hA] at h1
          simp only [List.length_append, List.length_cons, List.length_nil] at h1 h2
          omega
        have hR : (⟨(Th.text (n + 1) e).toArray⟩ : ByteArray) = ⟨#[92]⟩ ++ ⟨(t.s ++ r).toArray⟩ ++ ⟨#[46, 32]⟩ ++ ⟨(Th.text n b).toArray⟩ := by rw [e1]; simp only [← bstr_app]
        exact pexpr_fun ih rfl hR hA rfl ht h4 h3 hsl fb (by rw [bsize]; exact hl)
      all_goals omega
    · rcases h with ⟨h, _⟩ | ⟨h, _⟩ | ⟨h, _⟩ | ⟨h, _⟩ | ⟨_, v1, v2, e1, e2, h1, rfl, h3, h4⟩ | ⟨h, _⟩ | ⟨h, _⟩ | ⟨h, _⟩
      · omega
      · omega
      · omega
      · omega
      · rw [hkid] at h1
        cases h1
        have e1 : Th.text (n + 1) e = Th.within b1 4 (Th.text n b1) ++ [32] ++ Th.within b2 5 (Th.text n b2) := by simp [Th.text, hk, hkid]
        have hR : (⟨(Th.text (n + 1) e).toArray⟩ : ByteArray) = ⟨(Th.within b1 4 (Th.text n b1)).toArray⟩ ++ ⟨#[32]⟩ ++ ⟨(Th.within b2 5 (Th.text n b2)).toArray⟩ := by rw [e1]; simp only [← bstr_app]
        have hb9 : (Th.within b1 4 (Th.text n b1)).length + (Th.within b2 5 (Th.text n b2)).length ≤ 999999 := by rw [e1] at hl; simp only [List.length_append, List.length_cons, List.length_nil] at hl; omega
        exact pexpr_call ih hR rfl rfl ht h3 h4 fb1 fb2 hb9
      all_goals omega
    · rcases h with ⟨h, _⟩ | ⟨h, _⟩ | ⟨h, _⟩ | ⟨h, _⟩ | ⟨h, _⟩ | ⟨_, v1, v2, e1, e2, h1, rfl, h3, h4⟩ | ⟨h, _⟩ | ⟨h, _⟩
      · omega
      · omega
      · omega
      · omega
      · omega
      · rw [hkid] at h1
        cases h1
        have e1 : Th.text (n + 1) e = Th.within b1 (max (Th.level e) 2) (Th.text n b1) ++ [32] ++ e.tok.s ++ [32] ++ Th.within b2 (Th.level e + 1) (Th.text n b2) := by simp [Th.text, hk, hkid]
        have hlv : Th.level e = if e.tok.s = [42] ∨ e.tok.s = [47] then 3 else if e.tok.s = [43] ∨ e.tok.s = [45] then 2 else 1 := by
          rw [Th.level, if_neg (by omega), if_pos hk]
        have hT := fun W => level_Operation hs6 (rep_iface h3) (rep_iface h4) W
        rw [← hlv] at hT
        have hR : (⟨(Th.text (n + 1) e).toArray⟩ : ByteArray) = ⟨(Th.within b1 (max (Th.level e) 2) (Th.text n b1)).toArray⟩ ++ ⟨#[32]⟩ ++ ⟨e.tok.s.toArray⟩ ++ ⟨#[32]⟩ ++ ⟨(Th.within b2 (Th.level e + 1) (Th.text n b2)).toArray⟩ := by rw [e1]; simp only [← bstr_app]
        have hlv3 : Th.level e = 1 ∨ Th.level e = 2 ∨ Th.level e = 3 := by rw [hlv]; split <;> (try split) <;> simp
        have hl' : (⟨(Th.text (n + 1) e).toArray⟩ : ByteArray).size ≤ 1000000 := by rw [bsize]; exact hl
        clear e1 hlv
        generalize Th.level e = L at hT hR hlv3
        refine pexpr_op (rep_iface h3) (rep_iface h4) (fun W hW => ?_)
        rcases hlv3 with rfl | rfl | rfl
        · exact poper1 ih ⟨rfl, rfl⟩ rfl rfl hR rfl rfl (ht.below hW) hT (h3.gb (gb_below none hW) (by simp)) (h4.gb (gb_below none hW) (by simp)) fb1 fb2 hl'
        · exact poper2 ih ⟨rfl, rfl⟩ rfl rfl hR rfl rfl (ht.below hW) hT (h3.gb (gb_below none hW) (by simp)) (h4.gb (gb_below none hW) (by simp)) fb1 fb2 hl'
        · exact poper3 ih ⟨rfl, rfl⟩ rfl rfl hR rfl rfl (ht.below hW) hT (h3.gb (gb_below none hW) (by simp)) (h4.gb (gb_below none hW) (by simp)) fb1 fb2 hl'
      all_goals omega
    · rcases h with ⟨h, _⟩ | ⟨h, _⟩ | ⟨h, _⟩ | ⟨h, _⟩ | ⟨h, _⟩ | ⟨h, _⟩ | ⟨_, sv, bv, b', parts', pvs, h1, rfl, h3, h4, h5, h6, h7⟩ | ⟨h, _⟩
      · omega
      · omega
      · omega
      · omega
      · omega
      · omega
      · rw [hkid] at h1
        cases h1
        have hcount := joined_count (Th.bindTexts (Th.text n) e.names parts)
        rw [Th.bindTexts_len _ _ _ hpl] at hcount
        have e1 : Th.text (n + 1) e = (if (e.kind == 8) = true then [108, 101, 116, 32, 114, 101, 99, 32] else [108, 101, 116, 32]) ++ Th.joined (Th.bindTexts (Th.text n) e.names parts) ++ [32, 105, 110, 32] ++ Th.text n b := by
          rcases hk with hk | hk <;> simp [Th.text, hk, hkid]
        have hlen := congrArg List.length e1
        simp only [List.length_append, List.length_cons, List.length_nil] at hlen
        have hR : (⟨(Th.text (n + 1) e).toArray⟩ : ByteArray) = ⟨(if (e.kind == 8) = true then [108, 101, 116, 32, 114, 101, 99, 32] else [108, 101, 116, 32]).toArray⟩ ++ ⟨(Th.joined (Th.bindTexts (Th.text n) e.names parts)).toArray⟩ ++ ⟨#[32, 105, 110, 32]⟩ ++ ⟨(Th.text n b).toArray⟩ := by
          rw [e1]; simp only [← bstr_app]
        exact pexpr_let (row_slice h5) (rep_iface h7) (fun W hW => plet_any ih (ht.below hW) hpl h4 (h5.gb (gb_below none hW) (by simp)) (fun i pv p a c => (h6 i pv p a c).gb (gb_below none hW) (by simp)) (h7.gb (gb_below none hW) (by simp)) hne (by omega) fps fb rfl rfl rfl hR (by rw [bsize]; exact hl))
      · omega
    · rcases h with ⟨h, _⟩ | ⟨h, _⟩ | ⟨h, _⟩ | ⟨h, _⟩ | ⟨h, _⟩ | ⟨h, _⟩ | ⟨h, _⟩ | ⟨_, cv, sv, b', bodies', nvs, bvs, h1, rfl, h3, h4, h5, h6, h7, h8, h9⟩
      · omega
      · omega
      · omega
      · omega
      · omega
      · omega
      · omega
      · rw [hkid] at h1
        cases h1
        have hcount := joined_count (Th.armTexts (Th.text n) (Th.ends n) e.arms bodies)
        rw [Th.armTexts_len _ _ _ _ hbl] at hcount
        have e1 : Th.text (n + 1) e = [99, 97, 115, 101, 32] ++ Th.text n b ++ [32, 111, 102, 32] ++ Th.joined (Th.armTexts (Th.text n) (Th.ends n) e.arms bodies) := by
          simp [Th.text, hk, hkid]
        have hlen := congrArg List.length e1
        simp only [List.length_append, List.length_cons, List.length_nil] at hlen
        have hnm : ∀ x ∈ e.arms, x.2.length ≤ 1000000 := by
          intro x hx
          obtain ⟨i, hi⟩ := List.mem_iff_getElem?.1 hx
          have hil : i < e.arms.length := (List.getElem?_eq_some_iff.1 hi).1
          have hg := Th.armTexts_get (Th.text n) (Th.ends n) e.arms bodies i x _ hi (List.getElem?_eq_getElem (by omega))
          have hm := joined_many _ _ (List.mem_of_getElem? hg)
          have hs := spaced_many x.2
          simp only [Th.armText, List.length_append] at hm
          omega
        have hR : (⟨(Th.text (n + 1) e).toArray⟩ : ByteArray) = ⟨#[99, 97, 115, 101, 32]⟩ ++ ⟨(Th.text n b).toArray⟩ ++ ⟨#[32, 111, 102, 32]⟩ ++ ⟨(Th.joined (Th.armTexts (Th.text n) (Th.ends n) e.arms bodies)).toArray⟩ := by
          rw [e1]; simp only [← bstr_app]
        exact pexpr_case ih rfl hR ht (row_slice h6) (fun W hW => parms_any ih (ht.below hW) hbl h4 h5 (h6.gb (gb_below none hW) (by simp)) (fun i a x p q => (h7 i a x p q).gb (gb_below none hW) (by simp)) (fun i x p a b => (h8 i x p a b).gb (gb_below none hW) (by simp)) hne (by omega) hnm fps ha99 (by omega)) h9 fb (by rw [bsize]; exact hl)

end Go.Proofs.YtgahgkddaljmkaaGreatDoor
