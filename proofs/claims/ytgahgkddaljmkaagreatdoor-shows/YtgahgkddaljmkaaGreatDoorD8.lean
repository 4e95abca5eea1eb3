/- The document's arms. -/
import Derived.Test.YtgahgkddaljmkaaGreatDoorD7
namespace Go.Proofs.YtgahgkddaljmkaaGreatDoor
open Go.RowKit
attribute [local go_sem ↓] Go.wp_at_zero Go.wp_at_succ

set_option maxRecDepth 100000 in
set_option maxHeartbeats 8000000 in
theorem darms_any {n : Nat} (hx : TxOK n) {w : World} {S : Nat → Prop} {av : Value} {arms : List (Nat × List Th.Tok)} {bodies : List Th.Ex} {nvs bvs : List Value} (ht : Tab w)
    (hp : Row S w 304 3 av arms.length (armCells arms nvs bvs)) (hn1 : nvs.length = arms.length) (hn2 : bvs.length = arms.length) (hn3 : bodies.length = arms.length) (hne : arms ≠ [])
    (dn : ∀ (i : Nat) (a : Nat × List Th.Tok) (x : Value), arms[i]? = some a → nvs[i]? = some x → Row S w 108 4 x a.2.length (dnsCells a.2)) (dp : ∀ (i : Nat) (x : Value) (p : Th.Ex), bvs[i]? = some x → bodies[i]? = some p → DRep S w n x p)
    (fp : ∀ p ∈ bodies, Th.Wf n p) (ft : ∀ a ∈ arms, a.1 ≤ 99) (hll : arms.length ≤ 1000000) (hln : ∀ a ∈ arms, a.2.length ≤ 1000000) (hz : (Th.led (Th.armTexts (Th.text n) (Th.ends n) arms bodies)).length ≤ 1000000) :
    Calls Tryz.prog 105 #[av] w fun e w' => e = .returned (.string ⟨(Th.led (Th.armTexts (Th.text n) (Th.ends n) arms bodies)).toArray⟩) ∧ Below w.heap.size w w' := by
  have hlp : 0 < arms.length := List.length_pos_iff.2 hne
  obtain ⟨z, hzz⟩ : ∃ z, Th.armTexts (Th.text n) (Th.ends n) arms bodies = z := ⟨_, rfl⟩
  have hzl : z.length = arms.length := by rw [← hzz]; exact Th.armTexts_len _ _ _ _ hn3
  have ZG : Hid (∀ (i : Nat) (t : Nat × List Th.Tok) (p : Th.Ex), arms[i]? = some t → bodies[i]? = some p → z[i]? = some (Th.armText t (Th.armBody (Th.ends n p) (decide (i + 1 = arms.length)) (Th.text n p)))) := hide (fun i t p h1 h2 => by rw [← hzz]; exact Th.armTexts_get _ _ _ _ i t p h1 h2)
  rw [hzz] at hz ⊢
  have hsp := row_shape hp
  have hp0 : av ≠ .slice none 0 0 := fun e => by
    rcases hp.1.2 with ⟨_, h0⟩ | ⟨_, _, _, h0, _⟩
    · omega
    · rw [e] at h0; cases h0
  rcases hsp with h' | ⟨pg, pc, h'⟩
  · exact absurd h' hp0
  subst h'
  have CA : Hid (∀ (k : Nat) (t : Nat × List Th.Tok) (p : Th.Ex) (x y : Value), arms[k]? = some t → bodies[k]? = some p → nvs[k]? = some x → bvs[k]? = some y → (Th.text n p).length ≤ 1000000 → (Th.spaced t.2).length ≤ 1000000 → (∃ xa xn xc, x = .slice xa xn xc) ∧ (∃ yp, y = .pointer (some ⟨yp, 0, none⟩)) ∧ t.1 ≤ 99 ∧
      (∀ W : World, Below w.heap.size w W → Calls Tryz.prog 57 #[x] W fun e w' => e = .returned (.string ⟨(Th.spaced t.2).toArray⟩) ∧ Below W.heap.size W w') ∧
      (∀ W : World, Below w.heap.size w W → Calls Tryz.prog 178 #[y] W fun e w' => e = .returned (.bool (Th.ends n p)) ∧ Below W.heap.size W w') ∧
      (∀ W : World, Below w.heap.size w W → Calls Tryz.prog 58 #[y] W fun e w' => e = .returned (.string ⟨(Th.text n p).toArray⟩) ∧ Below W.heap.size W w')) := hide (by
    intro k t p x y h1 h2 h3 h4 h5 h6
    have rn := dn k t x h1 h3
    have dd := dp k y p h4 h2
    exact ⟨row_slice rn, drep_ptr dd, ft t (List.mem_of_getElem? h1), fun W hW => dlist_any (rn.gb (gb_below none hW) (by simp)) (hln t (List.mem_of_getElem? h1)) h6, fun W hW => dends_any n (dd.gb (gb_below none hW) (by simp)), fun W hW => hx W S y p (ht.below hW) (dd.gb (gb_below none hW) (by simp)) (fp p (List.mem_of_getElem? h2)) h5⟩)
  have CROW := hide (fun (W : World) (hW : Below w.heap.size w W) => hp.1.kept (gb_below none hW) (own_none _))
  have HN := hide (And.intro hn1 (And.intro hn2 hn3))
  clear hp hn1 hn2 hn3 hx ht hne dn dp fp ft hln hp0 hzz
  go_enter Tryz.func105, Tryz.ntmps105
  go_wp2_with fail
  go_loopg [3, 4] arms.length (fun gk sv iv wr => ∃ i : Nat, sv = .string ⟨(Th.led (z.take i)).toArray⟩ ∧ iv = .int .i64 i ∧ i ≤ arms.length ∧ arms.length - i ≤ gk ∧ Below w.heap.size w wr)
  case atStart => exact ⟨0, rfl, rfl, Nat.zero_le _, by omega, Below.refl _ _⟩
  case round =>
    obtain ⟨i, rfl, rfl, hi, hgk, hb⟩ := hrel
    have HB := hide hb
    have hzr := hb.size
    have hrow := unhide CROW wr hb
    by_cases hlt : i < arms.length
    · obtain ⟨t, ht⟩ : ∃ t, arms[i]? = some t := ⟨arms[i], List.getElem?_eq_getElem hlt⟩
      obtain ⟨p, hp⟩ : ∃ p, bodies[i]? = some p := ⟨bodies[i]'(by have := unhide HN; omega), List.getElem?_eq_getElem (by have := unhide HN; omega)⟩
      obtain ⟨xx, hxx⟩ : ∃ y, nvs[i]? = some y := ⟨nvs[i]'(by have := unhide HN; omega), List.getElem?_eq_getElem (by have := unhide HN; omega)⟩
      obtain ⟨yy, hyy⟩ : ∃ y, bvs[i]? = some y := ⟨bvs[i]'(by have := unhide HN; omega), List.getElem?_eq_getElem (by have := unhide HN; omega)⟩
      have hc := armCells_get arms nvs bvs i t xx yy ht hxx hyy
      have y0 := (hrow.cellAt (i * 3) (by omega)).trans hc.1
      have y1 := (hrow.cellAt (i * 3 + 1) (by omega)).trans hc.2.1
      have y2 := (hrow.cellAt (i * 3 + 2) (by omega)).trans hc.2.2
      have hpg := (hrow.lt pg rfl).2
      have HS := hide (Th.led_take (unhide ZG i t p ht hp))
      have hle := Th.led_len (l := z) (i + 1)
      rw [unhide HS] at hle
      have hab : (Th.text n p).length ≤ (Th.armBody (Th.ends n p) (decide (i + 1 = arms.length)) (Th.text n p)).length := by
        unfold Th.armBody
        split
        · simp [Th.paren]; omega
        · exact Nat.le_refl _
      obtain ⟨X, hX⟩ : ∃ X, Th.armBody (Th.ends n p) (decide (i + 1 = arms.length)) (Th.text n p) = X := ⟨_, rfl⟩
      rw [hX] at HS hle hab
      simp only [List.length_append, Th.armText, List.length_cons, List.length_nil] at hle
      obtain ⟨⟨xa, xn, xc, rfl⟩, ⟨yp, rfl⟩, ht9, ct, ce, cx⟩ := unhide CA i t p xx yy ht hp hxx hyy (by omega) (by omega)
      have CT := hide ct
      have CEN := hide ce
      have CX := hide cx
      obtain ⟨en, hen⟩ : ∃ en, Th.ends n p = en := ⟨_, rfl⟩
      obtain ⟨TX, hTX⟩ : ∃ J : ByteArray, J = ⟨(Th.text n p).toArray⟩ := ⟨_, rfl⟩
      obtain ⟨SP, hSP⟩ : ∃ J : ByteArray, J = ⟨(Th.spaced t.2).toArray⟩ := ⟨_, rfl⟩
      obtain ⟨DG, hDG⟩ : ∃ J : ByteArray, J = ⟨(Lib.decDigits t.1).toArray⟩ := ⟨_, rfl⟩
      obtain ⟨BD, hBD⟩ : ∃ J : ByteArray, J = ⟨X.toArray⟩ := ⟨_, rfl⟩
      obtain ⟨J0, hJ0⟩ : ∃ J : ByteArray, J = ⟨(Th.led (z.take i)).toArray⟩ := ⟨_, rfl⟩
      obtain ⟨J9, hJ9⟩ : ∃ J : ByteArray, J = ⟨(if i = 0 then [] else [59]).toArray⟩ := ⟨_, rfl⟩
      obtain ⟨J1, hJ1⟩ : ∃ J : ByteArray, J = J0 ++ J9 := ⟨_, rfl⟩
      obtain ⟨J2, hJ2⟩ : ∃ J : ByteArray, J = J1 ++ ⟨#[32, 60]⟩ := ⟨_, rfl⟩
      obtain ⟨J3, hJ3⟩ : ∃ J, J = J2 ++ DG := ⟨_, rfl⟩
      obtain ⟨J4, hJ4⟩ : ∃ J, J = J3 ++ ⟨#[62]⟩ := ⟨_, rfl⟩
      obtain ⟨J5, hJ5⟩ : ∃ J, J = J4 ++ SP := ⟨_, rfl⟩
      obtain ⟨J6, hJ6⟩ : ∃ J, J = J5 ++ ⟨#[32, 45, 62, 32]⟩ := ⟨_, rfl⟩
      obtain ⟨J7, hJ7⟩ : ∃ J, J = J6 ++ BD := ⟨_, rfl⟩
      have HE : Hid ((⟨(Th.led (z.take (i + 1))).toArray⟩ : ByteArray) = J7) := hide (by
        rw [unhide HS, hJ7, hJ6, hJ5, hJ4, hJ3, hJ2, hJ1, hJ9, hJ0, hBD, hDG, hSP]
        simp only [str_app, Th.armText, List.append_assoc]
        rfl)
      have s0 : J0.size = (Th.led (z.take i)).length := by rw [hJ0]; simp [ByteArray.size]
      have st : SP.size = (Th.spaced t.2).length := by rw [hSP]; simp [ByteArray.size]
      have sx : TX.size = (Th.text n p).length := by rw [hTX]; simp [ByteArray.size]
      have sbd : BD.size = X.length := by rw [hBD]; simp [ByteArray.size]
      have s9 : J9.size ≤ 1 := by rw [hJ9]; split <;> simp [ByteArray.size]
      have s1 : J1.size = J0.size + J9.size := by rw [hJ1]; exact ByteArray.size_append
      have s2 : J2.size = J1.size + 2 := by rw [hJ2]; exact ByteArray.size_append
      have s3 : J3.size = J2.size + DG.size := by rw [hJ3]; exact ByteArray.size_append
      have s4 : J4.size = J3.size + 1 := by rw [hJ4]; exact ByteArray.size_append
      have s5 : J5.size = J4.size + SP.size := by rw [hJ5]; exact ByteArray.size_append
      have s6 : J6.size = J5.size + 4 := by rw [hJ6]; exact ByteArray.size_append
      have s7 : J7.size = J6.size + BD.size := by rw [hJ7]; exact ByteArray.size_append
      have hJ7z : J7.size ≤ 1000000 := by
        have := congrArg ByteArray.size (unhide HE)
        rw [← this]
        simp only [ByteArray.size, List.size_toArray]
        exact Nat.le_trans (Th.led_len (l := z) (i + 1)) hz
      have q2 := cat_run hJ2 (by omega)
      have q3 := cat_run hJ3 (by omega)
      have q4 := cat_run hJ4 (by omega)
      have q5 := cat_run hJ5 (by omega)
      have q6 := cat_run hJ6 (by omega)
      have q7 := cat_run hJ7 (by omega)
      have s1z : J1.size ≤ 1000000 := by omega
      have sbz : BD.size ≤ 1000000 := by omega
      have IT : Hid (∀ W : World, Calls Tryz.prog 101 #[.int .i64 (t.1 : Int)] W fun e w' => e = .returned (.string DG) ∧ w' = W) := hide (fun W => by rw [hDG]; exact Tryz.strconv_Itoa_small t.1 (by omega) W)
      have HX : Hid (BD = if (!decide (i + 1 = arms.length) && en) = true then ⟨#[40]⟩ ++ TX ++ ⟨#[41]⟩ else TX) := hide (by
        rw [hBD, ← hX, Th.armBody, hen, hTX]
        split <;> simp only [Th.paren, ← str_app])
      rw [hen] at CEN
      rw [← hTX] at CX
      rw [← hSP] at CT
      rw [← hJ0]
      have hi0 : (0 : Int) ≤ (i : Int) := by omega
      have hil : (i : Int) < (arms.length : Int) := by omega
      have HBa := hide ((unhide HB).trans ((below_alloc wr (.cells #[.int .i64 t.1, .slice xa xn xc, .pointer (some ⟨yp, 0, none⟩)] 304)).mono hzr))
      have HA := hide (Blk.new wr [.int .i64 t.1, .slice xa xn xc, .pointer (some ⟨yp, 0, none⟩)] 304)
      have ACELL : Hid (∀ W : World, Below (wr.alloc (.cells #[.int .i64 t.1, .slice xa xn xc, .pointer (some ⟨yp, 0, none⟩)] 304)).heap.size (wr.alloc (.cells #[.int .i64 t.1, .slice xa xn xc, .pointer (some ⟨yp, 0, none⟩)] 304)) W → W.cell? ⟨wr.heap.size, 0, none⟩ = some (.int .i64 t.1) ∧ W.cell? ⟨wr.heap.size, 1, none⟩ = some (.slice xa xn xc) ∧ W.cell? ⟨wr.heap.size, 2, none⟩ = some (.pointer (some ⟨yp, 0, none⟩))) := hide (fun W hW => ⟨by simpa using ((unhide HA).below hW (by simp)).cell 0, by simpa using ((unhide HA).below hW (by simp)).cell 1, by simpa using ((unhide HA).below hW (by simp)).cell 2⟩)
      clear hrow ht hp hxx hyy hc ct ce cx hb hX hen hTX hSP hDG hBD s2 s3 s4 s5 s6 s7 hJ2 hJ3 hJ4 hJ5 hJ6 hJ7 hJ7z hJ0 st sx sbd HS hab hle
      go_wp2_with fail
      refine (unhide CX _ (unhide HBa)).mono ?_
      rintro e1 w1 ⟨rfl, b1⟩
      have b1' := (unhide HBa).trans (b1.mono (unhide HBa).size)
      have HB1 := hide b1'
      have HQ1 := hide b1
      have a12 := (unhide ACELL w1 b1).2.2
      have hs1 := b1'.size
      clear b1 b1' y0 y1 y2
      go_wp2_with fail
      refine (unhide CEN _ (unhide HB1)).mono ?_
      rintro e2 w2 ⟨rfl, b2⟩
      have b2' := (unhide HB1).trans (b2.mono hs1)
      have HB2 := hide b2'
      have q2' := (unhide HQ1).trans (b2.mono (unhide HQ1).size)
      have HQ2 := hide q2'
      obtain ⟨a20, a21, a22⟩ := unhide ACELL w2 q2'
      have hs2 := b2'.size
      clear b2 b2' q2' a12
      by_cases h0 : i = 0
      · have hc : ¬ ((0 : Int) < (i : Int)) := by omega
        have e1 : J1 = J0 := by rw [hJ1, hJ9, if_pos h0]; apply ByteArray.ext; simp
        subst e1
        clear h0 hJ1 hJ9 s0 s1 s9 s1z
        cases en with
        | false =>
          have eb : BD = TX := by rw [unhide HX]; simp
          subst eb
          clear HX
          go_wp2_with fail
          go_region_held3 (fun W => W.cell? ⟨wr.heap.size, 0, none⟩ = some (.int .i64 t.1) ∧ W.cell? ⟨wr.heap.size, 1, none⟩ = some (.slice xa xn xc)) (go_keep) (first
            | (go_at_call 101; refine (unhide IT _).mono ?_; rintro e3 w3 ⟨rfl, rfl⟩)
            | (go_at_call 57; refine (unhide CT _ ?_).mono ?_; exact (unhide HB2).drew; rintro e4 w4 ⟨rfl, b4⟩; have b4' := (unhide HB2).drew.trans (b4.mono hs2); have HB4 := hide b4'; have q4' := (unhide HQ2).drew.trans (b4.mono (unhide HQ2).size); obtain ⟨a40, a41, a42⟩ := unhide ACELL w4 q4'; clear b4 b4' q4'))
          all_goals
            go_wp2_with fail
            go_roundg (arms.length - (i + 1))
            case measure => omega
            case rel =>
              exact ⟨i + 1, by rw [unhide HE], by go_num, by omega, Nat.le_refl _, unhide HB4⟩
        | true =>
          by_cases hl : i + 1 = arms.length
          · have eb : BD = TX := by rw [unhide HX]; simp [hl]
            subst eb
            have hcl : ¬ ((i : Int) < (arms.length : Int) - 1) := by omega
            clear HX
            go_wp2_with fail
            go_region_held3 (fun W => W.cell? ⟨wr.heap.size, 0, none⟩ = some (.int .i64 t.1) ∧ W.cell? ⟨wr.heap.size, 1, none⟩ = some (.slice xa xn xc)) (go_keep) (first
              | (go_at_call 101; refine (unhide IT _).mono ?_; rintro e3 w3 ⟨rfl, rfl⟩)
              | (go_at_call 57; refine (unhide CT _ ?_).mono ?_; exact (unhide HB2).drew; rintro e4 w4 ⟨rfl, b4⟩; have b4' := (unhide HB2).drew.trans (b4.mono hs2); have HB4 := hide b4'; have q4' := (unhide HQ2).drew.trans (b4.mono (unhide HQ2).size); obtain ⟨a40, a41, a42⟩ := unhide ACELL w4 q4'; clear b4 b4' q4'))
            all_goals
              go_wp2_with fail
              go_roundg (arms.length - (i + 1))
              case measure => omega
              case rel =>
                exact ⟨i + 1, by rw [unhide HE], by go_num, by omega, Nat.le_refl _, unhide HB4⟩
          · have eb : BD = ⟨#[40]⟩ ++ TX ++ ⟨#[41]⟩ := by rw [unhide HX]; simp [hl]
            have hcl : ((i : Int) < (arms.length : Int) - 1) := by omega
            obtain ⟨P1, hP1⟩ : ∃ J : ByteArray, J = ⟨#[40]⟩ ++ TX := ⟨_, rfl⟩
            have hP2 : BD = P1 ++ ⟨#[41]⟩ := by rw [eb, hP1]
            have sp : BD.size = P1.size + 1 := by rw [hP2]; exact ByteArray.size_append
            have p1 := cat_run hP1 (by omega)
            have p2 := cat_run hP2 sbz
            clear HX eb hP1 hP2 sp
            go_wp2_with fail
            go_region_held3 (fun W => W.cell? ⟨wr.heap.size, 0, none⟩ = some (.int .i64 t.1) ∧ W.cell? ⟨wr.heap.size, 1, none⟩ = some (.slice xa xn xc)) (go_keep) (first
              | (go_at_call 101; refine (unhide IT _).mono ?_; rintro e3 w3 ⟨rfl, rfl⟩)
              | (go_at_call 57; refine (unhide CT _ ?_).mono ?_; exact (unhide HB2).drew; rintro e4 w4 ⟨rfl, b4⟩; have b4' := (unhide HB2).drew.trans (b4.mono hs2); have HB4 := hide b4'; have q4' := (unhide HQ2).drew.trans (b4.mono (unhide HQ2).size); obtain ⟨a40, a41, a42⟩ := unhide ACELL w4 q4'; clear b4 b4' q4'))
            all_goals
              go_wp2_with fail
              go_roundg (arms.length - (i + 1))
              case measure => omega
              case rel =>
                exact ⟨i + 1, by rw [unhide HE], by go_num, by omega, Nat.le_refl _, unhide HB4⟩
      · have hc : ((0 : Int) < (i : Int)) := by omega
        have e9 : J9 = ⟨#[59]⟩ := by rw [hJ9, if_neg h0]
        subst e9
        have q1 := cat_run hJ1 s1z
        clear h0 hJ1 hJ9 s0 s1 s9 s1z
        cases en with
        | false =>
          have eb : BD = TX := by rw [unhide HX]; simp
          subst eb
          clear HX
          go_wp2_with fail
          go_region_held3 (fun W => W.cell? ⟨wr.heap.size, 0, none⟩ = some (.int .i64 t.1) ∧ W.cell? ⟨wr.heap.size, 1, none⟩ = some (.slice xa xn xc)) (go_keep) (first
            | (go_at_call 101; refine (unhide IT _).mono ?_; rintro e3 w3 ⟨rfl, rfl⟩)
            | (go_at_call 57; refine (unhide CT _ ?_).mono ?_; exact (unhide HB2).drew; rintro e4 w4 ⟨rfl, b4⟩; have b4' := (unhide HB2).drew.trans (b4.mono hs2); have HB4 := hide b4'; have q4' := (unhide HQ2).drew.trans (b4.mono (unhide HQ2).size); obtain ⟨a40, a41, a42⟩ := unhide ACELL w4 q4'; clear b4 b4' q4'))
          all_goals
            go_wp2_with fail
            go_roundg (arms.length - (i + 1))
            case measure => omega
            case rel =>
              exact ⟨i + 1, by rw [unhide HE], by go_num, by omega, Nat.le_refl _, unhide HB4⟩
        | true =>
          by_cases hl : i + 1 = arms.length
          · have eb : BD = TX := by rw [unhide HX]; simp [hl]
            subst eb
            have hcl : ¬ ((i : Int) < (arms.length : Int) - 1) := by omega
            clear HX
            go_wp2_with fail
            go_region_held3 (fun W => W.cell? ⟨wr.heap.size, 0, none⟩ = some (.int .i64 t.1) ∧ W.cell? ⟨wr.heap.size, 1, none⟩ = some (.slice xa xn xc)) (go_keep) (first
              | (go_at_call 101; refine (unhide IT _).mono ?_; rintro e3 w3 ⟨rfl, rfl⟩)
              | (go_at_call 57; refine (unhide CT _ ?_).mono ?_; exact (unhide HB2).drew; rintro e4 w4 ⟨rfl, b4⟩; have b4' := (unhide HB2).drew.trans (b4.mono hs2); have HB4 := hide b4'; have q4' := (unhide HQ2).drew.trans (b4.mono (unhide HQ2).size); obtain ⟨a40, a41, a42⟩ := unhide ACELL w4 q4'; clear b4 b4' q4'))
            all_goals
              go_wp2_with fail
              go_roundg (arms.length - (i + 1))
              case measure => omega
              case rel =>
                exact ⟨i + 1, by rw [unhide HE], by go_num, by omega, Nat.le_refl _, unhide HB4⟩
          · have eb : BD = ⟨#[40]⟩ ++ TX ++ ⟨#[41]⟩ := by rw [unhide HX]; simp [hl]
            have hcl : ((i : Int) < (arms.length : Int) - 1) := by omega
            obtain ⟨P1, hP1⟩ : ∃ J : ByteArray, J = ⟨#[40]⟩ ++ TX := ⟨_, rfl⟩
            have hP2 : BD = P1 ++ ⟨#[41]⟩ := by rw [eb, hP1]
            have sp : BD.size = P1.size + 1 := by rw [hP2]; exact ByteArray.size_append
            have p1 := cat_run hP1 (by omega)
            have p2 := cat_run hP2 sbz
            clear HX eb hP1 hP2 sp
            go_wp2_with fail
            go_region_held3 (fun W => W.cell? ⟨wr.heap.size, 0, none⟩ = some (.int .i64 t.1) ∧ W.cell? ⟨wr.heap.size, 1, none⟩ = some (.slice xa xn xc)) (go_keep) (first
              | (go_at_call 101; refine (unhide IT _).mono ?_; rintro e3 w3 ⟨rfl, rfl⟩)
              | (go_at_call 57; refine (unhide CT _ ?_).mono ?_; exact (unhide HB2).drew; rintro e4 w4 ⟨rfl, b4⟩; have b4' := (unhide HB2).drew.trans (b4.mono hs2); have HB4 := hide b4'; have q4' := (unhide HQ2).drew.trans (b4.mono (unhide HQ2).size); obtain ⟨a40, a41, a42⟩ := unhide ACELL w4 q4'; clear b4 b4' q4'))
            all_goals
              go_wp2_with fail
              go_roundg (arms.length - (i + 1))
              case measure => omega
              case rel =>
                exact ⟨i + 1, by rw [unhide HE], by go_num, by omega, Nat.le_refl _, unhide HB4⟩
    · have hil : i = z.length := by omega
      have HE : Hid (Th.led (z.take i) = Th.led z) := hide (by rw [hil, List.take_of_length_le (Nat.le_refl _)])
      clear hb hil hrow
      go_wp2_with fail
      go_ret
      exact ⟨by rw [unhide HE]; rfl, unhide HB⟩

end Go.Proofs.YtgahgkddaljmkaaGreatDoor
