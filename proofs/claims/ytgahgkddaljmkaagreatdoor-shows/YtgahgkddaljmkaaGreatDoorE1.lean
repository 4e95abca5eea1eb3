/- The document's Show. -/
import Derived.Test.YtgahgkddaljmkaaGreatDoorD9
import Derived.Test.YtgahgkddaljmkaaGreatDoorC8
namespace Go.Proofs.YtgahgkddaljmkaaGreatDoor
open Go.RowKit
attribute [local go_sem ↓] Go.wp_at_zero Go.wp_at_succ

theorem Th.progText_le (n : Nat) (l : List Th.Line) : ∀ i, (Th.progText n (l.take i)).length ≤ (Th.progText n l).length := by
  have h : ∀ (k l : List Th.Line), (Th.progText n l).length ≤ (Th.progText n (l ++ k)).length := by
    intro k
    induction k with
    | nil => intro l; simp
    | cons t k ih =>
      intro l
      have h1 := ih (l ++ [t])
      have h2 := congrArg List.length (Th.progText_snoc n l t)
      simp only [List.length_append, List.append_assoc, List.singleton_append] at h1 h2
      omega
  intro i
  have := h (l.drop i) (l.take i)
  rwa [List.take_append_drop] at this
theorem Th.progText_take {n : Nat} {l : List Th.Line} {i : Nat} {x : Th.Line} (h : l[i]? = some x) : Th.progText n (l.take (i + 1)) = Th.progText n (l.take i) ++ Th.lineText n x := by
  rw [List.take_add_one, h]
  exact Th.progText_snoc _ _ _

set_option maxRecDepth 100000 in
set_option maxHeartbeats 2000000 in
theorem dshow_long {s : ByteArray} (h : 600 < s.size) (w : World) :
    Calls Tryz.prog 37 #[.string s] w fun e w' => e = .returned (.string ⟨#[]⟩) ∧ Below w.heap.size w w' := by
  go_enter Tryz.func37, Tryz.ntmps37
  go_wp2_with fail
  refine (dread_long h w).mono ?_
  rintro e w1 ⟨rfl, rfl⟩
  go_wp2_with fail
  refine wp_loop_rounds 1 ?_
  rw [rounds_succ]
  go_wp2_with fail
  go_ret
  exact ⟨rfl, Below.refl _ _⟩

set_option maxRecDepth 100000 in
set_option maxHeartbeats 2000000 in
theorem dshow_no {s : ByteArray} {q : List Th.Line × Th.St} {N : Nat} (hs : s.size ≤ 600) (hp : Plain s q N) (h0 : (answer s.size q N).1 ≠ 0) (w : World) :
    Calls Tryz.prog 37 #[.string s] w fun e w' => e = .returned (.string ⟨#[]⟩) ∧ Below w.heap.size w w' := by
  have CON := hide (dread_any hs hp w)
  have H0 := hide h0
  clear hp hs h0
  go_enter Tryz.func37, Tryz.ntmps37
  go_wp2_with fail
  refine (unhide CON).mono ?_
  rintro e w1 ⟨hb, pv, rfl, _, _, hno⟩
  obtain rfl := hno (unhide H0)
  have Hb := hide hb
  clear hb CON hno
  go_wp2_with fail
  refine wp_loop_rounds 1 ?_
  rw [rounds_succ]
  go_wp2_with fail
  go_ret
  exact ⟨rfl, unhide Hb⟩

set_option maxRecDepth 100000 in
set_option maxHeartbeats 8000000 in
theorem dshow_yes {s : ByteArray} {q : List Th.Line × Th.St} {N M : Nat} (hs : s.size ≤ 600) (hp : Plain s q N) (h0 : (answer s.size q N).1 = 0) (hw : ∀ x ∈ q.1, Th.Wf M x.e) (hst : ∀ k, M ≤ k → Th.progText k q.1 = Th.progText M q.1) (hll : q.1.length ≤ 1000000) (hpar : ∀ x ∈ q.1, x.params.length ≤ 1000000) (hl : (Th.progText M q.1).length ≤ 1000000) (w : World) (ht : Tab w) :
    Calls Tryz.prog 37 #[.string s] w fun e w' => e = .returned (.string ⟨(Th.progText M q.1).toArray⟩) ∧ Below w.heap.size w w' := by
  have CON := hide (dread_any hs hp w)
  have H0 := hide h0
  have HW := hide hw
  have HST := hide hst
  have HPAR := hide hpar
  have HT := hide ht
  clear hp hs h0 hw hst hpar ht
  obtain ⟨l, hll'⟩ : ∃ l, q.1 = l := ⟨_, rfl⟩
  rw [hll'] at HW HST hll HPAR hl ⊢
  go_enter Tryz.func37, Tryz.ntmps37
  go_wp2_with fail
  refine (unhide CON).mono ?_
  rintro e w1 ⟨hb, pv, rfl, _, hyes, _⟩
  obtain ⟨nvs, bvs, m, hn1, hn2, hrow, hlr⟩ := hyes (unhide H0)
  rw [hll'] at hn1 hn2 hrow hlr
  have Hb := hide hb
  have HT1 := hide ((unhide HT).below hb)
  have hst := unhide HST (M + m) (by omega)
  have hl' : (Th.progText (M + m) l).length ≤ 1000000 := by rw [hst]; exact hl
  have HE0 := hide hst
  have hsh := row_shape hrow
  have CROW := hide (fun (W : World) (hW : Below w1.heap.size w1 W) => hrow.1.kept (gb_below none hW) (own_none _))
  have HN := hide (And.intro hn1 hn2)
  have LINE : Hid (∀ (j : Nat) (y : Th.Line) (nv bv : Value), l[j]? = some y → nvs[j]? = some nv → bvs[j]? = some bv → (Th.spaced y.params).length ≤ 1000000 → (Th.text (M + m) y.e).length ≤ 1000000 → (∃ xa xk xc, nv = .slice xa xk xc) ∧ (∃ yp, bv = .pointer (some ⟨yp, 0, none⟩)) ∧
      (∀ W : World, Below w1.heap.size w1 W → Calls Tryz.prog 57 #[nv] W fun e w' => e = .returned (.string ⟨(Th.spaced y.params).toArray⟩) ∧ Below W.heap.size W w') ∧
      (∀ W : World, Below w1.heap.size w1 W → Calls Tryz.prog 58 #[bv] W fun e w' => e = .returned (.string ⟨(Th.text (M + m) y.e).toArray⟩) ∧ Below W.heap.size W w')) := hide (by
    intro j y nv bv h1 h2 h3 h4 h5
    obtain ⟨r1, r2⟩ := hlr j y nv bv h1 h2 h3
    have hm := List.mem_of_getElem? h1
    exact ⟨row_slice r1, drep_ptr r2, fun W hW => dlist_any (r1.gb (gb_below none hW) (by simp)) (unhide HPAR y hm) h4, fun W hW => text_any (M + m) W _ bv y.e ((unhide HT1).below hW) ((r2.le (by omega)).gb (gb_below none hW) (by simp)) ((unhide HW y hm).le (by omega)) h5⟩)
  clear hyes hb hrow hlr CON hn1 hn2 hst
  rcases hsh with rfl | ⟨g, cap, rfl⟩
  · have hl0 : l = [] := by
      rcases (unhide CROW w1 (Below.refl _ _)).2 with ⟨_, h0⟩ | ⟨_, _, _, h0, _⟩
      · exact List.length_eq_zero_iff.1 h0
      · cases h0
    go_wp2_with fail
    refine wp_loop_rounds 1 ?_
    rw [rounds_succ]
    go_wp2_with fail
    go_ret
    exact ⟨by rw [hl0]; rfl, unhide Hb⟩
  · go_wp2_with fail
    go_loopg [6, 7] l.length (fun gk sv iv wr => ∃ i : Nat, sv = .string ⟨(Th.progText (M + m) (l.take i)).toArray⟩ ∧ iv = .int .i64 i ∧ i ≤ l.length ∧ l.length - i ≤ gk ∧ Below w1.heap.size w1 wr)
    case atStart => exact ⟨0, rfl, rfl, Nat.zero_le _, by omega, Below.refl _ _⟩
    case round =>
      obtain ⟨i, rfl, rfl, hi, hgk, hb⟩ := hrel
      have HB := hide hb
      have hzr := hb.size
      have hrow := unhide CROW wr hb
      by_cases hlt : i < l.length
      · obtain ⟨y, hy⟩ : ∃ y, l[i]? = some y := ⟨l[i], List.getElem?_eq_getElem hlt⟩
        obtain ⟨nv, hnv⟩ : ∃ x, nvs[i]? = some x := ⟨nvs[i]'(by have := unhide HN; omega), List.getElem?_eq_getElem (by have := unhide HN; omega)⟩
        obtain ⟨bv, hbv⟩ : ∃ x, bvs[i]? = some x := ⟨bvs[i]'(by have := unhide HN; omega), List.getElem?_eq_getElem (by have := unhide HN; omega)⟩
        have hc := dlineCells_get l nvs bvs i y nv bv hy hnv hbv
        have y0 := (hrow.cellAt (i * 6) (by omega)).trans hc.1
        have y4 := (hrow.cellAt (i * 6 + 4) (by omega)).trans hc.2.2.2.2.1
        have y5 := (hrow.cellAt (i * 6 + 5) (by omega)).trans hc.2.2.2.2.2
        have hgl := (hrow.lt g rfl).2
        have HS := hide (Th.progText_take (n := M + m) hy)
        have hle := Th.progText_le (M + m) l (i + 1)
        rw [unhide HS] at hle
        simp only [Th.lineText, List.length_append, List.length_cons, List.length_nil] at hle
        obtain ⟨⟨xa, xk, xc, rfl⟩, ⟨yp, rfl⟩, cl, ctx⟩ := unhide LINE i y nv bv hy hnv hbv (by omega) (by omega)
        have CL := hide (fun (W : World) (hW : Below wr.heap.size wr W) => cl W (hb.trans (hW.mono hb.size)))
        have CT := hide (fun (W : World) (hW : Below wr.heap.size wr W) => ctx W (hb.trans (hW.mono hb.size)))
        have hi0 : (0 : Int) ≤ (i : Int) := by omega
        have hil : (i : Int) < (l.length : Int) := by omega
        obtain ⟨J0, hJ0⟩ : ∃ J : ByteArray, J = ⟨(Th.progText (M + m) (l.take i)).toArray⟩ := ⟨_, rfl⟩
        obtain ⟨TS, hTS⟩ : ∃ J : ByteArray, J = ⟨y.name.s.toArray⟩ := ⟨_, rfl⟩
        obtain ⟨SP, hSP⟩ : ∃ J : ByteArray, J = ⟨(Th.spaced y.params).toArray⟩ := ⟨_, rfl⟩
        obtain ⟨TX, hTX⟩ : ∃ J : ByteArray, J = ⟨(Th.text (M + m) y.e).toArray⟩ := ⟨_, rfl⟩
        obtain ⟨J1, hJ1⟩ : ∃ J : ByteArray, J = J0 ++ TS := ⟨_, rfl⟩
        obtain ⟨J2, hJ2⟩ : ∃ J, J = J1 ++ SP := ⟨_, rfl⟩
        obtain ⟨J3, hJ3⟩ : ∃ J, J = J2 ++ ⟨#[32, 61, 32]⟩ := ⟨_, rfl⟩
        obtain ⟨J4, hJ4⟩ : ∃ J, J = J3 ++ TX := ⟨_, rfl⟩
        obtain ⟨J5, hJ5⟩ : ∃ J, J = J4 ++ ⟨#[59, 10]⟩ := ⟨_, rfl⟩
        have HE : Hid ((⟨(Th.progText (M + m) (l.take (i + 1))).toArray⟩ : ByteArray) = J5) := hide (by
          rw [unhide HS, hJ5, hJ4, hJ3, hJ2, hJ1, hTX, hSP, hTS, hJ0]
          simp only [str_app, Th.lineText, List.append_assoc])
        have s1 : J1.size = J0.size + TS.size := by rw [hJ1]; exact ByteArray.size_append
        have s2 : J2.size = J1.size + SP.size := by rw [hJ2]; exact ByteArray.size_append
        have s3 : J3.size = J2.size + 3 := by rw [hJ3]; exact ByteArray.size_append
        have s4 : J4.size = J3.size + TX.size := by rw [hJ4]; exact ByteArray.size_append
        have s5 : J5.size = J4.size + 2 := by rw [hJ5]; exact ByteArray.size_append
        have hJz : J5.size ≤ 1000000 := by
          have := congrArg ByteArray.size (unhide HE)
          rw [← this, bsize]
          exact Nat.le_trans (Th.progText_le (M + m) l (i + 1)) hl'
        have q1 := cat_run hJ1 (by omega)
        have q2 := cat_run hJ2 (by omega)
        have q3 := cat_run hJ3 (by omega)
        have q4 := cat_run hJ4 (by omega)
        have q5 := cat_run hJ5 (by omega)
        rw [← hTS] at y0
        rw [← hSP] at CL
        rw [← hTX] at CT
        rw [← hJ0]
        have CI := hide (fun (W : World) (hW : Below wr.heap.size wr W) => And.intro (cell_gb (gb_below none hW) y0 (by simp)) (And.intro (cell_gb (gb_below none hW) y4 (by simp)) (cell_gb (gb_below none hW) y5 (by simp))))
        clear hrow hy hnv hbv hc cl ctx hb HS hle hJ0 hTS hSP hTX hJ1 hJ2 hJ3 hJ4 hJ5 s1 s2 s3 s4 s5 hJz
        go_wp2_with fail
        go_region_held3 (fun W => W.cell? ⟨g, i * 6, none⟩ = some (.string TS) ∧ W.cell? ⟨g, i * 6 + 4, none⟩ = some (.slice xa xk xc) ∧ W.cell? ⟨g, i * 6 + 5, none⟩ = some (.pointer (some ⟨yp, 0, none⟩))) (go_keep) (first
          | (go_at_call 57; refine (unhide CL _ ?_).mono ?_; exact (Below.refl _ _).drew; rintro e3 w3 ⟨rfl, b3⟩; have b3' : Below wr.heap.size wr w3 := (Below.refl _ _).drew.trans (b3.mono (Nat.le_refl _)); have HB3 := hide b3'; obtain ⟨a30, a31, a32⟩ := unhide CI w3 b3'; have hs3 := b3'.size; clear b3 b3')
          | (go_at_call 58; refine (unhide CT _ ?_).mono ?_; exact unhide HB3; rintro e4 w4 ⟨rfl, b4⟩; have b4' := (unhide HB3).trans (b4.mono hs3); have HB4 := hide b4'; obtain ⟨a40, a41, a42⟩ := unhide CI w4 b4'; clear b4 b4'))
        all_goals
          go_wp2_with fail
          go_roundg (l.length - (i + 1))
          case measure => omega
          case rel =>
            exact ⟨i + 1, by rw [unhide HE], by go_num, by omega, Nat.le_refl _, (unhide HB).trans ((unhide HB4).mono hzr)⟩
      · have hil : i = l.length := by omega
        have HE : Hid (Th.progText (M + m) (l.take i) = Th.progText M l) := hide (by rw [hil, List.take_of_length_le (Nat.le_refl _)]; exact unhide HE0)
        clear hb hil hrow
        go_wp2_with fail
        go_ret
        exact ⟨by rw [unhide HE]; rfl, (unhide Hb).trans ((unhide HB).mono (unhide Hb).size)⟩

end Go.Proofs.YtgahgkddaljmkaaGreatDoor
