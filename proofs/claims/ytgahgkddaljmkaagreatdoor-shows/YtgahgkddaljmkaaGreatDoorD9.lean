/- The document's text of a let and of a case; of every expression. -/
import Derived.Test.YtgahgkddaljmkaaGreatDoorD8
namespace Go.Proofs.YtgahgkddaljmkaaGreatDoor
open Go.RowKit
attribute [local go_sem ↓] Go.wp_at_zero Go.wp_at_succ

set_option maxRecDepth 100000 in
set_option maxHeartbeats 4000000 in
theorem text_let7 {n : Nat} (hx : TxOK n) {w : World} {S : Nat → Prop} {a : Nat} {lv : Value} {e1 : Th.Ex} {R RA RB : ByteArray} (hRB : RB = ⟨(Th.text n e1).toArray⟩) (hR : R = ⟨#[108, 101, 116]⟩ ++ RA ++ ⟨#[32, 105, 110, 32]⟩ ++ RB) (ht : Tab w) (c0 : w.cell? ⟨a, 0, none⟩ = some (.int .i64 (7 : Nat))) (c6 : w.cell? ⟨a, 6, none⟩ = some lv)
    (hb : ∀ W, Below w.heap.size w W → Calls Tryz.prog 104 #[.pointer (some ⟨a, 0, none⟩)] W fun r w' => r = .returned (.string RA) ∧ Below W.heap.size W w')
    (d1 : DRep S w n lv e1) (f1 : Th.Wf n e1) (hl : R.size ≤ 1000000) :
    Calls Tryz.prog 58 #[.pointer (some ⟨a, 0, none⟩)] w fun r w' => r = .returned (.string R) ∧ Below w.heap.size w w' := by
  obtain ⟨x1, rfl⟩ := drep_ptr d1
  obtain ⟨J1, hJ1⟩ : ∃ J : ByteArray, J = ⟨#[108, 101, 116]⟩ ++ RA := ⟨_, rfl⟩
  obtain ⟨J2, hJ2⟩ : ∃ J, J = J1 ++ ⟨#[32, 105, 110, 32]⟩ := ⟨_, rfl⟩
  have hJ4 : R = J2 ++ RB := by rw [hR, hJ2, hJ1]
  have s4 : R.size = J2.size + RB.size := by rw [hJ4]; exact ByteArray.size_append
  have s2 : J2.size = J1.size + 4 := by rw [hJ2]; exact ByteArray.size_append
  have sb : RB.size = (Th.text n e1).length := by rw [hRB]; simp [ByteArray.size]
  have q1 := cat_run hJ1 (by omega)
  have q2 := cat_run hJ2 (by omega)
  have q4 := cat_run hJ4 (by omega)
  have C1 := hide hb
  have C2 := hide (fun (W : World) (hW : Below w.heap.size w W) => hx W S _ e1 (ht.below hW) (d1.gb (gb_below none hW) (by simp)) f1 (by omega))
  rw [← hRB] at C2
  have CE := hide (fun (W : World) (hW : Below w.heap.size w W) => cell_gb (gb_below none hW) c6 (by simp))
  clear d1 f1 hx hR ht hJ1 hJ2 hJ4 s2 s4 sb hRB hl hb
  go_enter Tryz.func58, Tryz.ntmps58
  go_wp2_with fail
  go_region_held3 (fun W => W.cell? ⟨a, 6, none⟩ = some (.pointer (some ⟨x1, 0, none⟩))) (go_keep) (first
    | (go_at_call 104; refine (unhide C1 _ ?_).mono ?_; exact (Below.refl _ _).drew; rintro en w1 ⟨rfl, b1⟩; have b1' : Below w.heap.size w w1 := (Below.refl _ _).drew.trans (b1.mono (Nat.le_refl _)); have HB1 := hide b1'; have k6 := unhide CE w1 b1'; have hs1 := b1'.size; clear b1 b1')
    | (go_at_call 58; refine (unhide C2 _ ?_).mono ?_; exact unhide HB1; rintro en w2 ⟨rfl, b2⟩; have b2' := (unhide HB1).trans (b2.mono hs1); have HB2 := hide b2'; have m6 := unhide CE w2 b2'; clear b2 b2'))
  all_goals
    go_wp2_with fail
    go_ret
    exact ⟨rfl, unhide HB2⟩
set_option maxRecDepth 100000 in
set_option maxHeartbeats 4000000 in
theorem text_let8 {n : Nat} (hx : TxOK n) {w : World} {S : Nat → Prop} {a : Nat} {lv : Value} {e1 : Th.Ex} {R RA RB : ByteArray} (hRB : RB = ⟨(Th.text n e1).toArray⟩) (hR : R = ⟨#[108, 101, 116, 32, 114, 101, 99]⟩ ++ RA ++ ⟨#[32, 105, 110, 32]⟩ ++ RB) (ht : Tab w) (c0 : w.cell? ⟨a, 0, none⟩ = some (.int .i64 (8 : Nat))) (c6 : w.cell? ⟨a, 6, none⟩ = some lv)
    (hb : ∀ W, Below w.heap.size w W → Calls Tryz.prog 104 #[.pointer (some ⟨a, 0, none⟩)] W fun r w' => r = .returned (.string RA) ∧ Below W.heap.size W w')
    (d1 : DRep S w n lv e1) (f1 : Th.Wf n e1) (hl : R.size ≤ 1000000) :
    Calls Tryz.prog 58 #[.pointer (some ⟨a, 0, none⟩)] w fun r w' => r = .returned (.string R) ∧ Below w.heap.size w w' := by
  obtain ⟨x1, rfl⟩ := drep_ptr d1
  obtain ⟨J1, hJ1⟩ : ∃ J : ByteArray, J = ⟨#[108, 101, 116, 32, 114, 101, 99]⟩ ++ RA := ⟨_, rfl⟩
  obtain ⟨J2, hJ2⟩ : ∃ J, J = J1 ++ ⟨#[32, 105, 110, 32]⟩ := ⟨_, rfl⟩
  have hJ4 : R = J2 ++ RB := by rw [hR, hJ2, hJ1]
  have s4 : R.size = J2.size + RB.size := by rw [hJ4]; exact ByteArray.size_append
  have s2 : J2.size = J1.size + 4 := by rw [hJ2]; exact ByteArray.size_append
  have sb : RB.size = (Th.text n e1).length := by rw [hRB]; simp [ByteArray.size]
  have q1 := cat_run hJ1 (by omega)
  have q2 := cat_run hJ2 (by omega)
  have q4 := cat_run hJ4 (by omega)
  have C1 := hide hb
  have C2 := hide (fun (W : World) (hW : Below w.heap.size w W) => hx W S _ e1 (ht.below hW) (d1.gb (gb_below none hW) (by simp)) f1 (by omega))
  rw [← hRB] at C2
  have CE := hide (fun (W : World) (hW : Below w.heap.size w W) => cell_gb (gb_below none hW) c6 (by simp))
  clear d1 f1 hx hR ht hJ1 hJ2 hJ4 s2 s4 sb hRB hl hb
  go_enter Tryz.func58, Tryz.ntmps58
  go_wp2_with fail
  go_region_held3 (fun W => W.cell? ⟨a, 6, none⟩ = some (.pointer (some ⟨x1, 0, none⟩))) (go_keep) (first
    | (go_at_call 104; refine (unhide C1 _ ?_).mono ?_; exact (Below.refl _ _).drew; rintro en w1 ⟨rfl, b1⟩; have b1' : Below w.heap.size w w1 := (Below.refl _ _).drew.trans (b1.mono (Nat.le_refl _)); have HB1 := hide b1'; have k6 := unhide CE w1 b1'; have hs1 := b1'.size; clear b1 b1')
    | (go_at_call 58; refine (unhide C2 _ ?_).mono ?_; exact unhide HB1; rintro en w2 ⟨rfl, b2⟩; have b2' := (unhide HB1).trans (b2.mono hs1); have HB2 := hide b2'; have m6 := unhide CE w2 b2'; clear b2 b2'))
  all_goals
    go_wp2_with fail
    go_ret
    exact ⟨rfl, unhide HB2⟩

set_option maxRecDepth 100000 in
set_option maxHeartbeats 4000000 in
theorem text_case {n : Nat} (hx : TxOK n) {w : World} {S : Nat → Prop} {a : Nat} {lv av : Value} {e1 : Th.Ex} {R RA RB : ByteArray} (hRA : RA = ⟨(Th.text n e1).toArray⟩) (hR : R = ⟨#[99, 97, 115, 101, 32]⟩ ++ RA ++ ⟨#[32, 111, 102]⟩ ++ RB) (ht : Tab w) (c0 : w.cell? ⟨a, 0, none⟩ = some (.int .i64 (9 : Nat))) (c6 : w.cell? ⟨a, 6, none⟩ = some lv) (c10 : w.cell? ⟨a, 10, none⟩ = some av) (hav : ∃ x k c, av = .slice x k c)
    (hb : ∀ W, Below w.heap.size w W → Calls Tryz.prog 105 #[av] W fun r w' => r = .returned (.string RB) ∧ Below W.heap.size W w')
    (d1 : DRep S w n lv e1) (f1 : Th.Wf n e1) (hl : R.size ≤ 1000000) :
    Calls Tryz.prog 58 #[.pointer (some ⟨a, 0, none⟩)] w fun r w' => r = .returned (.string R) ∧ Below w.heap.size w w' := by
  obtain ⟨x1, rfl⟩ := drep_ptr d1
  obtain ⟨ax, ak, ac, rfl⟩ := hav
  obtain ⟨J1, hJ1⟩ : ∃ J : ByteArray, J = ⟨#[99, 97, 115, 101, 32]⟩ ++ RA := ⟨_, rfl⟩
  obtain ⟨J2, hJ2⟩ : ∃ J, J = J1 ++ ⟨#[32, 111, 102]⟩ := ⟨_, rfl⟩
  have hJ4 : R = J2 ++ RB := by rw [hR, hJ2, hJ1]
  have s4 : R.size = J2.size + RB.size := by rw [hJ4]; exact ByteArray.size_append
  have s2 : J2.size = J1.size + 3 := by rw [hJ2]; exact ByteArray.size_append
  have s1 : J1.size = 5 + RA.size := by rw [hJ1]; exact ByteArray.size_append
  have sb : RA.size = (Th.text n e1).length := by rw [hRA]; simp [ByteArray.size]
  have q1 := cat_run hJ1 (by omega)
  have q2 := cat_run hJ2 (by omega)
  have q4 := cat_run hJ4 (by omega)
  have C1 := hide hb
  have C2 := hide (fun (W : World) (hW : Below w.heap.size w W) => hx W S _ e1 (ht.below hW) (d1.gb (gb_below none hW) (by simp)) f1 (by omega))
  rw [← hRA] at C2
  have CE := hide (fun (W : World) (hW : Below w.heap.size w W) => And.intro (cell_gb (gb_below none hW) c6 (by simp)) (cell_gb (gb_below none hW) c10 (by simp)))
  clear d1 f1 hx hR ht hJ1 hJ2 hJ4 s1 s2 s4 sb hRA hl hb
  go_enter Tryz.func58, Tryz.ntmps58
  go_wp2_with fail
  go_region_held3 (fun W => W.cell? ⟨a, 6, none⟩ = some (.pointer (some ⟨x1, 0, none⟩)) ∧ W.cell? ⟨a, 10, none⟩ = some (.slice ax ak ac)) (go_keep) (first
    | (go_at_call 58; refine (unhide C2 _ ?_).mono ?_; exact (Below.refl _ _).drew; rintro en w1 ⟨rfl, b1⟩; have b1' : Below w.heap.size w w1 := (Below.refl _ _).drew.trans (b1.mono (Nat.le_refl _)); have HB1 := hide b1'; obtain ⟨k6, k10⟩ := unhide CE w1 b1'; have hs1 := b1'.size; clear b1 b1')
    | (go_at_call 105; refine (unhide C1 _ ?_).mono ?_; exact unhide HB1; rintro en w2 ⟨rfl, b2⟩; have b2' := (unhide HB1).trans (b2.mono hs1); have HB2 := hide b2'; obtain ⟨m6, m10⟩ := unhide CE w2 b2'; clear b2 b2'))
  all_goals
    go_wp2_with fail
    go_ret
    exact ⟨rfl, unhide HB2⟩

theorem led_ne {l : List (List UInt8)} (h : l ≠ []) : Th.led l = [32] ++ Th.joined l := by rw [Th.led, if_neg h]
theorem bsize (l : List UInt8) : (⟨l.toArray⟩ : ByteArray).size = l.length := by simp [ByteArray.size]

/-- The bounds on lists of names that a text brings along. -/
theorem spaced_many (l : List Th.Tok) : l.length ≤ (Th.spaced l).length := by
  have h : ∀ (l : List Th.Tok) (a : List UInt8), a.length + l.length ≤ (l.foldl (fun s t => s ++ ([32] ++ t.s)) a).length := by
    intro l
    induction l with
    | nil => intro a; simp
    | cons t l ih =>
      intro a
      have := ih (a ++ ([32] ++ t.s))
      simp only [List.foldl_cons, List.length_cons, List.length_append, List.length_nil] at this ⊢
      omega
  have := h l []
  simpa [Th.spaced] using this
theorem joined_many (l : List (List UInt8)) (x : List UInt8) (h : x ∈ l) : x.length ≤ (Th.joined l).length := by
  have g : ∀ (l : List (List UInt8)) (a : List UInt8), a.length ≤ (l.foldl (fun s y => s ++ [59, 32] ++ y) a).length ∧ ∀ y ∈ l, y.length ≤ (l.foldl (fun s y => s ++ [59, 32] ++ y) a).length := by
    intro l
    induction l with
    | nil => intro a; simp
    | cons t l ih =>
      intro a
      have := ih (a ++ [59, 32] ++ t)
      simp only [List.foldl_cons]
      refine ⟨Nat.le_trans (by simp) this.1, fun y hy => ?_⟩
      rcases List.mem_cons.1 hy with rfl | hy
      · exact Nat.le_trans (by simp; omega) this.1
      · exact this.2 y hy
  cases l with
  | nil => simp at h
  | cons y l =>
    rcases List.mem_cons.1 h with rfl | h
    · exact (g l _).1
    · exact (g l _).2 x h
theorem joined_count (l : List (List UInt8)) : l.length ≤ (Th.joined l).length + 1 := by
  have g : ∀ (l : List (List UInt8)) (a : List UInt8), l.length ≤ (l.foldl (fun s y => s ++ [59, 32] ++ y) a).length := by
    intro l
    induction l with
    | nil => intro a; simp
    | cons t l ih =>
      intro a
      have h2 : ∀ (l : List (List UInt8)) (a : List UInt8), a.length + l.length ≤ (l.foldl (fun s y => s ++ [59, 32] ++ y) a).length := by
        intro l
        induction l with
        | nil => intro a; simp
        | cons t l ih =>
          intro a
          have := ih (a ++ [59, 32] ++ t)
          simp only [List.foldl_cons, List.length_cons, List.length_append, List.length_nil] at this ⊢
          omega
      have := h2 (t :: l) a
      omega
  cases l with
  | nil => simp
  | cons y l =>
    have := g l y
    simp only [Th.joined, List.length_cons]
    omega

theorem text_any : ∀ n, TxOK n
  | 0 => fun _ _ _ _ _ h => h.elim
  | n + 1 => by
    have ih := text_any n
    intro w S v e ht h hw hl
    obtain ⟨a, lv, rv, nv, pv, av, rfl, hS, hB, h⟩ := h
    have c0 : w.cell? ⟨a, 0, none⟩ = some (.int .i64 e.kind) := hB.cell 0
    have c2 : w.cell? ⟨a, 2, none⟩ = some (.string ⟨(if e.kind = 2 ∨ e.kind = 6 then e.tok.s else []).toArray⟩) := hB.cell 2
    have c3 : w.cell? ⟨a, 3, none⟩ = some (.int .i64 e.n) := hB.cell 3
    have c4 : w.cell? ⟨a, 4, none⟩ = some (.int .i64 e.tag) := hB.cell 4
    have c5 : w.cell? ⟨a, 5, none⟩ = some (.int .i64 e.arity) := hB.cell 5
    have c6 : w.cell? ⟨a, 6, none⟩ = some lv := hB.cell 6
    have c7 : w.cell? ⟨a, 7, none⟩ = some rv := hB.cell 7
    have c8 : w.cell? ⟨a, 8, none⟩ = some nv := hB.cell 8
    have c9 : w.cell? ⟨a, 9, none⟩ = some pv := hB.cell 9
    have c10 : w.cell? ⟨a, 10, none⟩ = some av := hB.cell 10
    rcases hw with ⟨hk, hn⟩ | hk | ⟨hk, ht9, ha9⟩ | ⟨hk, hne, b, hkid, fb⟩ | ⟨hk, b1, b2, hkid, fb1, fb2⟩ | ⟨hk, hs6, b1, b2, hkid, fb1, fb2⟩ | ⟨hk, hne, b, parts, hkid, hpl, fps, fb⟩ | ⟨hk, hne, ha99, b, bodies, hkid, hbl, fps, fb⟩
    · have e1 : Th.text (n + 1) e = Lib.itoa e.n := by simp [Th.text, hk]
      rw [e1]
      exact text_number ht hn (by rw [c0, hk]) c3
    · have e1 : Th.text (n + 1) e = e.tok.s := by simp [Th.text, hk]
      rw [e1]
      rw [if_pos (.inl hk)] at c2
      exact text_name (by rw [c0, hk]) c2
    · have e1 : Th.text (n + 1) e = [123] ++ Lib.decDigits e.tag ++ [44] ++ Lib.decDigits e.arity ++ [125] := by simp [Th.text, hk]
      rw [e1] at hl ⊢
      exact text_maker ht9 ha9 (by simp only [List.length_append, List.length_cons, List.length_nil] at hl; omega) (by rw [c0, hk]) c4 c5
    · rcases h with h | ⟨_, b', h1, h2, h3⟩ | ⟨hk', _⟩ | ⟨hk', _⟩ | ⟨hk', _⟩
      · omega
      · rw [hkid] at h1
        cases h1
        obtain ⟨t, l, hnl⟩ : ∃ t l, e.names = t :: l := by
          cases hh : e.names with
          | nil => exact absurd hh hne
          | cons t l => exact ⟨t, l, rfl⟩
        obtain ⟨r, hr⟩ := Th.spaced_cons t l
        have hA : Th.spaced e.names = 32 :: (t.s ++ r) := by rw [hnl, hr]
        have e1 : Th.text (n + 1) e = [92] ++ (t.s ++ r) ++ [46, 32] ++ Th.text n b := by
          simp [Th.text, hk, hkid, hA]
        have hsl : e.names.length ≤ 1000000 := by
          have h1 := spaced_many e.names
          have h2 := congrArg List.length e1
          rw [hA] at h1
          simp only [List.length_append, List.length_cons, List.length_nil] at h1 h2
          omega
        have hR : (⟨(Th.text (n + 1) e).toArray⟩ : ByteArray) = ⟨#[92]⟩ ++ ⟨(t.s ++ r).toArray⟩ ++ ⟨#[46, 32]⟩ ++ ⟨(Th.text n b).toArray⟩ := by rw [e1]; simp only [← str_app]
        exact text_fun ih rfl hR hA rfl ht (by rw [c0, hk]) c6 c8 h3 h2 hsl fb (by rw [bsize]; exact hl)
      · omega
      · omega
      · omega
    · rcases h with h | ⟨hk', _⟩ | ⟨_, e1, e2, h1, h2, h3⟩ | ⟨hk', _⟩ | ⟨hk', _⟩
      · omega
      · omega
      · rw [hkid] at h1
        cases h1
        have e1 : Th.text (n + 1) e = Th.within b1 4 (Th.text n b1) ++ [32] ++ Th.within b2 5 (Th.text n b2) := by simp [Th.text, hk, hkid]
        have hR : (⟨(Th.text (n + 1) e).toArray⟩ : ByteArray) = ⟨(Th.within b1 4 (Th.text n b1)).toArray⟩ ++ ⟨#[32]⟩ ++ ⟨(Th.within b2 5 (Th.text n b2)).toArray⟩ := by rw [e1]; simp only [← str_app]
        exact text_call ih hR rfl rfl ht (by rw [c0, hk]) c6 c7 h2 h3 fb1 fb2 (by rw [e1] at hl; simp only [List.length_append, List.length_cons, List.length_nil] at hl; omega)
      · omega
      · omega
    · rcases h with h | ⟨hk', _⟩ | ⟨_, e1, e2, h1, h2, h3⟩ | ⟨hk', _⟩ | ⟨hk', _⟩
      · omega
      · omega
      · rw [hkid] at h1
        cases h1
        rw [if_pos (.inr hk)] at c2
        have e1 : Th.text (n + 1) e = Th.within b1 (max (Th.level e) 2) (Th.text n b1) ++ [32] ++ e.tok.s ++ [32] ++ Th.within b2 (Th.level e + 1) (Th.text n b2) := by simp [Th.text, hk, hkid]
        have hlv : Th.level e = if e.tok.s = [42] ∨ e.tok.s = [47] then 3 else if e.tok.s = [43] ∨ e.tok.s = [45] then 2 else 1 := by
          rw [Th.level, if_neg (by omega), if_pos hk]
        have hT := tight_op hs6 (by rw [c0, hk]) c2
        rw [← hlv] at hT
        have hR : (⟨(Th.text (n + 1) e).toArray⟩ : ByteArray) = ⟨(Th.within b1 (max (Th.level e) 2) (Th.text n b1)).toArray⟩ ++ ⟨#[32]⟩ ++ ⟨e.tok.s.toArray⟩ ++ ⟨#[32]⟩ ++ ⟨(Th.within b2 (Th.level e + 1) (Th.text n b2)).toArray⟩ := by rw [e1]; simp only [← str_app]
        have hlv3 : Th.level e = 1 ∨ Th.level e = 2 ∨ Th.level e = 3 := by rw [hlv]; split <;> (try split) <;> simp
        have hl' : (⟨(Th.text (n + 1) e).toArray⟩ : ByteArray).size ≤ 1000000 := by rw [bsize]; exact hl
        clear e1 hlv
        generalize Th.level e = L at hT hR hlv3
        rcases hlv3 with rfl | rfl | rfl
        · exact text_op1 ih ⟨rfl, rfl⟩ (by omega) rfl rfl hR rfl rfl ht hT (by rw [c0, hk]) c2 c6 c7 h2 h3 fb1 fb2 hl'
        · exact text_op2 ih ⟨rfl, rfl⟩ (by omega) rfl rfl hR rfl rfl ht hT (by rw [c0, hk]) c2 c6 c7 h2 h3 fb1 fb2 hl'
        · exact text_op3 ih ⟨rfl, rfl⟩ (by omega) rfl rfl hR rfl rfl ht hT (by rw [c0, hk]) c2 c6 c7 h2 h3 fb1 fb2 hl'
      · omega
      · omega
    · rcases h with h | ⟨hk', _⟩ | ⟨hk', _⟩ | ⟨_, b', parts', pvs, h1, h2, h3, h4, h5, h6, h7⟩ | ⟨hk', _⟩
      · omega
      · omega
      · omega
      · rw [hkid] at h1
        cases h1
        have hbn : Th.bindTexts (Th.text n) e.names parts ≠ [] := by
          intro h0
          have := Th.bindTexts_len (Th.text n) e.names parts hpl
          rw [h0] at this
          exact hne (List.length_eq_zero_iff.1 this.symm)
        have hln := led_ne hbn
        have hcount := joined_count (Th.bindTexts (Th.text n) e.names parts)
        rw [Th.bindTexts_len _ _ _ hpl] at hcount
        have e1 : Th.text (n + 1) e = (if e.kind = 8 then [108, 101, 116, 32, 114, 101, 99] else [108, 101, 116]) ++ Th.led (Th.bindTexts (Th.text n) e.names parts) ++ [32, 105, 110, 32] ++ Th.text n b := by
          rw [hln]
          rcases hk with hk | hk <;> simp [Th.text, hk, hkid]
        have hlen := congrArg List.length e1
        rw [hln] at hlen
        simp only [List.length_append, List.length_cons, List.length_nil] at hlen
        have hbz : (Th.led (Th.bindTexts (Th.text n) e.names parts)).length ≤ 1000000 := by
          rw [hln]
          simp only [List.length_append, List.length_cons, List.length_nil]
          omega
        have hCB := fun (W : World) (hW : Below w.heap.size w W) => dbinds_any ih (ht.below hW) (cell_gb (gb_below none hW) c8 (by simp)) (cell_gb (gb_below none hW) c9 (by simp)) (h4.gb (gb_below none hW) (by simp)) (h5.gb (gb_below none hW) (by simp)) hpl h3 hne (fun i x p a b => (h6 i x p a b).gb (gb_below none hW) (by simp)) fps (by omega) hbz
        rcases hk with hk | hk
        · have hR : (⟨(Th.text (n + 1) e).toArray⟩ : ByteArray) = ⟨#[108, 101, 116]⟩ ++ ⟨(Th.led (Th.bindTexts (Th.text n) e.names parts)).toArray⟩ ++ ⟨#[32, 105, 110, 32]⟩ ++ ⟨(Th.text n b).toArray⟩ := by
            rw [e1, if_neg (by omega)]; simp only [← str_app]
          exact text_let7 ih rfl hR ht (by rw [c0, hk]) c6 hCB h7 fb (by rw [bsize]; exact hl)
        · have hR : (⟨(Th.text (n + 1) e).toArray⟩ : ByteArray) = ⟨#[108, 101, 116, 32, 114, 101, 99]⟩ ++ ⟨(Th.led (Th.bindTexts (Th.text n) e.names parts)).toArray⟩ ++ ⟨#[32, 105, 110, 32]⟩ ++ ⟨(Th.text n b).toArray⟩ := by
            rw [e1, if_pos hk]; simp only [← str_app]
          exact text_let8 ih rfl hR ht (by rw [c0, hk]) c6 hCB h7 fb (by rw [bsize]; exact hl)
      · omega
    · rcases h with h | ⟨hk', _⟩ | ⟨hk', _⟩ | ⟨hk', _⟩ | ⟨_, b', bodies', nvs, bvs, h1, h2, h3, h4, h5, h6, h7, h8⟩
      · omega
      · omega
      · omega
      · omega
      · rw [hkid] at h1
        cases h1
        have hbn : Th.armTexts (Th.text n) (Th.ends n) e.arms bodies ≠ [] := by
          intro h0
          have := Th.armTexts_len (Th.text n) (Th.ends n) e.arms bodies hbl
          rw [h0] at this
          exact hne (List.length_eq_zero_iff.1 this.symm)
        have hln := led_ne hbn
        have hcount := joined_count (Th.armTexts (Th.text n) (Th.ends n) e.arms bodies)
        rw [Th.armTexts_len _ _ _ _ hbl] at hcount
        have e1 : Th.text (n + 1) e = [99, 97, 115, 101, 32] ++ Th.text n b ++ [32, 111, 102] ++ Th.led (Th.armTexts (Th.text n) (Th.ends n) e.arms bodies) := by
          rw [hln]
          simp [Th.text, hk, hkid]
        have hlen := congrArg List.length e1
        rw [hln] at hlen
        simp only [List.length_append, List.length_cons, List.length_nil] at hlen
        have hbz : (Th.led (Th.armTexts (Th.text n) (Th.ends n) e.arms bodies)).length ≤ 1000000 := by
          rw [hln]
          simp only [List.length_append, List.length_cons, List.length_nil]
          omega
        have hnm : ∀ x ∈ e.arms, x.2.length ≤ 1000000 := by
          intro x hx
          obtain ⟨i, hi⟩ := List.mem_iff_getElem?.1 hx
          have hil : i < e.arms.length := (List.getElem?_eq_some_iff.1 hi).1
          have hg := Th.armTexts_get (Th.text n) (Th.ends n) e.arms bodies i x _ hi (List.getElem?_eq_getElem (by omega))
          have hm := joined_many _ _ (List.mem_of_getElem? hg)
          have hs := spaced_many x.2
          simp only [Th.armText, List.length_append] at hm
          omega
        have hCB := fun (W : World) (hW : Below w.heap.size w W) => darms_any ih (ht.below hW) (h5.gb (gb_below none hW) (by simp)) h3 h4 h2 hne (fun i a x p q => (h6 i a x p q).gb (gb_below none hW) (by simp)) (fun i x p a b => (h7 i x p a b).gb (gb_below none hW) (by simp)) fps ha99 (by omega) hnm hbz
        have hR : (⟨(Th.text (n + 1) e).toArray⟩ : ByteArray) = ⟨#[99, 97, 115, 101, 32]⟩ ++ ⟨(Th.text n b).toArray⟩ ++ ⟨#[32, 111, 102]⟩ ++ ⟨(Th.led (Th.armTexts (Th.text n) (Th.ends n) e.arms bodies)).toArray⟩ := by
          rw [e1]; simp only [← str_app]
        exact text_case ih rfl hR ht (by rw [c0, hk]) c6 c10 (row_slice h5) hCB h8 fb (by rw [bsize]; exact hl)

end Go.Proofs.YtgahgkddaljmkaaGreatDoor
