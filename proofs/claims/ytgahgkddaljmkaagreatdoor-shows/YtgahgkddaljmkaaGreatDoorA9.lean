/- Plain reasoning on the grammar: every reader has an answer where there is fuel enough, and the names of what it reads stand in the order of the source. Plain reasoning: where the names of an expression stand may be told more loosely. Plain reasoning: calls, operations, binds, arms, expressions. Plain reasoning: lines; the tokens of a source. -/
import Derived.Test.YtgahgkddaljmkaaGreatDoorA8
namespace Go.Proofs.YtgahgkddaljmkaaGreatDoor.Th

/-- What is left to read, counted; nothing behind a failure. -/
def mu (st : St) : Nat := if st.bad.isNone then st.rest.length + 1 else 0

theorem mu_fail (st : St) : mu st.fail = 0 := by
  unfold mu St.fail
  cases h : st.bad <;> simp [h]
theorem bad_fail (st : St) : st.fail.bad ≠ none := by
  unfold St.fail
  cases h : st.bad <;> simp [h]

theorem is_some {s : List UInt8} {st : St} (h : st.is s = true) (hs : s ≠ []) : st.bad = none ∧ ∃ t r, st.rest = t :: r ∧ t.s = s := by
  unfold St.is St.hd at h
  simp only [Bool.and_eq_true, Option.isNone_iff_eq_none, beq_iff_eq] at h
  refine ⟨h.1, ?_⟩
  cases hr : st.rest with
  | nil =>
    rw [hr] at h
    exact absurd h.2.symm hs
  | cons t r =>
    rw [hr] at h
    exact ⟨t, r, rfl, h.2⟩

theorem kind_some {k : Nat} {st : St} (h : st.kind k = true) (hk : k ≠ 0) : st.bad = none ∧ ∃ t r, st.rest = t :: r ∧ t.k = k := by
  unfold St.kind St.hd at h
  simp only [Bool.and_eq_true, Option.isNone_iff_eq_none, beq_iff_eq] at h
  refine ⟨h.1, ?_⟩
  cases hr : st.rest with
  | nil =>
    rw [hr] at h
    exact absurd h.2.symm hk
  | cons t r =>
    rw [hr] at h
    exact ⟨t, r, rfl, h.2⟩

theorem Rise.down {lo lo' M : Nat} {l : List Tok} (h : Rise lo M l) (hl : lo' ≤ lo) : Rise lo' M l := by
  cases l with
  | nil => exact Nat.le_trans hl h
  | cons t r => exact ⟨Nat.le_trans hl h.1, h.2⟩

theorem Rise.tail {lo M : Nat} {t : Tok} {l : List Tok} (h : Rise lo M (t :: l)) : Rise (lo + 1) M l := h.2.down (by have := h.1; omega)

/-- From a state to a later one: no name is lost on the way. -/
structure Step (d : Nat) (st st' : St) : Prop where
  mu : mu st' + d ≤ mu st ∨ Th.mu st' = 0
  bad : st'.bad = none → st.bad = none
  rise : ∀ lo M, Rise lo M st.rest → st'.bad = none → Rise (lo + d) M st'.rest

theorem Step.le {d : Nat} {a b : St} (h : Step d a b) : Th.mu b ≤ Th.mu a := by
  rcases h.mu with h | h <;> omega

theorem Step.trans {d d' : Nat} {a b c : St} (h : Step d a b) (k : Step d' b c) : Step (d + d') a c := by
  refine ⟨?_, fun hc => h.bad (k.bad hc), fun lo M hr hc => ?_⟩
  · rcases h.mu with h1 | h1 <;> rcases k.mu with k1 | k1
    · exact .inl (by omega)
    · exact .inr k1
    · exact .inr (by omega)
    · exact .inr k1
  · have := k.rise (lo + d) M (h.rise lo M hr (k.bad hc)) hc
    rw [Nat.add_assoc] at this
    exact this

theorem Step.weak {d d' : Nat} {a b : St} (h : Step d a b) (hd : d' ≤ d) : Step d' a b :=
  ⟨by rcases h.mu with h | h; exact .inl (by omega); exact .inr h, h.bad, fun lo M hr hc => (h.rise lo M hr hc).down (by omega)⟩

theorem Step.refl (st : St) : Step 0 st st := ⟨.inl (Nat.le_refl _), id, fun _ _ h _ => h⟩

theorem step_fail (d : Nat) (st : St) : Step d st st.fail := ⟨.inr (mu_fail st), fun h => absurd h (bad_fail st), fun _ _ _ h => absurd h (bad_fail st)⟩

theorem step_adv {st : St} {t : Tok} {r : List Tok} (hb : st.bad = none) (hr : st.rest = t :: r) : Step 1 st st.adv := by
  refine ⟨.inl ?_, fun _ => hb, fun lo M h _ => ?_⟩
  · simp [Th.mu, St.adv, hb, hr]
  · rw [hr] at h
    simp only [St.adv, hr, List.tail_cons]
    exact h.tail

theorem step_is {s : List UInt8} {st : St} (h : st.is s = true) (hs : s ≠ []) : Step 1 st st.adv := by
  obtain ⟨hb, t, r, hr, _⟩ := is_some h hs
  exact step_adv hb hr

theorem step_kind {k : Nat} {st : St} (h : st.kind k = true) (hk : k ≠ 0) : Step 1 st st.adv := by
  obtain ⟨hb, t, r, hr, _⟩ := kind_some h hk
  exact step_adv hb hr

theorem step_want {s : List UInt8} (hs : s ≠ []) (st : St) : Step 1 st (want s st) := by
  unfold want
  split
  · rename_i h
    exact step_is h hs
  · exact step_fail _ _

theorem step_pname (st : St) : Step 1 st (pname st).2 := by
  unfold pname
  split
  · rename_i h
    exact step_kind h (by decide)
  · exact step_fail _ _

theorem step_pnumber (a b : Nat) (st : St) : Step 1 st (pnumber a b st).2 := by
  unfold pnumber
  split
  · rename_i h
    simp only [Bool.and_eq_true] at h
    exact step_kind h.1.1 (by decide)
  · exact step_fail _ _

/-- The name that was read stands before what follows. -/
theorem pname_at {st : St} {lo M : Nat} (h : Rise lo M st.rest) (hb : (pname st).2.bad = none) : lo ≤ (pname st).1.at_ ∧ Rise ((pname st).1.at_ + 1) M (pname st).2.rest := by
  unfold pname at hb ⊢
  split at hb
  · rename_i hk
    rw [if_pos hk]
    obtain ⟨_, t, r, hr, _⟩ := kind_some hk (by decide)
    rw [hr] at h
    simp only [St.hd, St.adv, hr, List.headD_cons, List.tail_cons]
    exact h
  · exact absurd hb (bad_fail st)

theorem rise_takeWhile (p : Tok → Bool) : ∀ {lo M : Nat} {l : List Tok}, Rise lo M l → ∃ m, Rise lo m (l.takeWhile p) ∧ Rise m M (l.dropWhile p)
  | lo, M, [], h => ⟨lo, Nat.le_refl lo, h⟩
  | lo, M, t :: l, h => by
    by_cases ht : p t = true
    · obtain ⟨m, h1, h2⟩ := rise_takeWhile p h.2
      simp only [List.takeWhile_cons, List.dropWhile_cons, ht, if_true]
      exact ⟨m, ⟨h.1, h1⟩, h2⟩
    · simp only [List.takeWhile_cons, List.dropWhile_cons, ht]
      exact ⟨lo, Nat.le_refl lo, h⟩

theorem pnames_at {st : St} {lo M : Nat} (h : Rise lo M st.rest) (hb : (pnames st).2.bad = none) : ∃ m, Rise lo m (pnames st).1 ∧ Rise m M (pnames st).2.rest := by
  unfold pnames at hb ⊢
  split at hb
  · rename_i hk
    rw [if_pos hk]
    exact rise_takeWhile _ h
  · rename_i hk
    rw [hb] at hk
    simp at hk

theorem step_pnames (st : St) : Step 0 st (pnames st).2 := by
  refine ⟨.inl ?_, ?_, fun lo M h hb => ?_⟩
  · unfold pnames
    split
    · rename_i hk
      simp only [Th.mu, hk, if_true, Option.isNone_none]
      have := (List.dropWhile_sublist (l := st.rest) (fun t : Tok => t.k == 2)).length_le
      omega
    · exact Nat.le_refl _
  · unfold pnames
    split
    · rename_i hk
      intro _
      simpa using hk
    · exact id
  · obtain ⟨m, h1, h2⟩ := pnames_at h hb
    exact h2.down (by have := h1.len; omega)

end Go.Proofs.YtgahgkddaljmkaaGreatDoor.Th

namespace Go.Proofs.YtgahgkddaljmkaaGreatDoor.Th

theorem InBinds.imp {P Q : Ex → Nat → Nat → Prop} (h : ∀ e lo hi, P e lo hi → Q e lo hi) : ∀ {lo hi : Nat} {l : List Tok} {es : List Ex}, InBinds P lo hi l es → InBinds Q lo hi l es
  | _, _, [], [], k => k
  | _, _, _ :: _, _ :: _, ⟨k1, m, k2, k3⟩ => ⟨k1, m, h _ _ _ k2, InBinds.imp h k3⟩
  | _, _, [], _ :: _, k => k.elim
  | _, _, _ :: _, [], k => k.elim

theorem InArms.imp {P Q : Ex → Nat → Nat → Prop} (h : ∀ e lo hi, P e lo hi → Q e lo hi) : ∀ {lo hi : Nat} {l : List (Nat × List Tok)} {es : List Ex}, InArms P lo hi l es → InArms Q lo hi l es
  | _, _, [], [], k => k
  | _, _, _ :: _, _ :: _, ⟨m1, m2, k1, k2, k3⟩ => ⟨m1, m2, k1, h _ _ _ k2, InArms.imp h k3⟩
  | _, _, [], _ :: _, k => k.elim
  | _, _, _ :: _, [], k => k.elim

theorem In.succ : ∀ (n : Nat) (e : Ex) (lo hi : Nat), In n e lo hi → In (n + 1) e lo hi
  | 0, _, _, _, h => h.elim
  | n + 1, e, lo, hi, h => by
    have ih := In.succ n
    refine ⟨h.1, ?_⟩
    rcases h.2 with h | h | ⟨hk, b, m, h1, h2, h3⟩ | ⟨hk, e1, e2, m, h1, h2, h3⟩ | ⟨hk, b, ps, m, h1, h2, h3⟩ | ⟨hk, b, bs, m, h1, h2, h3⟩
    · exact .inl h
    · exact .inr (.inl h)
    · exact .inr (.inr (.inl ⟨hk, b, m, h1, h2, ih _ _ _ h3⟩))
    · exact .inr (.inr (.inr (.inl ⟨hk, e1, e2, m, h1, ih _ _ _ h2, ih _ _ _ h3⟩)))
    · exact .inr (.inr (.inr (.inr (.inl ⟨hk, b, ps, m, h1, h2.imp ih, ih _ _ _ h3⟩))))
    · exact .inr (.inr (.inr (.inr (.inr ⟨hk, b, bs, m, h1, ih _ _ _ h2, h3.imp ih⟩))))

theorem In.mono {n m : Nat} {e : Ex} {lo hi : Nat} (h : In n e lo hi) (hm : n ≤ m) : In m e lo hi := by
  induction hm with
  | refl => exact h
  | step _ ih => exact In.succ _ _ _ _ ih

theorem InBinds.down {P : Ex → Nat → Nat → Prop} {lo lo' hi : Nat} {l : List Tok} {es : List Ex} (h : InBinds P lo hi l es) (hl : lo' ≤ lo) : InBinds P lo' hi l es := by
  cases l <;> cases es
  · exact Nat.le_trans hl h
  · exact h.elim
  · exact h.elim
  · exact ⟨Nat.le_trans hl h.1, h.2⟩

theorem In.down : ∀ {n : Nat} {e : Ex} {lo lo' hi : Nat}, In n e lo hi → lo' ≤ lo → In n e lo' hi
  | 0, _, _, _, _, h, _ => h.elim
  | n + 1, e, lo, lo', hi, h, hl => by
    refine ⟨Nat.le_trans hl h.1, ?_⟩
    rcases h.2 with h | h | ⟨hk, b, m, h1, h2, h3⟩ | ⟨hk, e1, e2, m, h1, h2, h3⟩ | ⟨hk, b, ps, m, h1, h2, h3⟩ | ⟨hk, b, bs, m, h1, h2, h3⟩
    · exact .inl h
    · exact .inr (.inl ⟨h.1, Nat.le_trans hl h.2.1, h.2.2⟩)
    · exact .inr (.inr (.inl ⟨hk, b, m, h1, h2.down hl, h3⟩))
    · exact .inr (.inr (.inr (.inl ⟨hk, e1, e2, m, h1, h2.down hl, h3⟩)))
    · exact .inr (.inr (.inr (.inr (.inl ⟨hk, b, ps, m, h1, h2.down hl, h3⟩))))
    · exact .inr (.inr (.inr (.inr (.inr ⟨hk, b, bs, m, h1, h2.down hl, h3⟩))))

/-- What a reader of an expression does: it goes on, and the names of what it read stand in order before what is left. -/
structure Fine (d : Nat) (st : St) (e : Ex) (st' : St) : Prop where
  step : Step d st st'
  inn : ∀ lo M, Rise lo M st.rest → st'.bad = none → ∃ N hi, In N e lo hi ∧ Rise hi M st'.rest

theorem Fine.weak {d d' : Nat} {st st' : St} {e : Ex} (h : Fine d st e st') (hd : d' ≤ d) : Fine d' st e st' := ⟨h.step.weak hd, h.inn⟩

/-- A step before. -/
theorem Fine.pre {d d' : Nat} {a b c : St} {e : Ex} (h : Step d a b) (k : Fine d' b e c) : Fine (d + d') a e c :=
  ⟨h.trans k.step, fun lo M hr hc => by
    obtain ⟨N, hi, h1, h2⟩ := k.inn _ M (h.rise lo M hr (k.step.bad hc)) hc
    exact ⟨N, hi, h1.down (by omega), h2⟩⟩

/-- A step behind. -/
theorem Fine.post {d d' : Nat} {a b c : St} {e : Ex} (h : Fine d a e b) (k : Step d' b c) : Fine (d + d') a e c :=
  ⟨h.step.trans k, fun lo M hr hc => by
    obtain ⟨N, hi, h1, h2⟩ := h.inn lo M hr (k.bad hc)
    exact ⟨N, hi, h1, (k.rise _ M h2 hc).down (by omega)⟩⟩

theorem Fine.fail (d : Nat) (st : St) (e : Ex) : Fine d st e st.fail := ⟨step_fail d st, fun _ _ _ h => absurd h (bad_fail st)⟩

theorem fine_leaf {d : Nat} {st st' : St} {e : Ex} (h : Step d st st') (hk : e.kind = 1 ∨ e.kind = 3) : Fine d st e st' :=
  ⟨h, fun lo M hr hc => ⟨1, lo, ⟨Nat.le_refl _, .inl hk⟩, (h.rise lo M hr hc).down (by omega)⟩⟩

theorem fine_two {d d' : Nat} {a b c : St} {e e1 e2 : Ex} (hk : e.kind = 5 ∨ e.kind = 6) (he : e.kids = [e1, e2]) (h : Fine d a e1 b) (k : Fine d' b e2 c) : Fine (d + d') a e c :=
  ⟨h.step.trans k.step, fun lo M hr hc => by
    obtain ⟨N1, m, h1, h2⟩ := h.inn lo M hr (k.step.bad hc)
    obtain ⟨N2, hi, k1, k2⟩ := k.inn m M h2 hc
    exact ⟨max N1 N2 + 1, hi, ⟨Nat.le_trans h1.le k1.le, .inr (.inr (.inr (.inl ⟨hk, e1, e2, m, he, h1.mono (by omega), k1.mono (by omega)⟩)))⟩, k2⟩⟩

theorem fine_maker (st : St) : Fine 1 st (pmaker st).1 (pmaker st).2 :=
  fine_leaf ((((step_pnumber 1 99 st).trans (step_want (s := [44]) (by simp) _)).trans (step_pnumber 0 9 _)).trans (step_want (s := [125]) (by simp) _) |>.weak (by omega)) (.inr rfl)

theorem fine_name {st : St} (h : st.kind 2 = true) : Fine 1 st (mkName st.hd) st.adv := by
  refine ⟨step_kind h (by decide), fun lo M hr _ => ?_⟩
  obtain ⟨_, t, r, hr', _⟩ := kind_some h (by decide)
  rw [hr'] at hr
  simp only [St.hd, St.adv, hr', List.headD_cons, List.tail_cons]
  exact ⟨1, t.at_ + 1, ⟨by have := hr.1; omega, .inr (.inl ⟨rfl, hr.1, by simp [mkName]⟩)⟩, hr.2⟩

/-- A reader has an answer where there is fuel enough. -/
def RdOK (n : Nat) (ex : Rd) : Prop := ∀ c st, mu st + 1 < n → ∃ r, ex c st = some r ∧ Fine 0 st r.1 r.2

theorem patom_ok {n : Nat} {ex : Rd} (hx : RdOK n ex) {st : St} (h : mu st < n) : ∃ r, patom ex st = some r ∧ Fine 1 st r.1 r.2 := by
  unfold patom
  split
  · rename_i hk
    exact ⟨_, rfl, fine_name hk⟩
  split
  · rename_i hk
    exact ⟨_, rfl, fine_leaf (step_kind hk (by decide)) (.inl rfl)⟩
  split
  · rename_i hk
    exact ⟨_, rfl, (Fine.pre (step_is hk (by simp)) (fine_maker _)).weak (by omega)⟩
  split
  · rename_i hk
    have hs := step_is hk (by simp)
    have hb := (is_some hk (by simp)).1
    obtain ⟨r, h1, h2⟩ := hx false st.adv (by
      have h3 : mu st.adv + 1 ≤ mu st := by
        rcases hs.mu with h3 | h3
        · exact h3
        · have : mu st ≠ 0 := by simp [mu, hb]
          omega
      omega)
    rw [h1]
    exact ⟨_, rfl, ((Fine.pre hs h2).post (step_want (s := [41]) (by simp) _)).weak (by omega)⟩
  · exact ⟨_, rfl, Fine.fail _ _ _⟩

end Go.Proofs.YtgahgkddaljmkaaGreatDoor.Th

namespace Go.Proofs.YtgahgkddaljmkaaGreatDoor.Th

theorem begins_bad {st : St} (h : begins st = true) : st.bad = none := by
  unfold begins at h
  simp only [Bool.or_eq_true] at h
  rcases h with ((h | h) | h) | h
  · exact (kind_some h (by decide)).1
  · exact (kind_some h (by decide)).1
  · exact (is_some h (by simp)).1
  · exact (is_some h (by simp)).1

theorem mu_pos {st : St} (h : st.bad = none) : 0 < mu st := by simp [mu, h]

theorem mu_adv {st : St} (h : Step 1 st st.adv) (hb : st.bad = none) : mu st.adv + 1 ≤ mu st := by
  have := mu_pos hb
  rcases h.mu with h | h <;> omega

theorem pcalls_ok {n : Nat} {ex : Rd} (hx : RdOK n ex) : ∀ (k : Nat) (e : Ex) (st0 st : St), Fine 0 st0 e st → mu st < k → mu st < n → ∃ r, pcalls ex k e st = some r ∧ Fine 0 st0 r.1 r.2
  | 0, _, _, _, _, h, _ => absurd h (Nat.not_lt_zero _)
  | k + 1, e, st0, st, hf, hk, hn => by
    unfold pcalls
    split
    · rename_i hb
      have hpos := mu_pos (begins_bad hb)
      obtain ⟨r, h1, h2⟩ := patom_ok hx hn
      rw [h1]
      exact pcalls_ok hx k (mkCall e r.1) st0 r.2 ((fine_two (.inl rfl) rfl hf h2).weak (by omega)) (by rcases h2.step.mu with h | h <;> omega) (by have := h2.step.le; omega)
    · exact ⟨_, rfl, hf⟩

theorem pcall_ok {n : Nat} {ex : Rd} (hx : RdOK n ex) {k : Nat} {st : St} (hk : mu st < k) (hn : mu st < n) : ∃ r, pcall ex k st = some r ∧ Fine 0 st r.1 r.2 := by
  unfold pcall
  obtain ⟨r, h1, h2⟩ := patom_ok hx hn
  rw [h1]
  have := h2.step.le
  exact pcalls_ok hx k r.1 st r.2 (h2.weak (by omega)) (by omega) (by omega)

theorem pops_ok {n : Nat} {sub : St → Option (Ex × St)} (hs : ∀ st, mu st < n → ∃ r, sub st = some r ∧ Fine 0 st r.1 r.2) {a b : List UInt8} (ha : a ≠ []) (hb : b ≠ []) : ∀ (k : Nat) (e : Ex) (st0 st : St), Fine 0 st0 e st → mu st < k → mu st < n → ∃ r, pops sub a b k e st = some r ∧ Fine 0 st0 r.1 r.2
  | 0, _, _, _, _, h, _ => absurd h (Nat.not_lt_zero _)
  | k + 1, e, st0, st, hf, hk, hn => by
    unfold pops
    split
    · rename_i hc
      simp only [Bool.or_eq_true] at hc
      have h1 : Step 1 st st.adv := by
        rcases hc with h | h
        · exact step_is h ha
        · exact step_is h hb
      have h0 : st.bad = none := by
        rcases hc with h | h
        · exact (is_some h ha).1
        · exact (is_some h hb).1
      have hm := mu_adv h1 h0
      obtain ⟨r, h2, h3⟩ := hs st.adv (by omega)
      rw [h2]
      have := h3.step.le
      exact pops_ok hs ha hb k (mkOp st.hd e r.1) st0 r.2 ((fine_two (.inr rfl) rfl hf (Fine.pre h1 h3)).weak (by omega)) (by omega) (by omega)
    · exact ⟨_, rfl, hf⟩

theorem pproduct_ok {n : Nat} {ex : Rd} (hx : RdOK n ex) {st : St} (hn : mu st < n) : ∃ r, pproduct ex n st = some r ∧ Fine 0 st r.1 r.2 := by
  unfold pproduct
  obtain ⟨r, h1, h2⟩ := pcall_ok hx hn hn
  rw [h1]
  have := h2.step.le
  exact pops_ok (fun st h => pcall_ok hx h h) (by simp) (by simp) n r.1 st r.2 h2 (by omega) (by omega)

theorem psum_ok {n : Nat} {ex : Rd} (hx : RdOK n ex) {st : St} (hn : mu st < n) : ∃ r, psum ex n st = some r ∧ Fine 0 st r.1 r.2 := by
  unfold psum
  obtain ⟨r, h1, h2⟩ := pproduct_ok hx hn
  rw [h1]
  have := h2.step.le
  exact pops_ok (fun st h => pproduct_ok hx h) (by simp) (by simp) n r.1 st r.2 h2 (by omega) (by omega)

theorem ptest_ok {n : Nat} {ex : Rd} (hx : RdOK n ex) {st : St} (hn : mu st < n) : ∃ r, ptest ex n st = some r ∧ Fine 0 st r.1 r.2 := by
  unfold ptest
  obtain ⟨r, h1, h2⟩ := psum_ok hx hn
  rw [h1]
  have hle := h2.step.le
  simp only [Option.bind_some]
  split
  · rename_i hc
    simp only [Bool.or_eq_true] at hc
    have h3 : Step 1 r.2 r.2.adv := by
      rcases hc with h | h
      · exact step_is h (by simp)
      · exact step_is h (by simp)
    have := h3.le
    obtain ⟨q, h4, h5⟩ := psum_ok hx (st := r.2.adv) (by omega)
    rw [h4]
    exact ⟨_, rfl, (fine_two (.inr rfl) rfl h2 (Fine.pre h3 h5)).weak (by omega)⟩
  · exact ⟨_, rfl, h2⟩

theorem InBinds.snoc {P : Ex → Nat → Nat → Prop} : ∀ {lo m hi : Nat} {l : List Tok} {es : List Ex} {t : Tok} {e : Ex}, InBinds P lo m l es → m ≤ t.at_ → P e (t.at_ + 1) hi → InBinds P lo hi (l ++ [t]) (es ++ [e])
  | _lo, _m, hi, [], [], _t, _e, h, hm, he => ⟨Nat.le_trans h hm, hi, he, Nat.le_refl _⟩
  | _lo, _m, _hi, _ :: _, _ :: _, _t, _e, ⟨h1, m1, h2, h3⟩, hm, he => ⟨h1, m1, h2, InBinds.snoc h3 hm he⟩
  | _, _, _, [], _ :: _, _, _, h, _, _ => h.elim
  | _, _, _, _ :: _, [], _, _, h, _, _ => h.elim

theorem InArms.snoc {P : Ex → Nat → Nat → Prop} : ∀ {lo m m1 hi : Nat} {l : List (Nat × List Tok)} {es : List Ex} {a : Nat × List Tok} {e : Ex}, InArms P lo m l es → Rise (m + 1) m1 a.2 → P e m1 hi → InArms P lo hi (l ++ [a]) (es ++ [e])
  | lo, m, m1, hi, [], [], a, e, h, hm, he => ⟨m1, hi, hm.down (by have h' : lo ≤ m := h; omega), he, Nat.le_refl _⟩
  | lo, m, m1, hi, _ :: _, _ :: _, a, e, ⟨x, y, h1, h2, h3⟩, hm, he => ⟨x, y, h1, h2, InArms.snoc h3 hm he⟩
  | _, _, _, _, [], _ :: _, _, _, h, _, _ => h.elim
  | _, _, _, _, _ :: _, [], _, _, h, _, _ => h.elim

structure FineB (st : St) (l : List Tok) (es : List Ex) (st' : St) : Prop where
  step : Step 0 st st'
  inn : ∀ lo M, Rise lo M st.rest → st'.bad = none → ∃ N m, InBinds (In N) lo m l es ∧ Rise m M st'.rest

theorem pbinds_ok {n : Nat} {ex : Rd} (hx : RdOK n ex) : ∀ (k : Nat) (l : List Tok) (es : List Ex) (st0 st : St), FineB st0 l es st → mu st < k → mu st + 1 < n → ∃ r, pbinds ex k l es st = some r ∧ FineB st0 r.1 r.2.1 r.2.2
  | 0, _, _, _, _, _, h, _ => absurd h (Nat.not_lt_zero _)
  | k + 1, l, es, st0, st, hf, hk, hn => by
    unfold pbinds
    have s1 := step_pname st
    have s2 := step_want (s := [61]) (by simp) (pname st).2
    have l1 := s1.le
    have l2 := s2.le
    obtain ⟨r, h1, h2⟩ := hx true (want [61] (pname st).2) (by omega)
    have l3 := h2.step.le
    have hB : FineB st0 (l ++ [(pname st).1]) (es ++ [r.1]) r.2 := by
      refine ⟨((hf.step.trans s1).trans (s2.trans h2.step)).weak (by omega), fun lo M hr hb => ?_⟩
      have b2 := h2.step.bad hb
      have b1 := s2.bad b2
      obtain ⟨N, m, i1, i2⟩ := hf.inn lo M hr (s1.bad b1)
      obtain ⟨j1, j2⟩ := pname_at i2 b1
      obtain ⟨N2, hi, k1, k2⟩ := h2.inn _ M (s2.rise _ M j2 b2) hb
      exact ⟨max N N2, hi, (i1.imp (fun e a b h => h.mono (Nat.le_max_left _ _))).snoc j1 ((k1.mono (Nat.le_max_right _ _)).down (by omega)), k2⟩
    simp only [h1, Option.bind_some]
    split
    · rename_i hc
      have s3 := step_is hc (by simp)
      have m3 := mu_adv s3 (is_some hc (by simp)).1
      exact pbinds_ok hx k _ _ st0 r.2.adv ⟨(hB.step.trans s3).weak (by omega), fun lo M hr hb => by
        obtain ⟨N, m, i1, i2⟩ := hB.inn lo M hr (s3.bad hb)
        exact ⟨N, m, i1, (s3.rise _ M i2 hb).down (by omega)⟩⟩ (by omega) (by omega)
    · exact ⟨_, rfl, hB⟩

theorem fineB_nil (st : St) : FineB st [] [] st := ⟨Step.refl st, fun lo _M hr _ => ⟨0, lo, Nat.le_refl _, hr⟩⟩

theorem plet_ok {n : Nat} {ex : Rd} (hx : RdOK n ex) (outer : Bool) {st : St} (hn : mu st + 1 < n) : ∃ r, plet ex n outer st = some r ∧ Fine 0 st r.1 r.2 := by
  unfold plet
  have hs : Step 0 st (if st.is sRec then st.adv else st) := by
    split
    · rename_i h
      exact (step_is h (by simp [sRec])).weak (by omega)
    · exact Step.refl st
  have hl := hs.le
  obtain ⟨r, h1, h2⟩ := pbinds_ok hx n [] [] (if st.is sRec then st.adv else st) (if st.is sRec then st.adv else st) (fineB_nil _) (by omega) (by omega)
  have s3 := step_want (s := sIn) (by simp [sIn]) r.2.2
  have l2 := h2.step.le
  have l3 := s3.le
  obtain ⟨q, h4, h5⟩ := hx outer (want sIn r.2.2) (by omega)
  simp only [h1, h4, Option.bind_some]
  refine ⟨_, rfl, ((hs.trans h2.step).trans (s3.trans h5.step)).weak (by omega), fun lo M hr hb => ?_⟩
  have b5 := h5.step.bad hb
  have b3 := s3.bad b5
  obtain ⟨N, m, i1, i2⟩ := h2.inn lo M ((hs.rise lo M hr (h2.step.bad b3)).down (by omega)) b3
  obtain ⟨N2, hi, k1, k2⟩ := h5.inn _ M (s3.rise _ M i2 b5) hb
  refine ⟨max N N2 + 1, hi, ⟨?_, .inr (.inr (.inr (.inr (.inl ⟨?_, q.1, r.2.1, m, rfl, i1.imp (fun e a b h => h.mono (Nat.le_max_left _ _)), (k1.mono (Nat.le_max_right _ _)).down (by omega)⟩))))⟩, k2⟩
  · have := i1.len
    have := k1.le
    omega
  · show (if _ then 8 else 7) = 7 ∨ (if _ then 8 else 7) = 8
    split
    · exact .inr rfl
    · exact .inl rfl

structure FineA (st : St) (l : List (Nat × List Tok)) (es : List Ex) (st' : St) : Prop where
  step : Step 0 st st'
  inn : ∀ lo M, Rise lo M st.rest → st'.bad = none → ∃ N m, InArms (In N) lo m l es ∧ Rise m M st'.rest

theorem parm_ok {n : Nat} {ex : Rd} (hx : RdOK n ex) (outer : Bool) {st : St} (hn : mu st + 1 < n) :
    ∃ r, parm ex outer st = some r ∧ Step 0 st r.2.2 ∧ ∀ lo M, Rise lo M st.rest → r.2.2.bad = none → ∃ N m hi, Rise (lo + 1) m r.1.2 ∧ In N r.2.1 m hi ∧ Rise hi M r.2.2.rest := by
  unfold parm
  have s1 := step_want (s := [60]) (by simp) st
  have s2 := step_pnumber 1 99 (want [60] st)
  have s3 := step_want (s := [62]) (by simp) (pnumber 1 99 (want [60] st)).2
  have s123 := (s1.trans s2).trans s3
  have s4 := step_pnames (want [62] (pnumber 1 99 (want [60] st)).2)
  have s5 := step_want (s := [45, 62]) (by simp) (pnames (want [62] (pnumber 1 99 (want [60] st)).2)).2
  have l1 := s123.le
  have l4 := s4.le
  have l5 := s5.le
  obtain ⟨r, h1, h2⟩ := hx outer (want [45, 62] (pnames (want [62] (pnumber 1 99 (want [60] st)).2)).2) (by omega)
  simp only [h1, Option.bind_some]
  refine ⟨_, rfl, ((s123.trans s4).trans (s5.trans h2.step)).weak (by omega), fun lo M hr hb => ?_⟩
  have b5 := h2.step.bad hb
  have b4 := s5.bad b5
  obtain ⟨m, i1, i2⟩ := pnames_at (s123.rise lo M hr (s4.bad b4)) b4
  obtain ⟨N, hi, k1, k2⟩ := h2.inn _ M (s5.rise _ M i2 b5) hb
  exact ⟨N, m, hi, i1.down (by omega), k1.down (by omega), k2⟩

theorem parms_ok {n : Nat} {ex : Rd} (hx : RdOK n ex) (outer : Bool) : ∀ (k : Nat) (l : List (Nat × List Tok)) (es : List Ex) (st0 st : St), FineA st0 l es st → mu st < k → mu st + 1 < n → ∃ r, parms ex outer k l es st = some r ∧ FineA st0 r.1 r.2.1 r.2.2
  | 0, _, _, _, _, _, h, _ => absurd h (Nat.not_lt_zero _)
  | k + 1, l, es, st0, st, hf, hk, hn => by
    unfold parms
    obtain ⟨r, h1, h2, h3⟩ := parm_ok hx outer hn
    have l2 := h2.le
    have hA : FineA st0 (l ++ [r.1]) (es ++ [r.2.1]) r.2.2 := by
      refine ⟨(hf.step.trans h2).weak (by omega), fun lo M hr hb => ?_⟩
      obtain ⟨N, m, i1, i2⟩ := hf.inn lo M hr (h2.bad hb)
      obtain ⟨N2, m1, hi, j1, j2, j3⟩ := h3 m M i2 hb
      exact ⟨max N N2, hi, (i1.imp (fun e a b h => h.mono (Nat.le_max_left _ _))).snoc j1 (j2.mono (Nat.le_max_right _ _)), j3⟩
    simp only [h1, Option.bind_some]
    split
    · rename_i hc
      unfold armFollows at hc
      simp only [Bool.and_eq_true] at hc
      have s3 := step_is hc.1 (by simp)
      have m3 := mu_adv s3 (is_some hc.1 (by simp)).1
      exact parms_ok hx outer k _ _ st0 r.2.2.adv ⟨(hA.step.trans s3).weak (by omega), fun lo M hr hb => by
        obtain ⟨N, m, i1, i2⟩ := hA.inn lo M hr (s3.bad hb)
        exact ⟨N, m, i1, (s3.rise _ M i2 hb).down (by omega)⟩⟩ (by omega) (by omega)
    · exact ⟨_, rfl, hA⟩

theorem fineA_nil (st : St) : FineA st [] [] st := ⟨Step.refl st, fun lo _M hr _ => ⟨0, lo, Nat.le_refl _, hr⟩⟩

theorem pcase_ok {n : Nat} {ex : Rd} (hx : RdOK n ex) (outer : Bool) {st : St} (hn : mu st + 1 < n) : ∃ r, pcase ex n outer st = some r ∧ Fine 0 st r.1 r.2 := by
  unfold pcase
  obtain ⟨r, h1, h2⟩ := hx false st hn
  have s3 := step_want (s := sOf) (by simp [sOf]) r.2
  have l2 := h2.step.le
  have l3 := s3.le
  obtain ⟨q, h4, h5⟩ := parms_ok hx outer n [] [] (want sOf r.2) (want sOf r.2) (fineA_nil _) (by omega) (by omega)
  simp only [h1, h4, Option.bind_some]
  refine ⟨_, rfl, (h2.step.trans (s3.trans h5.step)).weak (by omega), fun lo M hr hb => ?_⟩
  have b5 := h5.step.bad hb
  obtain ⟨N, m, i1, i2⟩ := h2.inn lo M hr (s3.bad b5)
  obtain ⟨N2, hi, k1, k2⟩ := h5.inn m M ((s3.rise _ M i2 b5).down (by omega)) hb
  refine ⟨max N N2 + 1, hi, ⟨?_, .inr (.inr (.inr (.inr (.inr ⟨rfl, r.1, q.2.1, m, rfl, i1.mono (Nat.le_max_left _ _), k1.imp (fun e a b h => h.mono (Nat.le_max_right _ _))⟩))))⟩, k2⟩
  have := i1.le
  have := k1.len
  omega

theorem pfun_ok {n : Nat} {ex : Rd} (hx : RdOK n ex) (outer : Bool) {st : St} (hn : mu st + 1 < n) : ∃ r, pfun ex outer st = some r ∧ Fine 0 st r.1 r.2 := by
  unfold pfun
  have s1 := step_pname st
  have s2 := step_pnames (pname st).2
  have s3 := step_want (s := [46]) (by simp) (pnames (pname st).2).2
  have l1 := s1.le
  have l2 := s2.le
  have l3 := s3.le
  obtain ⟨r, h1, h2⟩ := hx outer (want [46] (pnames (pname st).2).2) (by omega)
  simp only [h1, Option.bind_some]
  refine ⟨_, rfl, ((s1.trans s2).trans (s3.trans h2.step)).weak (by omega), fun lo M hr hb => ?_⟩
  have b3 := h2.step.bad hb
  have b2 := s3.bad b3
  have b1 := s2.bad b2
  obtain ⟨i1, i2⟩ := pname_at hr b1
  obtain ⟨m, j1, j2⟩ := pnames_at i2 b2
  obtain ⟨N, hi, k1, k2⟩ := h2.inn _ M (s3.rise _ M j2 b3) hb
  refine ⟨N + 1, hi, ⟨?_, .inr (.inr (.inl ⟨rfl, r.1, m, rfl, ⟨i1, j1⟩, k1.down (by omega)⟩))⟩, k2⟩
  have := j1.len
  have := k1.le
  omega

theorem pexpr_ok : ∀ (n : Nat), RdOK n (pexpr n)
  | 0 => fun _ _ h => absurd h (Nat.not_lt_zero _)
  | n + 1 => fun outer st h => by
    have hx := pexpr_ok n
    have hn : mu st < n := by omega
    show ∃ r, pbody (pexpr n) n outer st = some r ∧ Fine 0 st r.1 r.2
    unfold pbody
    split
    · rename_i hc
      have s := step_is hc (by simp [sLet])
      have := mu_adv s (is_some hc (by simp [sLet])).1
      obtain ⟨r, h1, h2⟩ := plet_ok hx outer (st := st.adv) (by omega)
      exact ⟨r, h1, (Fine.pre s h2).weak (by omega)⟩
    split
    · rename_i hc
      have s := step_is hc (by simp [sCase])
      have := mu_adv s (is_some hc (by simp [sCase])).1
      obtain ⟨r, h1, h2⟩ := pcase_ok hx outer (st := st.adv) (by omega)
      exact ⟨r, h1, (Fine.pre s h2).weak (by omega)⟩
    split
    · rename_i hc
      have s := step_is hc (by simp)
      have := mu_adv s (is_some hc (by simp)).1
      obtain ⟨r, h1, h2⟩ := pfun_ok hx outer (st := st.adv) (by omega)
      exact ⟨r, h1, (Fine.pre s h2).weak (by omega)⟩
    · exact ptest_ok hx hn

end Go.Proofs.YtgahgkddaljmkaaGreatDoor.Th

namespace Go.Proofs.YtgahgkddaljmkaaGreatDoor
namespace Th

theorem In.hi {n : Nat} {e : Ex} {lo hi : Nat} (h : In n e lo hi) : lo ≤ hi := h.le

theorem InLines.mono {n m : Nat} (hm : n ≤ m) : ∀ {lo hi : Nat} {l : List Line}, InLines n lo hi l → InLines m lo hi l
  | _, _, [], h => h
  | _, _, _ :: _, ⟨h0, m1, m2, h1, h2, h3⟩ => ⟨h0, m1, m2, h1, h2.mono hm, InLines.mono hm h3⟩

theorem InLines.snoc {n : Nat} : ∀ {lo m m1 hi : Nat} {l : List Line} {x : Line}, InLines n lo m l → m ≤ x.name.at_ → Rise (x.name.at_ + 1) m1 x.params → In n x.e m1 hi → InLines n lo hi (l ++ [x])
  | _lo, _m, m1, hi, [], _x, h, hm, h1, h2 => ⟨Nat.le_trans h hm, m1, hi, h1, h2, Nat.le_refl _⟩
  | _lo, _m, _m1, _hi, _ :: _, _x, ⟨h0, a, b, k1, k2, k3⟩, hm, h1, h2 => ⟨h0, a, b, k1, k2, InLines.snoc k3 hm h1 h2⟩

structure FineL (st : St) (l : List Line) (st' : St) : Prop where
  step : Step 0 st st'
  inn : ∀ lo M, Rise lo M st.rest → st'.bad = none → ∃ N m, InLines N lo m l ∧ Rise m M st'.rest

theorem pline_ok {n : Nat} {ex : Rd} (hx : RdOK n ex) {st : St} (hn : mu st + 1 < n) :
    ∃ r, pline ex st = some r ∧ Step 1 st r.2 ∧ ∀ lo M, Rise lo M st.rest → r.2.bad = none → lo ≤ r.1.name.at_ ∧ ∃ N m hi, Rise (r.1.name.at_ + 1) m r.1.params ∧ In N r.1.e m hi ∧ Rise hi M r.2.rest := by
  unfold pline
  have s1 := step_pname st
  have s2 := step_pnames (pname st).2
  have s3 := step_want (s := [61]) (by simp) (pnames (pname st).2).2
  have l1 := s1.le
  have l2 := s2.le
  have l3 := s3.le
  obtain ⟨r, h1, h2⟩ := hx true (want [61] (pnames (pname st).2).2) (by omega)
  have s4 := step_want (s := [59]) (by simp) r.2
  simp only [h1, Option.bind_some]
  refine ⟨_, rfl, ((s1.trans s2).trans ((s3.trans h2.step).trans s4)).weak (by omega), fun lo M hr hb => ?_⟩
  have b4 := s4.bad hb
  have b3 := h2.step.bad b4
  have b2 := s3.bad b3
  have b1 := s2.bad b2
  obtain ⟨i1, i2⟩ := pname_at hr b1
  obtain ⟨m, j1, j2⟩ := pnames_at i2 b2
  obtain ⟨N, hi, k1, k2⟩ := h2.inn _ M (s3.rise _ M j2 b3) b4
  exact ⟨i1, N, m, hi, j1, k1.down (by omega), (s4.rise _ M k2 hb).down (by omega)⟩

theorem plines_ok {n : Nat} {ex : Rd} (hx : RdOK n ex) : ∀ (k : Nat) (l : List Line) (st0 st : St), FineL st0 l st → mu st < k → mu st + 1 < n → ∃ r, plines ex k l st = some r ∧ FineL st0 r.1 r.2
  | 0, _, _, _, _, h, _ => absurd h (Nat.not_lt_zero _)
  | k + 1, l, st0, st, hf, hk, hn => by
    unfold plines
    split
    · rename_i hc
      simp only [Bool.and_eq_true, Option.isNone_iff_eq_none] at hc
      have hpos := mu_pos hc.1
      obtain ⟨r, h1, h2, h3⟩ := pline_ok hx hn
      have l2 := h2.le
      simp only [h1, Option.bind_some]
      refine plines_ok hx k (l ++ [r.1]) st0 r.2 ⟨(hf.step.trans h2).weak (by omega), fun lo M hr hb => ?_⟩ (by rcases h2.mu with h | h <;> omega) (by omega)
      obtain ⟨N, m, i1, i2⟩ := hf.inn lo M hr (h2.bad hb)
      obtain ⟨j0, N2, m1, hi, j1, j2, j3⟩ := h3 m M i2 hb
      exact ⟨max N N2, hi, (i1.mono (Nat.le_max_left _ _)).snoc j0 j1 (j2.mono (Nat.le_max_right _ _)), j3⟩
    · exact ⟨_, rfl, hf⟩

/- The tokens. -/
theorem takeWhile_add_drop (p : UInt8 → Bool) (t : List UInt8) : (t.takeWhile p).length + (t.drop (t.takeWhile p).length).length = t.length := by
  rw [List.length_drop]
  have := (List.takeWhile_sublist (l := t) p).length_le
  omega

theorem first_len (t : List UInt8) : (first t).2.length ≤ t.length := by
  unfold first
  split
  · simp
  · rename_i c r
    split
    · unfold word
      have := (List.takeWhile_sublist (l := c :: r) isWc).length_le
      split <;> exact this
    split
    · unfold numb
      have := (List.takeWhile_sublist (l := c :: r) isDig).length_le
      split
      · simp
      · exact this
    split
    · simp
    · simp only [List.length_take]
      omega

theorem first_pos (t : List UInt8) (h : ¬ (first t).1 ≤ 1) : 0 < (first t).2.length := by
  unfold first at h ⊢
  split at h
  · simp at h
  · rename_i c r
    split at h
    · rename_i hc
      rw [if_pos hc]
      have hw : isWc c = true := by simp [isWc, hc]
      unfold word
      split <;> simp [hw]
    · rename_i hc
      rw [if_neg hc]
      split at h
      · rename_i hd
        rw [if_pos hd]
        unfold numb at h ⊢
        split at h
        · simp at h
        · rename_i hl
          rw [if_neg hl]
          simp [hd]
      · rename_i hd
        rw [if_neg hd]
        split at h
        · simp at h
        · rename_i hz
          rw [if_neg hz]
          simp only [List.length_take]
          have : 0 < (c :: r).length := by simp
          omega

theorem toks_ne (n : Nat) (t : List UInt8) (p : Nat) : toks n t p ≠ [] := by
  cases n <;> simp [toks]

theorem toks_rise : ∀ (n : Nat) (t : List UInt8) (p : Nat), Rise p (p + t.length + 1) (toks n t p)
  | 0, t, p => ⟨Nat.le_refl p, by show p + 1 ≤ _; omega⟩
  | n + 1, t, p => by
    have h1 := takeWhile_add_drop isBl t
    have h2 := first_len (t.drop (t.takeWhile isBl).length)
    unfold toks
    refine ⟨by simp, ?_⟩
    split
    · show p + (t.takeWhile isBl).length + 1 ≤ _
      omega
    · rename_i hx
      have h3 := first_pos _ hx
      have ih := toks_rise n ((t.drop (t.takeWhile isBl).length).drop (first (t.drop (t.takeWhile isBl).length)).2.length) (p + (t.takeWhile isBl).length + (first (t.drop (t.takeWhile isBl).length)).2.length)
      have he : p + (t.takeWhile isBl).length + (first (t.drop (t.takeWhile isBl).length)).2.length + ((t.drop (t.takeWhile isBl).length).drop (first (t.drop (t.takeWhile isBl).length)).2.length).length + 1 = p + t.length + 1 := by
        rw [List.length_drop]
        omega
      rw [he] at ih
      exact ih.down (by show p + (t.takeWhile isBl).length + 1 ≤ _; omega)

theorem isDig_takeWhile (t : List UInt8) : ∀ c ∈ t.takeWhile isDig, isDig c = true := fun c hc => by
  have := List.all_takeWhile (p := isDig) (l := t)
  rw [List.all_eq_true] at this
  exact this c hc

theorem first_text (t : List UInt8) : ((first t).1 ≤ 1 → (first t).2 = []) ∧ (first t).1 ≤ 4 ∧ ((first t).1 = 3 → (first t).2.length ≤ 9 ∧ ∀ c ∈ (first t).2, isDig c = true) := by
  unfold first
  split
  · exact ⟨fun _ => rfl, by simp, fun h => by cases h⟩
  · rename_i c r
    split
    · unfold word
      split
      · exact ⟨fun h => absurd h (by simp), by simp, fun h => absurd h (by simp)⟩
      · exact ⟨fun h => absurd h (by simp), by simp, fun h => absurd h (by simp)⟩
    split
    · unfold numb
      split
      · exact ⟨fun _ => rfl, by simp, fun h => absurd h (by simp)⟩
      · rename_i hl
        exact ⟨fun h => absurd h (by simp), by simp, fun _ => ⟨Nat.not_lt.1 hl, isDig_takeWhile _⟩⟩
    split
    · exact ⟨fun _ => rfl, by simp, fun h => absurd h (by simp)⟩
    · exact ⟨fun h => absurd h (by simp), by simp, fun h => absurd h (by simp)⟩

/-- What is known of each token, and that the last one alone is an end. -/
theorem toks_good : ∀ (n : Nat) (t : List UInt8) (p : Nat), t.length < n → (∀ i x, (toks n t p)[i]? = some x → (x.k ≤ 1 ↔ i + 1 = (toks n t p).length)) ∧ ∀ x ∈ toks n t p, (x.k ≤ 1 → x.s = []) ∧ (2 ≤ x.k → x.s ≠ []) ∧ x.k ≤ 4 ∧ x.s.length ≤ t.length ∧ (x.k = 3 → x.s.length ≤ 9 ∧ ∀ c ∈ x.s, isDig c = true)
  | 0, t, p, h => absurd h (Nat.not_lt_zero _)
  | n + 1, t, p, h => by
    have h1 := takeWhile_add_drop isBl t
    generalize hu : t.drop (t.takeWhile isBl).length = u at h1
    have h2 := first_len u
    have h4 := first_text u
    have hd : toks (n + 1) t p = ⟨(first u).1, (first u).2, p + (t.takeWhile isBl).length⟩ :: (if (first u).1 ≤ 1 then [] else toks n (u.drop (first u).2.length) (p + (t.takeWhile isBl).length + (first u).2.length)) := by
      rw [← hu]
      rfl
    rw [hd]
    by_cases hx : (first u).1 ≤ 1
    · rw [if_pos hx]
      refine ⟨fun i x hi => ?_, fun x hm => ?_⟩
      · cases i with
        | zero =>
          simp only [List.getElem?_cons_zero, Option.some.injEq] at hi
          subst hi
          simp [hx]
        | succ i => simp at hi
      · simp only [List.mem_singleton] at hm
        subst hm
        exact ⟨h4.1, fun h => absurd hx (by simp only at h; omega), h4.2.1, by simp only; omega, h4.2.2⟩
    · rw [if_neg hx]
      have h3 := first_pos _ hx
      have ih := toks_good n (u.drop (first u).2.length) (p + (t.takeWhile isBl).length + (first u).2.length) (by rw [List.length_drop]; omega)
      have hlen : (u.drop (first u).2.length).length ≤ t.length := by rw [List.length_drop]; omega
      refine ⟨fun i x hi => ?_, fun x hm => ?_⟩
      · cases i with
        | zero =>
          simp only [List.getElem?_cons_zero, Option.some.injEq] at hi
          subst hi
          have hne := toks_ne n (u.drop (first u).2.length) (p + (t.takeWhile isBl).length + (first u).2.length)
          have := List.length_pos_iff.2 hne
          simp only [List.length_cons]
          constructor
          · intro h; exact absurd h hx
          · intro h; omega
        | succ i =>
          rw [List.getElem?_cons_succ] at hi
          rw [ih.1 i x hi, List.length_cons]
          omega
      · rcases List.mem_cons.1 hm with rfl | hm
        · exact ⟨h4.1, fun _ hn => by simp only at hn; rw [hn] at h3; simp at h3, h4.2.1, by simp only; omega, h4.2.2⟩
        · obtain ⟨a, b, c, d, e⟩ := ih.2 x hm
          exact ⟨a, b, c, by omega, e⟩

theorem Rise.at_lt : ∀ {lo M : Nat} {l : List Tok}, Rise lo M l → ∀ t ∈ l, t.at_ < M
  | _, _, [], _, t, h => by simp at h
  | lo, M, x :: l, hr, t, h => by
    rcases List.mem_cons.1 h with rfl | h
    · have := hr.2.len
      omega
    · exact Rise.at_lt hr.2 t h
end Th

theorem toks_all_good (s : ByteArray) (hs : s.size ≤ 600) : Good (theToks s) := by
  have hz : s.data.toList.length = s.size := by rw [Array.length_toList]; rfl
  have hr : Th.Rise 0 (s.size + 1) (theToks s) := by
    have := Th.toks_rise (s.size + 1) s.data.toList 0
    rw [hz, Nat.zero_add] at this
    exact this
  have hg := Th.toks_good (s.size + 1) s.data.toList 0 (by omega)
  rw [hz] at hg
  have hl := hr.len
  refine ⟨by omega, hg.1, fun t ht => ?_, fun t ht hk => ?_⟩
  · obtain ⟨a, b, c, d, e⟩ := hg.2 t ht
    have := hr.at_lt t ht
    exact ⟨a, b, c, by omega, by omega⟩
  · obtain ⟨a, b, c, d, e⟩ := hg.2 t ht
    exact e hk

theorem toks_lines (s : ByteArray) (hs : s.size ≤ 600) : ∃ q N, (∃ n k, n ≤ 1000000 ∧ k ≤ 1000000 ∧ Th.plines (Th.pexpr n) k [] ⟨theToks s, none⟩ = some q) ∧ (q.2.bad = none → ∃ lo hi, Th.InLines N lo hi q.1 ∧ hi - lo ≤ 100000) := by
  have hr : Th.Rise 0 (s.size + 1) (theToks s) := by
    have := Th.toks_rise (s.size + 1) s.data.toList 0
    rw [Array.length_toList, Nat.zero_add] at this
    exact this
  have hl := hr.len
  obtain ⟨q, h1, h2⟩ := Th.plines_ok (Th.pexpr_ok 1000) 1000 [] ⟨theToks s, none⟩ ⟨theToks s, none⟩ ⟨Th.Step.refl _, fun lo M hr _ => ⟨0, lo, Nat.le_refl _, hr⟩⟩ (by show (theToks s).length + 1 < 1000; omega) (by show (theToks s).length + 1 + 1 < 1000; omega)
  by_cases hb : q.2.bad = none
  · obtain ⟨N, m, i1, i2⟩ := h2.inn 0 (s.size + 1) hr hb
    have := i2.len
    exact ⟨q, N, ⟨1000, 1000, by omega, by omega, h1⟩, fun _ => ⟨0, m, i1, by omega⟩⟩
  · exact ⟨q, 0, ⟨1000, 1000, by omega, by omega, h1⟩, fun h => absurd h hb⟩

/-- What is known of every source that is not too long. -/
theorem plain_all (s : ByteArray) (hs : s.size ≤ 600) : ∃ q N, Plain s q N := by
  obtain ⟨q, N, h1, h2⟩ := toks_lines s hs
  exact ⟨q, N, toks_all_good s hs, Th.toks_ne _ _ _, h1, h2⟩

end Go.Proofs.YtgahgkddaljmkaaGreatDoor
