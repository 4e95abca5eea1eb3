/- A tree that is well made: its numbers in their bounds, its signs among the six, names and arms where there must be some; and the grammar reads no other. The text of a tree in the one way of writing, as a plain function; the texts of arms and of binds, joined. The text of a tree that is well made does not hang on the depth; and it is no longer than its tokens allow. How long the text of a program is. -/
import Derived.Test.YtgahgkddaljmkaaGreatDoorA5
import Derived.Lib.ItoaNum
namespace Go.Proofs.YtgahgkddaljmkaaGreatDoor
open Go.RowKit
namespace Th

def six : List (List UInt8) := [[43], [45], [42], [47], [60], [61, 61]]

def Wf : Nat → Ex → Prop
  | 0, _ => False
  | n + 1, e =>
    (e.kind = 1 ∧ e.n ≤ 999999999) ∨ e.kind = 2 ∨ (e.kind = 3 ∧ e.tag ≤ 99 ∧ e.arity ≤ 9) ∨
    (e.kind = 4 ∧ e.names ≠ [] ∧ ∃ b, e.kids = [b] ∧ Wf n b) ∨
    (e.kind = 5 ∧ ∃ a b, e.kids = [a, b] ∧ Wf n a ∧ Wf n b) ∨
    (e.kind = 6 ∧ e.tok.s ∈ six ∧ ∃ a b, e.kids = [a, b] ∧ Wf n a ∧ Wf n b) ∨
    ((e.kind = 7 ∨ e.kind = 8) ∧ e.names ≠ [] ∧ ∃ b parts, e.kids = b :: parts ∧ parts.length = e.names.length ∧ (∀ p ∈ parts, Wf n p) ∧ Wf n b) ∨
    (e.kind = 9 ∧ e.arms ≠ [] ∧ (∀ a ∈ e.arms, a.1 ≤ 99) ∧ ∃ b bodies, e.kids = b :: bodies ∧ bodies.length = e.arms.length ∧ (∀ p ∈ bodies, Wf n p) ∧ Wf n b)

theorem Wf.succ : ∀ (n : Nat) (e : Ex), Wf n e → Wf (n + 1) e
  | 0, _, h => h.elim
  | n + 1, e, h => by
    have ih := Wf.succ n
    rcases h with h | h | h | ⟨hk, hn, b, h1, h2⟩ | ⟨hk, a, b, h1, h2, h3⟩ | ⟨hk, hs, a, b, h1, h2, h3⟩ | ⟨hk, hn, b, parts, h1, h2, h3, h4⟩ | ⟨hk, hn, ht, b, bodies, h1, h2, h3, h4⟩
    · exact .inl h
    · exact .inr (.inl h)
    · exact .inr (.inr (.inl h))
    · exact .inr (.inr (.inr (.inl ⟨hk, hn, b, h1, ih _ h2⟩)))
    · exact .inr (.inr (.inr (.inr (.inl ⟨hk, a, b, h1, ih _ h2, ih _ h3⟩))))
    · exact .inr (.inr (.inr (.inr (.inr (.inl ⟨hk, hs, a, b, h1, ih _ h2, ih _ h3⟩)))))
    · exact .inr (.inr (.inr (.inr (.inr (.inr (.inl ⟨hk, hn, b, parts, h1, h2, fun p hp => ih _ (h3 p hp), ih _ h4⟩))))))
    · exact .inr (.inr (.inr (.inr (.inr (.inr (.inr ⟨hk, hn, ht, b, bodies, h1, h2, fun p hp => ih _ (h3 p hp), ih _ h4⟩))))))
theorem Wf.le {n m : Nat} {e : Ex} (h : Wf n e) (hm : n ≤ m) : Wf m e := by
  induction hm with
  | refl => exact h
  | step _ ih => exact Wf.succ _ _ ih

def WF (e : Ex) : Prop := ∃ m, Wf m e
def WFs (l : List Ex) : Prop := ∃ m, ∀ p ∈ l, Wf m p
theorem WFs.snoc {l : List Ex} {e : Ex} (h : WFs l) (k : WF e) : WFs (l ++ [e]) := by
  obtain ⟨m, h⟩ := h
  obtain ⟨n, k⟩ := k
  refine ⟨m + n, fun p hp => ?_⟩
  rcases List.mem_append.mp hp with hp | hp
  · exact (h p hp).le (by omega)
  · rw [List.mem_singleton.mp hp]; exact k.le (by omega)
theorem WFs.nil : WFs [] := ⟨0, fun _ h => by simp at h⟩

theorem wf_call {a b : Ex} (ha : WF a) (hb : WF b) : WF (mkCall a b) := by
  obtain ⟨m, ha⟩ := ha
  obtain ⟨n, hb⟩ := hb
  exact ⟨m + n + 1, .inr (.inr (.inr (.inr (.inl ⟨rfl, a, b, rfl, ha.le (by omega), hb.le (by omega)⟩))))⟩
theorem wf_op {t : Tok} {a b : Ex} (ht : t.s ∈ six) (ha : WF a) (hb : WF b) : WF (mkOp t a b) := by
  obtain ⟨m, ha⟩ := ha
  obtain ⟨n, hb⟩ := hb
  exact ⟨m + n + 1, .inr (.inr (.inr (.inr (.inr (.inl ⟨rfl, ht, a, b, rfl, ha.le (by omega), hb.le (by omega)⟩)))))⟩
theorem wf_fun {l : List Tok} {b : Ex} (hl : l ≠ []) (hb : WF b) : WF (mkFun l b) := by
  obtain ⟨n, hb⟩ := hb
  exact ⟨n + 1, .inr (.inr (.inr (.inl ⟨rfl, hl, b, rfl, hb⟩)))⟩
theorem wf_let {r : Bool} {l : List Tok} {parts : List Ex} {b : Ex} (hl : l ≠ []) (hn : parts.length = l.length) (hp : WFs parts) (hb : WF b) : WF (mkLet r l parts b) := by
  obtain ⟨m, hp⟩ := hp
  obtain ⟨n, hb⟩ := hb
  refine ⟨m + n + 1, .inr (.inr (.inr (.inr (.inr (.inr (.inl ⟨?_, hl, b, parts, rfl, hn, fun p h => (hp p h).le (by omega), hb.le (by omega)⟩))))))⟩
  cases r
  · exact .inl rfl
  · exact .inr rfl
theorem wf_case {l : List (Nat × List Tok)} {bodies : List Ex} {b : Ex} (hl : l ≠ []) (ht : ∀ a ∈ l, a.1 ≤ 99) (hn : bodies.length = l.length) (hp : WFs bodies) (hb : WF b) : WF (mkCase b l bodies) := by
  obtain ⟨m, hp⟩ := hp
  obtain ⟨n, hb⟩ := hb
  exact ⟨m + n + 1, .inr (.inr (.inr (.inr (.inr (.inr (.inr ⟨rfl, hl, ht, b, bodies, rfl, hn, fun p h => (hp p h).le (by omega), hb.le (by omega)⟩))))))⟩

/-- The numbers among the tokens that are left are in their bound. -/
def TK (st : St) : Prop := ∀ t ∈ st.rest, t.k = 3 → val t.s ≤ 999999999
theorem TK.adv {st : St} (h : TK st) : TK st.adv := fun t ht => h t (List.mem_of_mem_tail ht)
theorem TK.fail {st : St} (h : TK st) : TK st.fail := by
  unfold St.fail
  split
  · intro t ht; simp at ht
  · exact h
theorem TK.want {st : St} (s : List UInt8) (h : TK st) : TK (want s st) := by
  unfold Th.want
  split
  · exact h.adv
  · exact h.fail
theorem TK.pname {st : St} (h : TK st) : TK (pname st).2 := by
  unfold Th.pname
  split
  · exact h.adv
  · exact h.fail
theorem TK.pnames {st : St} (h : TK st) : TK (pnames st).2 := by
  unfold Th.pnames
  split
  · exact fun t ht => h t ((List.dropWhile_sublist _).subset ht)
  · exact h
theorem TK.pnumber {st : St} (a b : Nat) (h : TK st) : TK (pnumber a b st).2 := by
  unfold Th.pnumber
  split
  · exact h.adv
  · exact h.fail
theorem pnumber_le (a b : Nat) (st : St) : (pnumber a b st).1 ≤ b := by
  unfold Th.pnumber
  split
  · next h =>
    simp only [Bool.and_eq_true, decide_eq_true_eq] at h
    exact h.2
  · exact Nat.zero_le _

def Made (q : Ex × St) : Prop := TK q.2 ∧ (q.2.bad = none → WF q.1)
def ExM (ex : Rd) : Prop := ∀ c st q, ex c st = some q → TK st → Made q

theorem made_maker {st : St} (h : TK st) : Made (pmaker st) :=
  ⟨TK.want _ (TK.pnumber _ _ (TK.want _ (TK.pnumber _ _ h))), fun _ => ⟨1, .inr (.inr (.inl ⟨rfl, pnumber_le _ _ _, pnumber_le _ _ _⟩))⟩⟩

theorem made_atom {ex : Rd} (hx : ExM ex) {st : St} {q : Ex × St} (h : patom ex st = some q) (ht : TK st) : Made q := by
  unfold patom at h
  split at h
  · cases h
    exact ⟨ht.adv, fun _ => ⟨1, .inr (.inl rfl)⟩⟩
  · split at h
    · next hk =>
      cases h
      refine ⟨ht.adv, fun _ => ⟨1, .inl ⟨rfl, ?_⟩⟩⟩
      unfold St.kind at hk
      simp only [Bool.and_eq_true, beq_iff_eq] at hk
      cases hr : st.rest with
      | nil =>
        have : st.hd.k = 0 := by simp [St.hd, hr, tok0]
        omega
      | cons t r =>
        have e : st.hd = t := by simp [St.hd, hr]
        rw [e] at hk
        show val st.hd.s ≤ _
        rw [e]
        exact ht t (by rw [hr]; exact List.mem_cons_self ..) hk.2
    · split at h
      · cases h
        exact made_maker ht.adv
      · split at h
        · simp only [Option.bind_eq_some_iff, Option.some.injEq] at h
          obtain ⟨r, h1, rfl⟩ := h
          have m := hx _ _ _ h1 ht.adv
          exact ⟨m.1.want _, fun hb => m.2 (want_bad _ _ hb)⟩
        · cases h
          exact ⟨ht.fail, fun hb => (fail_no hb).elim⟩

theorem made_calls {ex : Rd} (hx : ExM ex) (hk : Keeps ex) : ∀ (k : Nat) (e : Ex) (st : St) (q : Ex × St), pcalls ex k e st = some q → TK st → (st.bad = none → WF e) → Made q
  | 0, _, _, _, h, _, _ => by simp [pcalls] at h
  | k + 1, e, st, q, h, ht, he => by
    rw [pcalls] at h
    split at h
    · simp only [Option.bind_eq_some_iff] at h
      obtain ⟨r, h1, h2⟩ := h
      have m := made_atom hx h1 ht
      exact made_calls hx hk k _ _ _ h2 m.1 (fun hb => wf_call (he (atom_keeps hk h1 hb)) (m.2 hb))
    · cases h
      exact ⟨ht, he⟩
theorem made_call {ex : Rd} (hx : ExM ex) (hk : Keeps ex) {k : Nat} {st : St} {q : Ex × St} (h : pcall ex k st = some q) (ht : TK st) : Made q := by
  unfold pcall at h
  simp only [Option.bind_eq_some_iff] at h
  obtain ⟨r, h1, h2⟩ := h
  have m := made_atom hx h1 ht
  exact made_calls hx hk k _ _ _ h2 m.1 m.2

theorem is_text {s : List UInt8} {st : St} (h : st.is s = true) : st.hd.s = s := by
  unfold St.is at h
  simp only [Bool.and_eq_true, beq_iff_eq] at h
  exact h.2

theorem made_ops {sub : St → Option (Ex × St)} (hs : ∀ st q, sub st = some q → TK st → Made q) (hk : ∀ st q, sub st = some q → q.2.bad = none → st.bad = none) {a b : List UInt8} (ha : a ∈ six) (hb : b ∈ six) :
    ∀ (k : Nat) (e : Ex) (st : St) (q : Ex × St), pops sub a b k e st = some q → TK st → (st.bad = none → WF e) → Made q
  | 0, _, _, _, h, _, _ => by simp [pops] at h
  | k + 1, e, st, q, h, ht, he => by
    rw [pops] at h
    split at h
    · next hi =>
      simp only [Option.bind_eq_some_iff] at h
      obtain ⟨r, h1, h2⟩ := h
      have m := hs _ _ h1 ht.adv
      refine made_ops hs hk ha hb k _ _ _ h2 m.1 (fun hbad => wf_op ?_ (he (adv_bad _ (hk _ _ h1 hbad))) (m.2 hbad))
      simp only [Bool.or_eq_true] at hi
      rcases hi with hi | hi
      · rw [is_text hi]; exact ha
      · rw [is_text hi]; exact hb
    · cases h
      exact ⟨ht, he⟩

theorem made_product {ex : Rd} (hx : ExM ex) (hk : Keeps ex) {k : Nat} {st : St} {q : Ex × St} (h : pproduct ex k st = some q) (ht : TK st) : Made q := by
  unfold pproduct at h
  simp only [Option.bind_eq_some_iff] at h
  obtain ⟨r, h1, h2⟩ := h
  have m := made_call hx hk h1 ht
  exact made_ops (fun _ _ a b => made_call hx hk a b) (fun _ _ a => call_keeps hk _ _ _ a) (by decide) (by decide) k _ _ _ h2 m.1 m.2
theorem made_sum {ex : Rd} (hx : ExM ex) (hk : Keeps ex) {k : Nat} {st : St} {q : Ex × St} (h : psum ex k st = some q) (ht : TK st) : Made q := by
  unfold psum at h
  simp only [Option.bind_eq_some_iff] at h
  obtain ⟨r, h1, h2⟩ := h
  have m := made_product hx hk h1 ht
  exact made_ops (fun _ _ a b => made_product hx hk a b) (fun _ _ a => product_keeps hk _ _ _ a) (by decide) (by decide) k _ _ _ h2 m.1 m.2
theorem made_test {ex : Rd} (hx : ExM ex) (hk : Keeps ex) {k : Nat} {st : St} {q : Ex × St} (h : ptest ex k st = some q) (ht : TK st) : Made q := by
  unfold ptest at h
  simp only [Option.bind_eq_some_iff] at h
  obtain ⟨r, h1, h2⟩ := h
  have m := made_sum hx hk h1 ht
  split at h2
  · next hi =>
    simp only [Option.bind_eq_some_iff, Option.some.injEq] at h2
    obtain ⟨p, h3, rfl⟩ := h2
    have m2 := made_sum hx hk h3 m.1.adv
    refine ⟨m2.1, fun hb => wf_op ?_ (m.2 (adv_bad _ (sum_keeps hk _ _ _ h3 hb))) (m2.2 hb)⟩
    simp only [Bool.or_eq_true] at hi
    rcases hi with hi | hi
    · rw [is_text hi]; decide
    · rw [is_text hi]; decide
  · cases h2
    exact m

theorem made_binds {ex : Rd} (hx : ExM ex) (hk : Keeps ex) : ∀ (k : Nat) (l : List Tok) (es : List Ex) (st : St) (q : List Tok × List Ex × St), pbinds ex k l es st = some q → TK st → es.length = l.length → (st.bad = none → WFs es) →
    TK q.2.2 ∧ q.1 ≠ [] ∧ q.2.1.length = q.1.length ∧ (q.2.2.bad = none → WFs q.2.1)
  | 0, _, _, _, _, h, _, _, _ => by simp [pbinds] at h
  | k + 1, l, es, st, q, h, ht, hl, he => by
    rw [pbinds] at h
    simp only [Option.bind_eq_some_iff] at h
    obtain ⟨r, h1, h2⟩ := h
    have m := hx _ _ _ h1 (ht.pname.want _)
    have hb0 : r.2.bad = none → st.bad = none := fun hb => name_bad _ (want_bad _ _ (hk _ _ _ h1 hb))
    have hs : r.2.bad = none → WFs (es ++ [r.1]) := fun hb => (he (hb0 hb)).snoc (m.2 hb)
    have hl2 : (es ++ [r.1]).length = (l ++ [(pname st).1]).length := by simp [hl]
    split at h2
    · exact made_binds hx hk k _ _ _ _ h2 m.1.adv hl2 (fun hb => hs (adv_bad _ hb))
    · cases h2
      exact ⟨m.1, by simp, hl2, hs⟩

theorem made_let {ex : Rd} (hx : ExM ex) (hk : Keeps ex) {k : Nat} {c : Bool} {st : St} {q : Ex × St} (h : plet ex k c st = some q) (ht : TK st) : Made q := by
  unfold plet at h
  simp only [Option.bind_eq_some_iff, Option.some.injEq] at h
  obtain ⟨r, h1, p, h2, rfl⟩ := h
  have h0 : TK (if st.is sRec then st.adv else st) := by
    split
    · exact ht.adv
    · exact ht
  obtain ⟨a1, a2, a3, a4⟩ := made_binds hx hk k _ _ _ _ h1 h0 rfl (fun _ => WFs.nil)
  have m := hx _ _ _ h2 (a1.want _)
  exact ⟨m.1, fun hb => wf_let a2 a3 (a4 (want_bad _ _ (hk _ _ _ h2 hb))) (m.2 hb)⟩

theorem made_arm {ex : Rd} (hx : ExM ex) {c : Bool} {st : St} {q : (Nat × List Tok) × Ex × St} (h : parm ex c st = some q) (ht : TK st) : q.1.1 ≤ 99 ∧ TK q.2.2 ∧ (q.2.2.bad = none → WF q.2.1) := by
  unfold parm at h
  simp only [Option.bind_eq_some_iff, Option.some.injEq] at h
  obtain ⟨r, h1, rfl⟩ := h
  have m := hx _ _ _ h1 (TK.want _ (TK.pnames (TK.want _ (TK.pnumber _ _ (ht.want _)))))
  exact ⟨pnumber_le _ _ _, m.1, m.2⟩
theorem made_arms {ex : Rd} (hx : ExM ex) (hk : Keeps ex) (c : Bool) : ∀ (k : Nat) (l : List (Nat × List Tok)) (es : List Ex) (st : St) (q : List (Nat × List Tok) × List Ex × St), parms ex c k l es st = some q → TK st → es.length = l.length → (∀ a ∈ l, a.1 ≤ 99) → (st.bad = none → WFs es) →
    TK q.2.2 ∧ q.1 ≠ [] ∧ (∀ a ∈ q.1, a.1 ≤ 99) ∧ q.2.1.length = q.1.length ∧ (q.2.2.bad = none → WFs q.2.1)
  | 0, _, _, _, _, h, _, _, _, _ => by simp [parms] at h
  | k + 1, l, es, st, q, h, ht, hl, hl9, he => by
    rw [parms] at h
    simp only [Option.bind_eq_some_iff] at h
    obtain ⟨r, h1, h2⟩ := h
    obtain ⟨m0, m1, m2⟩ := made_arm hx h1 ht
    have hs : r.2.2.bad = none → WFs (es ++ [r.2.1]) := fun hb => (he (parm_bad hk h1 hb)).snoc (m2 hb)
    have hl2 : (es ++ [r.2.1]).length = (l ++ [r.1]).length := by simp [hl]
    have h9 : ∀ a ∈ l ++ [r.1], a.1 ≤ 99 := by
      intro a ha
      rcases List.mem_append.mp ha with ha | ha
      · exact hl9 a ha
      · rw [List.mem_singleton.mp ha]; exact m0
    split at h2
    · exact made_arms hx hk c k _ _ _ _ h2 m1.adv hl2 h9 (fun hb => hs (adv_bad _ hb))
    · cases h2
      exact ⟨m1, by simp, h9, hl2, hs⟩
theorem made_case {ex : Rd} (hx : ExM ex) (hk : Keeps ex) {k : Nat} {c : Bool} {st : St} {q : Ex × St} (h : pcase ex k c st = some q) (ht : TK st) : Made q := by
  unfold pcase at h
  simp only [Option.bind_eq_some_iff, Option.some.injEq] at h
  obtain ⟨r, h1, p, h2, rfl⟩ := h
  have m := hx _ _ _ h1 ht
  obtain ⟨a1, a2, a3, a4, a5⟩ := made_arms hx hk c k _ _ _ _ h2 (m.1.want _) rfl (by simp) (fun _ => WFs.nil)
  exact ⟨a1, fun hb => wf_case a2 a3 a4 (a5 hb) (m.2 (want_bad _ _ (arms_keeps hk c k _ _ _ _ h2 hb)))⟩
theorem made_fun {ex : Rd} (hx : ExM ex) {c : Bool} {st : St} {q : Ex × St} (h : pfun ex c st = some q) (ht : TK st) : Made q := by
  unfold pfun at h
  simp only [Option.bind_eq_some_iff, Option.some.injEq] at h
  obtain ⟨r, h1, rfl⟩ := h
  have m := hx _ _ _ h1 (TK.want _ (TK.pnames ht.pname))
  exact ⟨m.1, fun hb => wf_fun (by simp) (m.2 hb)⟩
theorem made_body {ex : Rd} (hx : ExM ex) (hk : Keeps ex) (k : Nat) : ExM (pbody ex k) := by
  intro c st q h ht
  unfold pbody at h
  split at h
  · exact made_let hx hk h ht.adv
  · split at h
    · exact made_case hx hk h ht.adv
    · split at h
      · exact made_fun hx h ht.adv
      · exact made_test hx hk h ht
theorem made_expr : ∀ n, ExM (pexpr n)
  | 0 => fun _ _ _ h => by simp [pexpr] at h
  | n + 1 => made_body (made_expr n) (expr_keeps n) n

/-- The lines of a program that was read whole: their trees are well made. -/
def LinesWF (l : List Line) : Prop := ∃ m, ∀ x ∈ l, Wf m x.e
theorem made_lines {n : Nat} : ∀ (k : Nat) (l : List Line) (st : St) (q : List Line × St), plines (pexpr n) k l st = some q → TK st → (st.bad = none → LinesWF l) → q.2.bad = none → LinesWF q.1
  | 0, _, _, _, h, _, _, _ => by simp [plines] at h
  | k + 1, l, st, q, h, ht, hl, hb => by
    rw [plines] at h
    split at h
    · simp only [Option.bind_eq_some_iff] at h
      obtain ⟨r, h1, h2⟩ := h
      unfold pline at h1
      simp only [Option.bind_eq_some_iff, Option.some.injEq] at h1
      obtain ⟨p, h3, rfl⟩ := h1
      have m := made_expr n _ _ _ h3 (TK.want _ (TK.pnames ht.pname))
      refine made_lines k _ _ _ h2 (m.1.want _) (fun hb2 => ?_) hb
      have hp := want_bad _ _ hb2
      obtain ⟨m1, e1⟩ := hl (name_bad _ (names_bad _ (want_bad _ _ (expr_keeps n _ _ _ h3 hp))))
      obtain ⟨m2, e2⟩ := m.2 hp
      refine ⟨m1 + m2, fun x hx => ?_⟩
      rcases List.mem_append.mp hx with hx | hx
      · exact (e1 x hx).le (by omega)
      · rw [List.mem_singleton.mp hx]; exact e2.le (by omega)
    · cases h
      exact hl hb

end Th
end Go.Proofs.YtgahgkddaljmkaaGreatDoor

namespace Go.Proofs.YtgahgkddaljmkaaGreatDoor
open Go.RowKit
namespace Th

/-- Names, each with a space ahead. -/
def spaced (l : List Tok) : List UInt8 := l.foldl (fun s t => s ++ ([32] ++ t.s)) []

def level (e : Ex) : Nat :=
  if e.kind = 5 then 4
  else if e.kind = 6 then (if e.tok.s = [42] ∨ e.tok.s = [47] then 3 else if e.tok.s = [43] ∨ e.tok.s = [45] then 2 else 1)
  else if e.kind ≤ 3 then 5 else 0

def ends : Nat → Ex → Bool
  | 0, _ => false
  | n + 1, e => if e.kind = 9 then true else if e.kind = 4 ∨ e.kind = 7 ∨ e.kind = 8 then ends n (e.kids.headD ex0) else false

def paren (s : List UInt8) : List UInt8 := [40] ++ s ++ [41]
def within (e : Ex) (least : Nat) (s : List UInt8) : List UInt8 := if level e < least then paren s else s

def bindText (t : Tok) (s : List UInt8) : List UInt8 := t.s ++ [32, 61, 32] ++ s
def armText (a : Nat × List Tok) (s : List UInt8) : List UInt8 := [60] ++ Lib.decDigits a.1 ++ [62] ++ spaced a.2 ++ [32, 45, 62, 32] ++ s
/-- The text of an arm's body: in parentheses where it would take the arms behind. -/
def armBody (op last : Bool) (s : List UInt8) : List UInt8 := if !last && op then paren s else s

def joined : List (List UInt8) → List UInt8
  | [] => []
  | x :: r => r.foldl (fun s y => s ++ [59, 32] ++ y) x

def bindTexts (txt : Ex → List UInt8) : List Tok → List Ex → List (List UInt8)
  | t :: l, e :: es => bindText t (txt e) :: bindTexts txt l es
  | _, _ => []
def armTexts (txt : Ex → List UInt8) (en : Ex → Bool) : List (Nat × List Tok) → List Ex → List (List UInt8)
  | a :: l, e :: es => armText a (armBody (en e) l.isEmpty (txt e)) :: armTexts txt en l es
  | _, _ => []

def text : Nat → Ex → List UInt8
  | 0, _ => []
  | n + 1, e =>
    if e.kind = 1 then Lib.itoa e.n
    else if e.kind = 2 then e.tok.s
    else if e.kind = 3 then [123] ++ Lib.decDigits e.tag ++ [44] ++ Lib.decDigits e.arity ++ [125]
    else if e.kind = 4 then [92] ++ (spaced e.names).tail ++ [46, 32] ++ text n (e.kids.headD ex0)
    else if e.kind = 5 then within (e.kids.headD ex0) 4 (text n (e.kids.headD ex0)) ++ [32] ++ within (e.kids.tail.headD ex0) 5 (text n (e.kids.tail.headD ex0))
    else if e.kind = 6 then within (e.kids.headD ex0) (max (level e) 2) (text n (e.kids.headD ex0)) ++ [32] ++ e.tok.s ++ [32] ++ within (e.kids.tail.headD ex0) (level e + 1) (text n (e.kids.tail.headD ex0))
    else if e.kind = 9 then [99, 97, 115, 101, 32] ++ text n (e.kids.headD ex0) ++ [32, 111, 102, 32] ++ joined (armTexts (text n) (ends n) e.arms e.kids.tail)
    else (if e.kind = 8 then [108, 101, 116, 32, 114, 101, 99, 32] else [108, 101, 116, 32]) ++ joined (bindTexts (text n) e.names e.kids.tail) ++ [32, 105, 110, 32] ++ text n (e.kids.headD ex0)

def lineText (n : Nat) (x : Line) : List UInt8 := x.name.s ++ spaced x.params ++ [32, 61, 32] ++ text n x.e ++ [59, 10]
def progText (n : Nat) (l : List Line) : List UInt8 := l.foldl (fun s x => s ++ lineText n x) []

theorem spaced_snoc (l : List Tok) (t : Tok) : spaced (l ++ [t]) = spaced l ++ ([32] ++ t.s) := by simp [spaced]
theorem spaced_nil : spaced [] = [] := rfl
theorem progText_snoc (n : Nat) (l : List Line) (x : Line) : progText n (l ++ [x]) = progText n l ++ lineText n x := by simp [progText]
theorem spaced_take {l : List Tok} {i : Nat} {t : Tok} (h : l[i]? = some t) : spaced (l.take (i + 1)) = spaced (l.take i) ++ ([32] ++ t.s) := by
  rw [List.take_add_one, h]
  exact spaced_snoc _ _
theorem spaced_cons (t : Tok) (l : List Tok) : ∃ r, spaced (t :: l) = 32 :: (t.s ++ r) := by
  unfold spaced
  simp only [List.foldl_cons, List.nil_append]
  have h : ∀ (l : List Tok) (a : List UInt8), ∃ r, l.foldl (fun s t => s ++ ([32] ++ t.s)) a = a ++ r := by
    intro l
    induction l with
    | nil => exact fun a => ⟨[], by simp⟩
    | cons y l ih =>
      intro a
      obtain ⟨r, hr⟩ := ih (a ++ ([32] ++ y.s))
      exact ⟨[32] ++ y.s ++ r, by rw [List.foldl_cons, hr]; simp⟩
  obtain ⟨r, hr⟩ := h l ([32] ++ t.s)
  exact ⟨r, by rw [hr]; simp⟩
theorem joined_snoc {l : List (List UInt8)} (h : l ≠ []) (x : List UInt8) : joined (l ++ [x]) = joined l ++ [59, 32] ++ x := by
  cases l with
  | nil => exact absurd rfl h
  | cons y l => simp [joined]

/-- What the document's loops have written: a space, and what is joined. -/
def led (l : List (List UInt8)) : List UInt8 := if l = [] then [] else [32] ++ joined l
theorem led_nil : led [] = [] := rfl
theorem led_first (x : List UInt8) : led ([] ++ [x]) = [32] ++ x := by simp [led, joined]
theorem led_snoc {l : List (List UInt8)} (h : l ≠ []) (x : List UInt8) : led (l ++ [x]) = led l ++ [59] ++ ([32] ++ x) := by
  rw [led, led, if_neg (by simp), if_neg h, joined_snoc h]
  simp

theorem bindTexts_len (txt : Ex → List UInt8) : ∀ (l : List Tok) (es : List Ex), es.length = l.length → (bindTexts txt l es).length = l.length
  | [], [], _ => rfl
  | _ :: l, _ :: es, h => by simp only [bindTexts, List.length_cons]; rw [bindTexts_len txt l es (by simpa using h)]
  | [], _ :: _, h => by simp at h
  | _ :: _, [], h => by simp at h
theorem bindTexts_get (txt : Ex → List UInt8) : ∀ (l : List Tok) (es : List Ex) (i : Nat) (t : Tok) (e : Ex), l[i]? = some t → es[i]? = some e → (bindTexts txt l es)[i]? = some (bindText t (txt e))
  | [], _, _, _, _, h, _ => by simp at h
  | _ :: _, [], _, _, _, _, h => by simp at h
  | a :: l, b :: es, 0, t, e, h1, h2 => by
    simp only [List.getElem?_cons_zero, Option.some.injEq] at h1 h2
    subst h1 h2
    rfl
  | a :: l, b :: es, i + 1, t, e, h1, h2 => by
    simp only [List.getElem?_cons_succ] at h1 h2
    simp only [bindTexts, List.getElem?_cons_succ]
    exact bindTexts_get txt l es i t e h1 h2
theorem armTexts_len (txt : Ex → List UInt8) (en : Ex → Bool) : ∀ (l : List (Nat × List Tok)) (es : List Ex), es.length = l.length → (armTexts txt en l es).length = l.length
  | [], [], _ => rfl
  | _ :: l, _ :: es, h => by simp only [armTexts, List.length_cons]; rw [armTexts_len txt en l es (by simpa using h)]
  | [], _ :: _, h => by simp at h
  | _ :: _, [], h => by simp at h
theorem armTexts_get (txt : Ex → List UInt8) (en : Ex → Bool) : ∀ (l : List (Nat × List Tok)) (es : List Ex) (i : Nat) (a : Nat × List Tok) (e : Ex), l[i]? = some a → es[i]? = some e → (armTexts txt en l es)[i]? = some (armText a (armBody (en e) (decide (i + 1 = l.length)) (txt e)))
  | [], _, _, _, _, h, _ => by simp at h
  | _ :: _, [], _, _, _, _, h => by simp at h
  | b :: l, c :: es, 0, a, e, h1, h2 => by
    simp only [List.getElem?_cons_zero, Option.some.injEq] at h1 h2
    subst h1 h2
    cases l <;> simp [armTexts]
  | b :: l, c :: es, i + 1, a, e, h1, h2 => by
    simp only [List.getElem?_cons_succ] at h1 h2
    simp only [armTexts, List.getElem?_cons_succ, List.length_cons]
    rw [armTexts_get txt en l es i a e h1 h2]
    simp

end Th
end Go.Proofs.YtgahgkddaljmkaaGreatDoor

namespace Go.Proofs.YtgahgkddaljmkaaGreatDoor
open Go.RowKit
namespace Th

theorem ends_stable : ∀ (m : Nat) (e : Ex), Wf m e → ∀ k, m ≤ k → ends k e = ends m e
  | 0, _, h, _, _ => h.elim
  | m + 1, e, h, k, hk => by
    obtain ⟨k, rfl⟩ : ∃ j, k = j + 1 := ⟨k - 1, by omega⟩
    have ih := ends_stable m
    rw [ends, ends]
    split
    · rfl
    · split
      · next h4 =>
        rcases h with ⟨h, _⟩ | h | ⟨h, _⟩ | ⟨h, _, b, h1, h2⟩ | ⟨h, _⟩ | ⟨h, _⟩ | ⟨h, _, b, parts, h1, _, _, h2⟩ | ⟨h, _⟩
        · omega
        · omega
        · omega
        · rw [h1]; exact ih b h2 k (by omega)
        · omega
        · omega
        · rw [h1]; exact ih b h2 k (by omega)
        · omega
      · rfl

theorem bindTexts_congr {f g : Ex → List UInt8} : ∀ (l : List Tok) (es : List Ex), (∀ p ∈ es, f p = g p) → bindTexts f l es = bindTexts g l es
  | [], _, _ => by simp [bindTexts]
  | _ :: _, [], _ => by simp [bindTexts]
  | t :: l, e :: es, h => by
    rw [bindTexts, bindTexts, h e (List.mem_cons_self ..), bindTexts_congr l es (fun p hp => h p (List.mem_cons_of_mem _ hp))]
theorem armTexts_congr {f g : Ex → List UInt8} {u v : Ex → Bool} : ∀ (l : List (Nat × List Tok)) (es : List Ex), (∀ p ∈ es, f p = g p ∧ u p = v p) → armTexts f u l es = armTexts g v l es
  | [], _, _ => by simp [armTexts]
  | _ :: _, [], _ => by simp [armTexts]
  | t :: l, e :: es, h => by
    rw [armTexts, armTexts, (h e (List.mem_cons_self ..)).1, (h e (List.mem_cons_self ..)).2, armTexts_congr l es (fun p hp => h p (List.mem_cons_of_mem _ hp))]

theorem text_stable : ∀ (m : Nat) (e : Ex), Wf m e → ∀ k, m ≤ k → text k e = text m e
  | 0, _, h, _, _ => h.elim
  | m + 1, e, h, k, hk => by
    obtain ⟨k, rfl⟩ : ∃ j, k = j + 1 := ⟨k - 1, by omega⟩
    have ih := fun p hp => text_stable m p hp k (by omega)
    have ihe := fun p hp => ends_stable m p hp k (by omega)
    rcases h with ⟨h, _⟩ | h | ⟨h, _⟩ | ⟨h, _, b, h1, h2⟩ | ⟨h, a, b, h1, h2, h3⟩ | ⟨h, _, a, b, h1, h2, h3⟩ | ⟨h, _, b, parts, h1, _, h3, h2⟩ | ⟨h, _, _, b, bodies, h1, _, h3, h2⟩
    · simp [text, h]
    · simp [text, h]
    · simp [text, h]
    · simp [text, h, h1, ih b h2]
    · simp [text, h, h1, ih a h2, ih b h3]
    · simp [text, h, h1, ih a h2, ih b h3]
    · have hc := bindTexts_congr (f := text k) (g := text m) e.names parts (fun p hp => ih p (h3 p hp))
      rcases h with h | h <;> simp [text, h, h1, ih b h2, hc]
    · have hc := armTexts_congr (f := text k) (g := text m) (u := ends k) (v := ends m) e.arms bodies (fun p hp => ⟨ih p (h3 p hp), ihe p (h3 p hp)⟩)
      simp [text, h, h1, ih b h2, hc]

theorem progText_stable {m : Nat} {l : List Line} (h : ∀ x ∈ l, Wf m x.e) : ∀ k, m ≤ k → progText k l = progText m l := by
  intro k hk
  have g : ∀ (l : List Line) (a : List UInt8), (∀ x ∈ l, Wf m x.e) → l.foldl (fun s x => s ++ lineText k x) a = l.foldl (fun s x => s ++ lineText m x) a := by
    intro l
    induction l with
    | nil => intro a _; rfl
    | cons x l ih =>
      intro a h
      rw [List.foldl_cons, List.foldl_cons, ih _ (fun y hy => h y (List.mem_cons_of_mem _ hy))]
      rw [lineText, lineText, text_stable m x.e (h x (List.mem_cons_self ..)) k hk]
  exact g l [] h

/- HOW LONG A TEXT IS. -/
theorem dec_len : ∀ (k i : Nat), i < 10 ^ (k + 1) → (Lib.decDigits i).length ≤ k + 1
  | 0, i, h => by rw [Lib.decDigits_one (by simpa using h)]; simp
  | k + 1, i, h => by
    rw [Lib.decDigits]
    split
    · simp
    · have := dec_len k (i / 10) (by rw [Nat.pow_succ] at h; omega)
      simp only [List.length_append, List.length_cons, List.length_nil]
      omega
theorem itoa_len {i : Nat} (h : i ≤ 999999999) : (Lib.itoa (i : Int)).length ≤ 10 := by
  rw [Lib.itoa_nonneg]
  exact dec_len 9 i (by omega)
theorem dec_len2 {i : Nat} (h : i ≤ 99) : (Lib.decDigits i).length ≤ 3 := dec_len 2 i (by omega)

/-- The room that the tokens which are left give. -/
def room (l : List Tok) : Nat := (l.map (fun t => t.s.length + 100)).sum
theorem room_cons (t : Tok) (l : List Tok) : room (t :: l) = t.s.length + 100 + room l := by simp [room]
theorem room_app (a b : List Tok) : room (a ++ b) = room a + room b := by simp [room]
def B (st : St) : Nat := room st.rest

theorem B_adv {st : St} (h : st.rest ≠ []) : B st.adv + st.hd.s.length + 100 = B st := by
  unfold B St.adv St.hd
  cases hr : st.rest with
  | nil => exact absurd hr h
  | cons t r => simp [room_cons]; omega
theorem B_is {st : St} {s : List UInt8} (h : st.is s = true) (hs : s ≠ []) : B st.adv + s.length + 100 = B st := by
  unfold St.is at h
  simp only [Bool.and_eq_true, beq_iff_eq] at h
  have hne : st.rest ≠ [] := by
    intro e
    have : st.hd.s = [] := by simp [St.hd, e, tok0]
    exact hs (by rw [← h.2, this])
  have := B_adv hne
  rw [h.2] at this
  exact this
theorem B_kind {st : St} {k : Nat} (h : st.kind k = true) (hk : k ≠ 0) : B st.adv + st.hd.s.length + 100 = B st := by
  unfold St.kind at h
  simp only [Bool.and_eq_true, beq_iff_eq] at h
  refine B_adv (fun e => ?_)
  have : st.hd.k = 0 := by simp [St.hd, e, tok0]
  omega
theorem B_want {st : St} {s : List UInt8} (hs : s ≠ []) (hb : (want s st).bad = none) : B (want s st) + s.length + 100 = B st := by
  unfold Th.want at hb ⊢
  split
  · next h => exact B_is h hs
  · next h => rw [if_neg h] at hb; exact (fail_no hb).elim
theorem B_pname {st : St} (hb : (pname st).2.bad = none) : B (pname st).2 + (pname st).1.s.length + 100 = B st := by
  unfold Th.pname at hb ⊢
  split
  · next h => exact B_kind h (by decide)
  · next h => rw [if_neg h] at hb; exact (fail_no hb).elim
theorem B_pnumber {st : St} {lo hi : Nat} (hb : (pnumber lo hi st).2.bad = none) : B (pnumber lo hi st).2 + 100 ≤ B st := by
  unfold Th.pnumber at hb ⊢
  split
  · next h =>
    simp only [Bool.and_eq_true] at h
    have := B_kind h.1.1 (by decide)
    show B st.adv + 100 ≤ B st
    omega
  · next h => rw [if_neg h] at hb; exact (fail_no hb).elim
theorem spaced_room (l : List Tok) : (spaced l).length + 99 * l.length = room l := by
  have h : ∀ (l : List Tok) (a : List UInt8), (l.foldl (fun s t => s ++ ([32] ++ t.s)) a).length + 99 * l.length = a.length + room l := by
    intro l
    induction l with
    | nil => intro a; simp [room]
    | cons t l ih =>
      intro a
      have := ih (a ++ ([32] ++ t.s))
      rw [List.foldl_cons, room_cons]
      simp only [List.length_cons, List.length_append, List.length_nil] at this ⊢
      omega
  have := h l []
  simpa [spaced] using this
theorem B_pnames (st : St) : B (pnames st).2 + (spaced (pnames st).1).length ≤ B st := by
  unfold Th.pnames
  split
  · have h1 := spaced_room (st.rest.takeWhile (fun t => t.k == 2))
    have h2 : room st.rest = room (st.rest.takeWhile (fun t => t.k == 2)) + room (st.rest.dropWhile (fun t => t.k == 2)) := by
      rw [← room_app, List.takeWhile_append_dropWhile]
    simp only [B]
    omega
  · simp [spaced]

theorem within_le (e : Ex) (k : Nat) (s : List UInt8) : (within e k s).length ≤ s.length + 2 := by
  unfold within
  split
  · simp [paren]
  · omega

/-- A tree that was read, and how long its text is. -/
def Fit (q : Ex × St) (b : Nat) : Prop := q.2.bad = none → ∃ m, Wf m q.1 ∧ (text m q.1).length + 40 + B q.2 ≤ b
theorem fit_at {e : Ex} {m k : Nat} (h : Wf m e) (hk : m ≤ k) : Wf k e ∧ text k e = text m e := ⟨h.le hk, text_stable m e h k hk⟩
theorem Fit.le {q : Ex × St} {b c : Nat} (h : Fit q b) (hb : b ≤ c) : Fit q c := fun hq => by
  obtain ⟨m, h1, h2⟩ := h hq
  exact ⟨m, h1, by omega⟩
def ExF (ex : Rd) : Prop := ∀ c st q, ex c st = some q → TK st → Fit q (B st)

theorem fit_atom {ex : Rd} (hx : ExF ex) {st : St} {q : Ex × St} (h : patom ex st = some q) (ht : TK st) : Fit q (B st) := by
  intro hbad
  unfold patom at h
  split at h
  · next hk =>
    cases h
    refine ⟨1, .inr (.inl rfl), ?_⟩
    have := B_kind hk (by decide)
    show st.hd.s.length + 40 + B st.adv ≤ B st
    omega
  · split at h
    · next hk =>
      cases h
      have hv : val st.hd.s ≤ 999999999 := by
        have hk' := hk
        unfold St.kind at hk'
        simp only [Bool.and_eq_true, beq_iff_eq] at hk'
        cases hr : st.rest with
        | nil =>
          have : st.hd.k = 0 := by simp [St.hd, hr, tok0]
          omega
        | cons t r =>
          have e : st.hd = t := by simp [St.hd, hr]
          rw [e] at hk' ⊢
          exact ht t (by rw [hr]; exact List.mem_cons_self ..) hk'.2
      refine ⟨1, .inl ⟨rfl, hv⟩, ?_⟩
      have h1 := B_kind hk (by decide)
      have h2 := itoa_len hv
      show (Lib.itoa ((val st.hd.s : Nat) : Int)).length + 40 + B st.adv ≤ B st
      omega
    · split at h
      · next hk =>
        cases h
        have m := made_maker ht.adv
        have hb4 : (want [125] (pnumber 0 9 (want [44] (pnumber 1 99 st.adv).2)).2).bad = none := hbad
        have hb3 := want_bad _ _ hb4
        have hb2 := number_bad _ _ _ hb3
        have hb1 := want_bad _ _ hb2
        have i0 := B_is hk (by decide)
        have i1 := B_pnumber hb1
        have i2 := B_want (by decide) hb2
        have i3 := B_pnumber hb3
        have i4 := B_want (by decide) hb4
        refine ⟨1, .inr (.inr (.inl ⟨rfl, pnumber_le _ _ _, pnumber_le _ _ _⟩)), ?_⟩
        have d1 : (Lib.decDigits (pnumber 1 99 st.adv).1).length ≤ 3 := dec_len2 (pnumber_le _ _ _)
        have d2 : (Lib.decDigits (pnumber 0 9 (want [44] (pnumber 1 99 st.adv).2)).1).length ≤ 3 := dec_len2 (Nat.le_trans (pnumber_le _ _ _) (by omega))
        show ([123] ++ Lib.decDigits (pnumber 1 99 st.adv).1 ++ [44] ++ Lib.decDigits (pnumber 0 9 (want [44] (pnumber 1 99 st.adv).2)).1 ++ [125]).length + 40 + B (want [125] (pnumber 0 9 (want [44] (pnumber 1 99 st.adv).2)).2) ≤ B st
        simp only [List.length_append, List.length_cons, List.length_nil] at i0 i1 i2 i3 i4 ⊢
        omega
      · split at h
        · next hk =>
          simp only [Option.bind_eq_some_iff, Option.some.injEq] at h
          obtain ⟨r, h1, rfl⟩ := h
          have i0 := B_is hk (by decide)
          obtain ⟨m, f1, f2⟩ := hx _ _ _ h1 ht.adv (want_bad _ _ hbad)
          have i1 := B_want (s := [41]) (by decide) hbad
          simp only [List.length_cons, List.length_nil] at i0 i1
          exact ⟨m, f1, by show (text m r.1).length + 40 + B (want [41] r.2) ≤ _; omega⟩
        · cases h
          exact (fail_no hbad).elim

theorem fit_calls {ex : Rd} (hx : ExF ex) (hm : ExM ex) (hk : Keeps ex) : ∀ (k : Nat) (e : Ex) (st : St) (q : Ex × St) (b : Nat), pcalls ex k e st = some q → TK st → Fit (e, st) b → Fit q b
  | 0, _, _, _, _, h, _, _ => by simp [pcalls] at h
  | k + 1, e, st, q, b, h, ht, he => by
    rw [pcalls] at h
    split at h
    · simp only [Option.bind_eq_some_iff] at h
      obtain ⟨r, h1, h2⟩ := h
      have ha := fit_atom hx h1 ht
      refine fit_calls hx hm hk k _ _ _ b h2 (made_atom hm h1 ht).1 ?_
      intro hb
      obtain ⟨m2, w2, l2⟩ := ha hb
      obtain ⟨m1, w1, l1⟩ := he (atom_keeps hk h1 hb)
      obtain ⟨v1, t1⟩ := fit_at w1 (Nat.le_add_right m1 m2)
      obtain ⟨v2, t2⟩ := fit_at w2 (Nat.le_add_left m2 m1)
      refine ⟨m1 + m2 + 1, .inr (.inr (.inr (.inr (.inl ⟨rfl, e, r.1, rfl, v1, v2⟩)))), ?_⟩
      have e1 : text (m1 + m2 + 1) (mkCall e r.1) = within e 4 (text (m1 + m2) e) ++ [32] ++ within r.1 5 (text (m1 + m2) r.1) := by simp [text, mkCall]
      show (text (m1 + m2 + 1) (mkCall e r.1)).length + 40 + B r.2 ≤ b
      rw [e1, t1, t2]
      have g1 := within_le e 4 (text m1 e)
      have g2 := within_le r.1 5 (text m2 r.1)
      simp only [List.length_append, List.length_cons, List.length_nil] at l1 l2 ⊢
      omega
    · cases h
      exact he
theorem fit_call {ex : Rd} (hx : ExF ex) (hm : ExM ex) (hk : Keeps ex) {k : Nat} {st : St} {q : Ex × St} (h : pcall ex k st = some q) (ht : TK st) : Fit q (B st) := by
  unfold pcall at h
  simp only [Option.bind_eq_some_iff] at h
  obtain ⟨r, h1, h2⟩ := h
  exact fit_calls hx hm hk k _ _ _ _ h2 (made_atom hm h1 ht).1 (fit_atom hx h1 ht)

/-- An operation's text is as long as its parts and a little more. -/
theorem fit_op {t : Tok} (hs : t.s ∈ six) {a b : Ex} {st st' s2 : St} {c : Nat} (ha : ∃ m, Wf m a ∧ (text m a).length + 40 + B st ≤ c) (hst : B st' + t.s.length + 100 = B st) (hb : ∃ m, Wf m b ∧ (text m b).length + 40 + B s2 ≤ B st') : ∃ m, Wf m (mkOp t a b) ∧ (text m (mkOp t a b)).length + 40 + B s2 ≤ c := by
  obtain ⟨m1, w1, l1⟩ := ha
  obtain ⟨m2, w2, l2⟩ := hb
  obtain ⟨v1, t1⟩ := fit_at w1 (Nat.le_add_right m1 m2)
  obtain ⟨v2, t2⟩ := fit_at w2 (Nat.le_add_left m2 m1)
  refine ⟨m1 + m2 + 1, .inr (.inr (.inr (.inr (.inr (.inl ⟨rfl, hs, a, b, rfl, v1, v2⟩))))), ?_⟩
  have e1 : text (m1 + m2 + 1) (mkOp t a b) = within a (max (level (mkOp t a b)) 2) (text (m1 + m2) a) ++ [32] ++ t.s ++ [32] ++ within b (level (mkOp t a b) + 1) (text (m1 + m2) b) := by simp [text, mkOp]
  rw [e1, t1, t2]
  have g1 := within_le a (max (level (mkOp t a b)) 2) (text m1 a)
  have g2 := within_le b (level (mkOp t a b) + 1) (text m2 b)
  simp only [List.length_append, List.length_cons, List.length_nil]
  omega

theorem fit_ops {sub : St → Option (Ex × St)} (hs : ∀ st q, sub st = some q → TK st → Fit q (B st)) (hm : ∀ st q, sub st = some q → TK st → Made q) (hk : ∀ st q, sub st = some q → q.2.bad = none → st.bad = none) {a b : List UInt8} (ha : a ∈ six) (hb : b ∈ six) :
    ∀ (k : Nat) (e : Ex) (st : St) (q : Ex × St) (c : Nat), pops sub a b k e st = some q → TK st → Fit (e, st) c → Fit q c
  | 0, _, _, _, _, h, _, _ => by simp [pops] at h
  | k + 1, e, st, q, c, h, ht, he => by
    rw [pops] at h
    split at h
    · next hi =>
      simp only [Option.bind_eq_some_iff] at h
      obtain ⟨r, h1, h2⟩ := h
      refine fit_ops hs hm hk ha hb k _ _ _ c h2 (hm _ _ h1 ht.adv).1 ?_
      intro hbad
      have hsix : st.hd.s ∈ six ∧ B st.adv + st.hd.s.length + 100 = B st := by
        simp only [Bool.or_eq_true] at hi
        rcases hi with hi | hi
        · have := B_is hi (by intro e; rw [e] at ha; revert ha; decide)
          rw [is_text hi]; exact ⟨ha, this⟩
        · have := B_is hi (by intro e; rw [e] at hb; revert hb; decide)
          rw [is_text hi]; exact ⟨hb, this⟩
      exact fit_op hsix.1 (he (adv_bad _ (hk _ _ h1 hbad))) hsix.2 (hs _ _ h1 ht.adv hbad)
    · cases h
      exact he

theorem fit_product {ex : Rd} (hx : ExF ex) (hm : ExM ex) (hk : Keeps ex) {k : Nat} {st : St} {q : Ex × St} (h : pproduct ex k st = some q) (ht : TK st) : Fit q (B st) := by
  unfold pproduct at h
  simp only [Option.bind_eq_some_iff] at h
  obtain ⟨r, h1, h2⟩ := h
  exact fit_ops (fun _ _ a b => fit_call hx hm hk a b) (fun _ _ a b => made_call hm hk a b) (fun _ _ a => call_keeps hk _ _ _ a) (by decide) (by decide) k _ _ _ _ h2 (made_call hm hk h1 ht).1 (fit_call hx hm hk h1 ht)
theorem fit_sum {ex : Rd} (hx : ExF ex) (hm : ExM ex) (hk : Keeps ex) {k : Nat} {st : St} {q : Ex × St} (h : psum ex k st = some q) (ht : TK st) : Fit q (B st) := by
  unfold psum at h
  simp only [Option.bind_eq_some_iff] at h
  obtain ⟨r, h1, h2⟩ := h
  exact fit_ops (fun _ _ a b => fit_product hx hm hk a b) (fun _ _ a b => made_product hm hk a b) (fun _ _ a => product_keeps hk _ _ _ a) (by decide) (by decide) k _ _ _ _ h2 (made_product hm hk h1 ht).1 (fit_product hx hm hk h1 ht)
theorem fit_test {ex : Rd} (hx : ExF ex) (hm : ExM ex) (hk : Keeps ex) {k : Nat} {st : St} {q : Ex × St} (h : ptest ex k st = some q) (ht : TK st) : Fit q (B st) := by
  unfold ptest at h
  simp only [Option.bind_eq_some_iff] at h
  obtain ⟨r, h1, h2⟩ := h
  have f := fit_sum hx hm hk h1 ht
  have mm := made_sum hm hk h1 ht
  split at h2
  · next hi =>
    simp only [Option.bind_eq_some_iff, Option.some.injEq] at h2
    obtain ⟨p, h3, rfl⟩ := h2
    intro hbad
    have hsix : r.2.hd.s ∈ six ∧ B r.2.adv + r.2.hd.s.length + 100 = B r.2 := by
      simp only [Bool.or_eq_true] at hi
      rcases hi with hi | hi
      · have := B_is hi (by decide)
        rw [is_text hi]; exact ⟨by decide, this⟩
      · have := B_is hi (by decide)
        rw [is_text hi]; exact ⟨by decide, this⟩
    exact fit_op hsix.1 (f (adv_bad _ (sum_keeps hk _ _ _ h3 hbad))) hsix.2 (fit_sum hx hm hk h3 mm.1.adv hbad)
  · cases h2
    exact f

end Th
end Go.Proofs.YtgahgkddaljmkaaGreatDoor

namespace Go.Proofs.YtgahgkddaljmkaaGreatDoor
open Go.RowKit
namespace Th

theorem bindTexts_snoc (f : Ex → List UInt8) : ∀ (l : List Tok) (es : List Ex) (t : Tok) (e : Ex), es.length = l.length → bindTexts f (l ++ [t]) (es ++ [e]) = bindTexts f l es ++ [bindText t (f e)]
  | [], [], _, _, _ => rfl
  | a :: l, b :: es, t, e, h => by
    simp only [List.cons_append, bindTexts]
    rw [bindTexts_snoc f l es t e (by simpa using h)]
  | [], _ :: _, _, _, h => by simp at h
  | _ :: _, [], _, _, h => by simp at h
theorem joined_le (z : List (List UInt8)) (x : List UInt8) : (joined (z ++ [x])).length ≤ (joined z).length + 2 + x.length := by
  by_cases h : z = []
  · subst h; simp [joined]
  · rw [joined_snoc h]; simp only [List.length_append, List.length_cons, List.length_nil]; omega

def armSum (f : Ex → List UInt8) : List (Nat × List Tok) → List Ex → Nat
  | a :: l, e :: es => (armText a (f e)).length + 4 + armSum f l es
  | _, _ => 0
theorem armSum_snoc (f : Ex → List UInt8) : ∀ (l : List (Nat × List Tok)) (es : List Ex) (a : Nat × List Tok) (e : Ex), es.length = l.length → armSum f (l ++ [a]) (es ++ [e]) = armSum f l es + ((armText a (f e)).length + 4)
  | [], [], _, _, _ => by simp [armSum]
  | b :: l, c :: es, a, e, h => by
    simp only [List.cons_append, armSum]
    rw [armSum_snoc f l es a e (by simpa using h)]
    omega
  | [], _ :: _, _, _, h => by simp at h
  | _ :: _, [], _, _, h => by simp at h
theorem armSum_congr {f g : Ex → List UInt8} : ∀ (l : List (Nat × List Tok)) (es : List Ex), (∀ p ∈ es, f p = g p) → armSum f l es = armSum g l es
  | [], _, _ => by simp [armSum]
  | _ :: _, [], _ => by simp [armSum]
  | t :: l, e :: es, h => by
    rw [armSum, armSum, h e (List.mem_cons_self ..), armSum_congr l es (fun p hp => h p (List.mem_cons_of_mem _ hp))]
theorem joined_flat (x : List UInt8) (r : List (List UInt8)) : (joined (x :: r)).length = x.length + (r.map (fun y => y.length + 2)).sum := by
  have h : ∀ (r : List (List UInt8)) (a : List UInt8), (r.foldl (fun s y => s ++ [59, 32] ++ y) a).length = a.length + (r.map (fun y => y.length + 2)).sum := by
    intro r
    induction r with
    | nil => intro a; simp
    | cons y r ih =>
      intro a
      rw [List.foldl_cons, ih]
      simp only [List.length_append, List.length_cons, List.length_nil, List.map_cons, List.sum_cons]
      omega
  exact h r x
theorem armText_le (a : Nat × List Tok) (o l : Bool) (s : List UInt8) : (armText a (armBody o l s)).length ≤ (armText a s).length + 2 := by
  unfold armText armBody
  split
  · simp [paren]; omega
  · omega
theorem armTexts_sum (f : Ex → List UInt8) (u : Ex → Bool) : ∀ (l : List (Nat × List Tok)) (es : List Ex), ((armTexts f u l es).map (fun y => y.length + 2)).sum ≤ armSum f l es
  | [], _ => by simp [armTexts, armSum]
  | _ :: _, [] => by simp [armTexts, armSum]
  | a :: l, e :: es => by
    have ih := armTexts_sum f u l es
    have := armText_le a (u e) l.isEmpty (f e)
    simp only [armTexts, armSum, List.map_cons, List.sum_cons]
    omega
theorem joined_arms (f : Ex → List UInt8) (u : Ex → Bool) (l : List (Nat × List Tok)) (es : List Ex) : (joined (armTexts f u l es)).length ≤ armSum f l es := by
  have h := armTexts_sum f u l es
  cases hz : armTexts f u l es with
  | nil => simp [joined]
  | cons x r =>
    rw [hz] at h
    rw [joined_flat]
    simp only [List.map_cons, List.sum_cons] at h
    omega

theorem wf_all {m : Nat} {l : List Ex} {k : Nat} (h : ∀ p ∈ l, Wf m p) (hk : m ≤ k) : (∀ p ∈ l, Wf k p) ∧ ∀ p ∈ l, text k p = text m p := ⟨fun p hp => (h p hp).le hk, fun p hp => text_stable m p (h p hp) k hk⟩
theorem wf_snoc {k : Nat} {l : List Ex} {e : Ex} (h : ∀ p ∈ l, Wf k p) (he : Wf k e) : ∀ p ∈ l ++ [e], Wf k p := by
  intro p hp
  rcases List.mem_append.mp hp with hp | hp
  · exact h p hp
  · rw [List.mem_singleton.mp hp]; exact he

def FitB (l : List Tok) (es : List Ex) (st : St) (b : Nat) : Prop := st.bad = none → ∃ m, (∀ p ∈ es, Wf m p) ∧ (joined (bindTexts (text m) l es)).length + B st ≤ b
def FitA (l : List (Nat × List Tok)) (es : List Ex) (st : St) (b : Nat) : Prop := st.bad = none → ∃ m, (∀ p ∈ es, Wf m p) ∧ armSum (text m) l es + B st ≤ b

theorem fit_binds {ex : Rd} (hx : ExF ex) (hm : ExM ex) (hk : Keeps ex) : ∀ (k : Nat) (l : List Tok) (es : List Ex) (st : St) (q : List Tok × List Ex × St) (b : Nat), pbinds ex k l es st = some q → TK st → es.length = l.length → FitB l es st b → FitB q.1 q.2.1 q.2.2 b
  | 0, _, _, _, _, _, h, _, _, _ => by simp [pbinds] at h
  | k + 1, l, es, st, q, b, h, ht, hl, he => by
    rw [pbinds] at h
    simp only [Option.bind_eq_some_iff] at h
    obtain ⟨r, h1, h2⟩ := h
    have mm := hm _ _ _ h1 (ht.pname.want _)
    have f := hx _ _ _ h1 (ht.pname.want _)
    have hn : FitB (l ++ [(pname st).1]) (es ++ [r.1]) r.2 b := by
      intro hb
      have hb1 := hk _ _ _ h1 hb
      have hb2 := want_bad _ _ hb1
      obtain ⟨m2, w2, l2⟩ := f hb
      obtain ⟨m1, w1, l1⟩ := he (name_bad _ hb2)
      have i1 := B_pname hb2
      have i2 := B_want (s := [61]) (by decide) hb1
      obtain ⟨v1, t1⟩ := wf_all w1 (Nat.le_add_right m1 m2)
      obtain ⟨v2, t2⟩ := fit_at w2 (Nat.le_add_left m2 m1)
      refine ⟨m1 + m2, wf_snoc v1 v2, ?_⟩
      rw [bindTexts_snoc _ _ _ _ _ hl, bindTexts_congr l es t1, t2]
      have := joined_le (bindTexts (text m1) l es) (bindText (pname st).1 (text m2 r.1))
      simp only [bindText, List.length_append, List.length_cons, List.length_nil] at this i2 ⊢
      omega
    have hl2 : (es ++ [r.1]).length = (l ++ [(pname st).1]).length := by simp [hl]
    split at h2
    · next hi =>
      refine fit_binds hx hm hk k _ _ _ _ b h2 mm.1.adv hl2 (fun hb => ?_)
      obtain ⟨m, w, ll⟩ := hn (adv_bad _ hb)
      have := B_is hi (by decide)
      exact ⟨m, w, by omega⟩
    · cases h2
      exact hn

theorem fit_let {ex : Rd} (hx : ExF ex) (hm : ExM ex) (hk : Keeps ex) {k : Nat} {c : Bool} {st : St} {q : Ex × St} (h : plet ex k c st = some q) (ht : TK st) : Fit q (B st) := by
  unfold plet at h
  simp only [Option.bind_eq_some_iff, Option.some.injEq] at h
  obtain ⟨r, h1, p, h2, rfl⟩ := h
  have h0 : TK (if st.is sRec then st.adv else st) ∧ B (if st.is sRec then st.adv else st) ≤ B st := by
    split
    · next hi => exact ⟨ht.adv, by have := B_is hi (by decide); omega⟩
    · exact ⟨ht, Nat.le_refl _⟩
  obtain ⟨a1, a2, a3, a4⟩ := made_binds hm hk k _ _ _ _ h1 h0.1 rfl (fun _ => WFs.nil)
  have fb := fit_binds hx hm hk k _ _ _ _ (B st) h1 h0.1 rfl (fun _ => ⟨0, by simp, by simp [bindTexts, joined]; exact h0.2⟩)
  intro hbad
  have hb1 := hk _ _ _ h2 hbad
  obtain ⟨m1, w1, l1⟩ := fb (want_bad _ _ hb1)
  obtain ⟨m2, w2, l2⟩ := hx _ _ _ h2 (a1.want _) hbad
  have i1 := B_want (s := sIn) (by decide) hb1
  obtain ⟨v1, t1⟩ := wf_all w1 (Nat.le_add_right m1 m2)
  obtain ⟨v2, t2⟩ := fit_at w2 (Nat.le_add_left m2 m1)
  have e1 : text (m1 + m2 + 1) (mkLet (st.is sRec) r.1 r.2.1 p.1) = (if st.is sRec then [108, 101, 116, 32, 114, 101, 99, 32] else [108, 101, 116, 32]) ++ joined (bindTexts (text (m1 + m2)) r.1 r.2.1) ++ [32, 105, 110, 32] ++ text (m1 + m2) p.1 := by
    cases st.is sRec <;> simp [text, mkLet]
  refine ⟨m1 + m2 + 1, .inr (.inr (.inr (.inr (.inr (.inr (.inl ⟨?_, a2, p.1, r.2.1, rfl, a3, v1, v2⟩)))))), ?_⟩
  · cases st.is sRec
    · exact .inl rfl
    · exact .inr rfl
  · show (text (m1 + m2 + 1) (mkLet (st.is sRec) r.1 r.2.1 p.1)).length + 40 + B p.2 ≤ B st
    rw [e1, bindTexts_congr r.1 r.2.1 t1, t2]
    have h8 : (if st.is sRec = true then [108, 101, 116, 32, 114, 101, 99, 32] else [108, 101, 116, 32] : List UInt8).length ≤ 8 := by split <;> simp
    simp only [List.length_append, List.length_cons, List.length_nil]
    omega

theorem fit_arms {ex : Rd} (hx : ExF ex) (hm : ExM ex) (hk : Keeps ex) (c : Bool) : ∀ (k : Nat) (l : List (Nat × List Tok)) (es : List Ex) (st : St) (q : List (Nat × List Tok) × List Ex × St) (b : Nat), parms ex c k l es st = some q → TK st → es.length = l.length → FitA l es st b → FitA q.1 q.2.1 q.2.2 b
  | 0, _, _, _, _, _, h, _, _, _ => by simp [parms] at h
  | k + 1, l, es, st, q, b, h, ht, hl, he => by
    rw [parms] at h
    simp only [Option.bind_eq_some_iff] at h
    obtain ⟨r, h1, h2⟩ := h
    obtain ⟨m0, mm, _⟩ := made_arm hm h1 ht
    have hn : FitA (l ++ [r.1]) (es ++ [r.2.1]) r.2.2 b := by
      intro hb
      obtain ⟨m1, w1, l1⟩ := he (parm_bad hk h1 hb)
      unfold parm at h1
      simp only [Option.bind_eq_some_iff, Option.some.injEq] at h1
      obtain ⟨p, h3, rfl⟩ := h1
      have hb4 := hk _ _ _ h3 hb
      have hb3 := want_bad _ _ hb4
      have hb2 := names_bad _ hb3
      have hb1 := want_bad _ _ hb2
      have hb0 := number_bad _ _ _ hb1
      obtain ⟨m2, w2, l2⟩ := hx _ _ _ h3 (TK.want _ (TK.pnames (TK.want _ (TK.pnumber _ _ (ht.want _))))) hb
      have i0 := B_want (s := [60]) (by decide) hb0
      have i1 := B_pnumber hb1
      have i2 := B_want (s := [62]) (by decide) hb2
      have i3 := B_pnames (want [62] (pnumber 1 99 (want [60] st)).2)
      have i4 := B_want (s := [45, 62]) (by decide) hb4
      have d := dec_len2 m0
      obtain ⟨v1, t1⟩ := wf_all w1 (Nat.le_add_right m1 m2)
      obtain ⟨v2, t2⟩ := fit_at w2 (Nat.le_add_left m2 m1)
      refine ⟨m1 + m2, wf_snoc v1 v2, ?_⟩
      rw [armSum_snoc _ _ _ _ _ hl, armSum_congr l es t1, t2]
      simp only [armText, List.length_append, List.length_cons, List.length_nil] at i0 i2 i4 d ⊢
      omega
    have hl2 : (es ++ [r.2.1]).length = (l ++ [r.1]).length := by simp [hl]
    split at h2
    · next hi =>
      refine fit_arms hx hm hk c k _ _ _ _ b h2 mm.adv hl2 (fun hb => ?_)
      obtain ⟨m, w, ll⟩ := hn (adv_bad _ hb)
      unfold armFollows at hi
      simp only [Bool.and_eq_true] at hi
      have := B_is hi.1 (by decide)
      exact ⟨m, w, by omega⟩
    · cases h2
      exact hn

theorem fit_case {ex : Rd} (hx : ExF ex) (hm : ExM ex) (hk : Keeps ex) {k : Nat} {c : Bool} {st : St} {q : Ex × St} (h : pcase ex k c st = some q) (ht : TK st) : Fit q (B st) := by
  unfold pcase at h
  simp only [Option.bind_eq_some_iff, Option.some.injEq] at h
  obtain ⟨r, h1, p, h2, rfl⟩ := h
  have m := hm _ _ _ h1 ht
  obtain ⟨a1, a2, a3, a4, a5⟩ := made_arms hm hk c k _ _ _ _ h2 (m.1.want _) rfl (by simp) (fun _ => WFs.nil)
  have fa := fit_arms hx hm hk c k _ _ _ _ (B (want sOf r.2)) h2 (m.1.want _) rfl (fun _ => ⟨0, by simp, by simp [armSum]⟩)
  intro hbad
  have hb1 := arms_keeps hk c k _ _ _ _ h2 hbad
  obtain ⟨m1, w1, l1⟩ := fa hbad
  obtain ⟨m2, w2, l2⟩ := hx _ _ _ h1 ht (want_bad _ _ hb1)
  have i1 := B_want (s := sOf) (by decide) hb1
  obtain ⟨v1, t1⟩ := wf_all w1 (Nat.le_add_right m1 m2)
  obtain ⟨v2, t2⟩ := fit_at w2 (Nat.le_add_left m2 m1)
  have e1 : text (m1 + m2 + 1) (mkCase r.1 p.1 p.2.1) = [99, 97, 115, 101, 32] ++ text (m1 + m2) r.1 ++ [32, 111, 102, 32] ++ joined (armTexts (text (m1 + m2)) (ends (m1 + m2)) p.1 p.2.1) := by simp [text, mkCase]
  refine ⟨m1 + m2 + 1, .inr (.inr (.inr (.inr (.inr (.inr (.inr ⟨rfl, a2, a3, r.1, p.2.1, rfl, a4, v1, v2⟩)))))), ?_⟩
  show (text (m1 + m2 + 1) (mkCase r.1 p.1 p.2.1)).length + 40 + B p.2.2 ≤ B st
  have hj := joined_arms (text (m1 + m2)) (ends (m1 + m2)) p.1 p.2.1
  rw [armSum_congr p.1 p.2.1 t1] at hj
  rw [e1, t2]
  simp only [List.length_append, List.length_cons, List.length_nil]
  omega
theorem fit_fun {ex : Rd} (hx : ExF ex) (hk : Keeps ex) {c : Bool} {st : St} {q : Ex × St} (h : pfun ex c st = some q) (ht : TK st) : Fit q (B st) := by
  unfold pfun at h
  simp only [Option.bind_eq_some_iff, Option.some.injEq] at h
  obtain ⟨r, h1, rfl⟩ := h
  intro hbad
  have hb3 := hk _ _ _ h1 hbad
  have hb2 := want_bad _ _ hb3
  have hb1 := names_bad _ hb2
  obtain ⟨m, w, l⟩ := hx _ _ _ h1 (TK.want _ (TK.pnames ht.pname)) hbad
  have i1 := B_pname hb1
  have i2 := B_pnames (pname st).2
  have i3 := B_want (s := [46]) (by decide) hb3
  refine ⟨m + 1, .inr (.inr (.inr (.inl ⟨rfl, by simp [mkFun], r.1, rfl, w⟩))), ?_⟩
  have e1 : text (m + 1) (mkFun ((pname st).1 :: (pnames (pname st).2).1) r.1) = [92] ++ (spaced ((pname st).1 :: (pnames (pname st).2).1)).tail ++ [46, 32] ++ text m r.1 := by simp [text, mkFun]
  show (text (m + 1) (mkFun ((pname st).1 :: (pnames (pname st).2).1) r.1)).length + 40 + B r.2 ≤ B st
  have s1 := spaced_room ((pname st).1 :: (pnames (pname st).2).1)
  have s2 := spaced_room (pnames (pname st).2).1
  rw [room_cons] at s1
  rw [e1]
  simp only [List.length_append, List.length_cons, List.length_nil, List.length_tail] at i3 s1 ⊢
  omega
theorem fit_body {ex : Rd} (hx : ExF ex) (hm : ExM ex) (hk : Keeps ex) (k : Nat) : ExF (pbody ex k) := by
  intro c st q h ht
  unfold pbody at h
  split at h
  · next hi => exact (fit_let hx hm hk h ht.adv).le (by have := B_is hi (by decide); omega)
  · split at h
    · next hi => exact (fit_case hx hm hk h ht.adv).le (by have := B_is hi (by decide); omega)
    · split at h
      · next hi => exact (fit_fun hx hk h ht.adv).le (by have := B_is hi (by decide); omega)
      · exact fit_test hx hm hk h ht
theorem fit_expr : ∀ n, ExF (pexpr n)
  | 0 => fun _ _ _ h => by simp [pexpr] at h
  | n + 1 => fit_body (fit_expr n) (made_expr n) (expr_keeps n) n

/-- The lines of a program that was read whole: their trees are well made, and their text is not long. -/
def FitL (l : List Line) (st : St) (b : Nat) : Prop := st.bad = none → ∃ m, (∀ x ∈ l, Wf m x.e) ∧ (progText m l).length + l.length + B st ≤ b
theorem fit_lines {n : Nat} : ∀ (k : Nat) (l : List Line) (st : St) (q : List Line × St) (b : Nat), plines (pexpr n) k l st = some q → TK st → FitL l st b → FitL q.1 q.2 b
  | 0, _, _, _, _, h, _, _ => by simp [plines] at h
  | k + 1, l, st, q, b, h, ht, hl => by
    rw [plines] at h
    split at h
    · simp only [Option.bind_eq_some_iff] at h
      obtain ⟨r, h1, h2⟩ := h
      unfold pline at h1
      simp only [Option.bind_eq_some_iff, Option.some.injEq] at h1
      obtain ⟨p, h3, rfl⟩ := h1
      have m := made_expr n _ _ _ h3 (TK.want _ (TK.pnames ht.pname))
      refine fit_lines k _ _ _ b h2 (m.1.want _) (fun hb5 => ?_)
      have hb4 := want_bad _ _ hb5
      have hb3 := expr_keeps n _ _ _ h3 hb4
      have hb2 := want_bad _ _ hb3
      have hb1 := names_bad _ hb2
      obtain ⟨m1, w1, l1⟩ := hl (name_bad _ hb1)
      obtain ⟨m2, w2, l2⟩ := fit_expr n _ _ _ h3 (TK.want _ (TK.pnames ht.pname)) hb4
      have i1 := B_pname hb1
      have i2 := B_pnames (pname st).2
      have i3 := B_want (s := [61]) (by decide) hb3
      have i4 := B_want (s := [59]) (by decide) hb5
      obtain ⟨v2, t2⟩ := fit_at w2 (Nat.le_add_left m2 m1)
      refine ⟨m1 + m2, fun x hx => ?_, ?_⟩
      · rcases List.mem_append.mp hx with hx | hx
        · exact (w1 x hx).le (by omega)
        · rw [List.mem_singleton.mp hx]; exact v2
      · rw [progText_snoc, progText_stable w1 _ (Nat.le_add_right m1 m2), lineText, t2]
        simp only [List.length_append, List.length_cons, List.length_nil] at i3 i4 ⊢
        omega
    · cases h
      exact hl

theorem line_le (m : Nat) : ∀ (l : List Line) (x : Line), x ∈ l → (lineText m x).length ≤ (progText m l).length := by
  have h : ∀ (l : List Line) (a : List UInt8), a.length ≤ (l.foldl (fun s x => s ++ lineText m x) a).length ∧ ∀ x ∈ l, (lineText m x).length ≤ (l.foldl (fun s x => s ++ lineText m x) a).length := by
    intro l
    induction l with
    | nil => intro a; simp
    | cons y l ih =>
      intro a
      have := ih (a ++ lineText m y)
      rw [List.foldl_cons]
      refine ⟨Nat.le_trans (by simp) this.1, fun x hx => ?_⟩
      rcases List.mem_cons.1 hx with rfl | hx
      · exact Nat.le_trans (by simp) this.1
      · exact this.2 x hx
  exact fun l x hx => (h l []).2 x hx

end Th
end Go.Proofs.YtgahgkddaljmkaaGreatDoor
