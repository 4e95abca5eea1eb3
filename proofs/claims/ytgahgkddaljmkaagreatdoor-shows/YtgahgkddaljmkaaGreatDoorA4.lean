/- The reader of package parse: a maker, an atom. The reader of package parse: an atom, given what a reader of expressions does. The reader of package parse: a call, an operation, a product, a sum, a test, given what a reader of expressions does. The reader of package parse: a product, a sum, a test, given what a reader of expressions does. The reader of package parse: a test, given what a reader of expressions does. The reader of package parse: a bind, an arm, a line, given what a reader of expressions does. -/
import Derived.Test.YtgahgkddaljmkaaGreatDoorA3
namespace Go.Proofs.YtgahgkddaljmkaaGreatDoor
open Go.RowKit
attribute [local go_sem] fld_tok0 fld_tok1 fld_tok2

theorem want_bad (x : List UInt8) (st : Th.St) : (Th.want x st).bad = none → st.bad = none := by
  intro h
  unfold Th.want at h
  split at h
  · simpa [Th.St.adv] using h
  · unfold Th.St.fail at h
    split at h
    · simp at h
    · exact h
theorem number_bad (lo hi : Nat) (st : Th.St) : (Th.pnumber lo hi st).2.bad = none → st.bad = none := by
  intro h
  unfold Th.pnumber at h
  split at h
  · simpa [Th.St.adv] using h
  · simp only at h
    unfold Th.St.fail at h
    split at h
    · simp at h
    · exact h

/-- What a reader of expressions does: it returns a value that stands for what the grammar gives; the reader's block aside, nothing that was there has turned. -/
def Reads (w : World) (r tb : Nat) (T : List Th.Tok) (e : Th.Ex) (st' : Th.St) (en : Ending) (w' : World) : Prop :=
  ∃ v, en = .returned v ∧ Got (Since w) w' v e st' ∧ RS w' r tb T st' ∧ w.grownBy w' (some r)

set_option maxRecDepth 100000 in
set_option maxHeartbeats 2000000 in
theorem maker_any {w : World} {r tb : Nat} {T : List Th.Tok} {st : Th.St} (h : RS w r tb T st) :
    Calls Tryz.prog 290 #[.pointer (some ⟨r, 0, none⟩)] w fun en w' => Reads w r tb T (Th.pmaker st).1 (Th.pmaker st).2 en w' := by
  have hrl := h.lt
  have htl := h.tlt
  go_enter Tryz.func290, Tryz.ntmps290
  go_wp2_with fail
  refine (tag_any h).mono ?_
  rintro e w1 ⟨rfl, hs1, hg1⟩
  generalize ha : Th.pnumber 1 99 st = a at hs1 ⊢
  have Ha := hide ha
  have Hs1 := hide (hs1.alloc (.cells #[.int .i64 a.1, .int .i64 0] 219))
  have Hg1 := hide hg1
  have hz := hg1.size
  have B0 := hide (Blk.new w1 [.int .i64 a.1, .int .i64 0] 219)
  clear h ha hs1 hg1
  go_wp2_with fail
  refine (expect_any (unhide Hs1) ⟨#[44]⟩ (by simp)).mono ?_
  rintro e w2 ⟨rfl, hs2, hg2⟩
  have B1 := hide ((unhide B0).grown hg2 (by simp; omega))
  have Hg2 := hide hg2
  clear hg2
  go_wp2_with fail
  refine (rnumber_any hs2 0 9 (by omega) (by omega)).mono ?_
  rintro e w3 ⟨rfl, hs3, hg3⟩
  clear hs2
  generalize hb : Th.pnumber 0 9 _ = b at hs3 ⊢
  have B2 := (unhide B1).grown hg3 (by simp; omega)
  have c1 := B2.cell 1
  have f1 := B2.frozen 1
  simp at c1
  have HB2 := hide B2
  have Hb := hide hb
  have Hg3 := hide hg3
  have Hs3 := hide (hs3.set w1.heap.size 1 (.int .i64 b.1) (by omega) (by omega))
  clear hs3 hg3 hb B2
  go_wp2_with fail
  refine (expect_any (unhide Hs3) ⟨#[125]⟩ (by simp)).mono ?_
  rintro e w4 ⟨rfl, hs4, hg4⟩
  have B3 := ((unhide HB2).set 1 (.int .i64 b.1)).grown hg4 (by simp; omega)
  have d0 := B3.cell 0
  have d1 := B3.cell 1
  simp at d0 d1
  have Hs4 := hide hs4
  have Hg4 := hide hg4
  clear hs4 hg4 B3 c1 f1
  go_wp2_with fail
  go_ret
  have ea : Th.pmaker st = (Th.mkMake a.1 b.1, Th.want [125] b.2) := by
    unfold Th.pmaker
    simp only [unhide Ha]
    rw [show Th.pnumber 0 9 (Th.want [44] a.2) = b from unhide Hb]
  rw [ea]
  have hG : w.grownBy w4 (some r) := gb_trans (gb_set_new (gb_trans (gb_trans (gb_trans (unhide Hg1) (gb_alloc _ _ _)) (unhide Hg2)) (unhide Hg3)) _ _ hz) (unhide Hg4)
  exact ⟨_, rfl, ⟨one_iface _ _, fun _ => ⟨1, .inr (.inr (.inl ⟨rfl, rfl⟩))⟩⟩, unhide Hs4, hG⟩

end Go.Proofs.YtgahgkddaljmkaaGreatDoor

namespace Go.Proofs.YtgahgkddaljmkaaGreatDoor
open Go.RowKit
attribute [local go_sem] fld_tok0 fld_tok1 fld_tok2

/-- The method expr does what a reader of the grammar says. -/
def ExOK (ex : Th.Rd) : Prop := ∀ (c : Bool) (st : Th.St) (q : Th.Ex × Th.St) (w : World) (r tb : Nat) (T : List Th.Tok), ex c st = some q → RS w r tb T st →
  Calls Tryz.prog 118 #[.pointer (some ⟨r, 0, none⟩), .bool c] w fun en w' => Reads w r tb T q.1 q.2 en w'

theorem is_bad {st : Th.St} {x : List UInt8} (h : st.is x = true) : st.bad = none := by
  obtain ⟨rest, bad⟩ := st
  cases bad with
  | some p => simp [Th.St.is] at h
  | none => rfl

theorem since_r {w : World} {r : Nat} (h : r < w.heap.size) : ∀ k, some r = some k → ¬ Since w k := by
  intro k e
  simp at e
  subst e
  simp only [Since]
  omega

set_option maxRecDepth 100000 in
set_option maxHeartbeats 4000000 in
theorem atom_ok {ex : Th.Rd} (hx : ExOK ex) {w : World} {r tb : Nat} {T : List Th.Tok} {st : Th.St} {q : Th.Ex × Th.St} (hq : Th.patom ex st = some q) (h : RS w r tb T st) :
    Calls Tryz.prog 285 #[.pointer (some ⟨r, 0, none⟩)] w fun en w' => Reads w r tb T q.1 q.2 en w' := by
  have hrl := h.lt
  have htl := h.tlt
  obtain ⟨t, tk, ti, th, tm, tc⟩ := tokenS h
  have hk2 := tk 2 (by omega)
  have hk3 := tk 3 (by omega)
  have HH := hide h
  have HQ := hide hq
  clear hq
  cases h2 : st.kind 2
  · have h2' : ((t.k : Int) == 2) = false := by rw [hk2] at h2; simp at h2 ⊢; omega
    have H2 := hide h2
    clear h2 hk2
    cases h3 : st.kind 3
    · have h3' : ((t.k : Int) == 3) = false := by rw [hk3] at h3; simp at h3 ⊢; omega
      have H3 := hide h3
      clear h3 hk3
      have e0 : Hid (Th.patom ex st = if st.is [123] then some (Th.pmaker st.adv) else if st.is [40] then (ex false st.adv).bind fun r => some (r.1, Th.want [41] r.2) else some (Th.ex0, st.fail)) := hide (by rw [Th.patom, unhide H2, unhide H3]; simp)
      clear tk ti th tm
      go_enter Tryz.func285, Tryz.ntmps285
      go_wp2_with fail
      refine tc.mono ?_
      rintro e w1 ⟨rfl, hb⟩
      have Hs1 := hide (h.below hb)
      have Hb := hide hb
      clear tc h hb
      go_wp2_with fail
      obtain ⟨t1, tk1, -, -, -, tc1⟩ := tokenS (unhide Hs1)
      have h3'' : ((t1.k : Int) == 3) = false := by have := tk1 3 (by omega); rw [unhide H3] at this; simp at this ⊢; omega
      clear tk1
      refine tc1.mono ?_
      rintro e w2 ⟨rfl, hb2⟩
      have Hs2 := hide ((unhide Hs1).below hb2)
      have Hb2 := hide ((unhide Hb).trans (hb2.mono (unhide Hb).size))
      clear tc1 hb2
      go_wp2_with fail
      refine (accept_any (unhide Hs2) ⟨#[123]⟩ (by simp)).mono ?_
      rintro e w3 ⟨rfl, hs3, hg3⟩
      have Hg3 := hide (gb_trans (gb_below _ (unhide Hb2)) hg3)
      clear hg3
      cases h4 : st.is [123]
      · rw [show st.is (ByteArray.mk #[123]).data.toList = false from h4] at hs3
        have Hs3 : Hid (RS w3 r tb T st) := hide (by simpa using hs3)
        have H4 := hide h4
        clear hs3 h4
        go_wp2_with fail
        refine (accept_any (unhide Hs3) ⟨#[40]⟩ (by simp)).mono ?_
        rintro e w4 ⟨rfl, hs4, hg4⟩
        have Hg4 := hide (gb_trans (unhide Hg3) hg4)
        clear hg4
        cases h5 : st.is [40]
        · rw [show st.is (ByteArray.mk #[40]).data.toList = false from h5] at hs4
          have Hs4 : Hid (RS w4 r tb T st) := hide (by simpa using hs4)
          have e1 := unhide HQ
          rw [unhide e0, unhide H4, h5] at e1
          simp at e1
          subst e1
          clear hs4 h5
          go_wp2_with fail
          refine (fail_any (unhide Hs4)).mono ?_
          rintro e w5 ⟨rfl, hs5, hg5⟩
          have Hs5 := hide hs5
          have Hg5 := hide (gb_trans (unhide Hg4) hg5)
          clear hs5 hg5
          go_wp2_with fail
          go_ret
          refine ⟨_, rfl, ⟨one_nil, fun hb => ?_⟩, unhide Hs5, unhide Hg5⟩
          unfold Th.St.fail at hb
          split at hb <;> simp_all
        · rw [show st.is (ByteArray.mk #[40]).data.toList = true from h5] at hs4
          have Hs4 : Hid (RS w4 r tb T st.adv) := hide (by simpa using hs4)
          have e1 := unhide HQ
          rw [unhide e0, unhide H4, h5] at e1
          simp only [Bool.false_eq_true, if_false, if_true, Option.bind_eq_some_iff] at e1
          obtain ⟨q1, hq1, hq2⟩ := e1
          simp only [Option.some.injEq] at hq2
          subst hq2
          have Hq1 := hide hq1
          clear hs4 h5 hq1
          go_wp2_with fail
          refine (hx _ _ _ _ _ _ _ (unhide Hq1) (unhide Hs4)).mono ?_
          rintro en w5 ⟨v, rfl, hgot, hs5, hg5⟩
          have Hgot := hide hgot
          have hc := hgot.one.cells
          have Hg5 := hide (gb_trans (unhide Hg4) hg5)
          clear hgot hg5
          go_wp2_with fail
          refine (expect_any hs5 ⟨#[41]⟩ (by simp)).mono ?_
          rintro e w6 ⟨rfl, hs6, hg6⟩
          have Hs6 := hide hs6
          have Hg6 := hide hg6
          clear hs5 hs6 hg6
          go_wp2_with fail
          go_ret
          have hz := (unhide Hg4).size
          refine ⟨v, rfl, ?_, unhide Hs6, gb_trans (unhide Hg5) (unhide Hg6)⟩
          refine Got.st ?_ (want_bad [41] q1.2)
          exact ((unhide Hgot).mono (fun k _ hk => Nat.le_trans hz hk)).gb (unhide Hg6) (since_r hrl)
      · rw [show st.is (ByteArray.mk #[123]).data.toList = true from h4] at hs3
        have Hs3 : Hid (RS w3 r tb T st.adv) := hide (by simpa using hs3)
        have e1 := unhide HQ
        rw [unhide e0, h4] at e1
        simp only [if_true, Option.some.injEq] at e1
        subst e1
        clear hs3 h4
        go_wp2_with fail
        refine (maker_any (unhide Hs3)).mono ?_
        rintro en w4 ⟨v, rfl, hgot, hs4, hg4⟩
        have Hgot := hide hgot
        have hc := hgot.one.cells
        have Hs4 := hide hs4
        have Hg4 := hide hg4
        clear hgot hg4 hs4
        go_wp2_with fail
        go_ret
        exact ⟨v, rfl, (unhide Hgot).mono (fun k _ hk => Nat.le_trans (unhide Hg3).size hk), unhide Hs4, gb_trans (unhide Hg3) (unhide Hg4)⟩
    · have h3' : ((t.k : Int) == 3) = true := by rw [hk3] at h3; simp at h3 ⊢; omega
      have H3 := hide h3
      have hth : st.hd = t := th (kind_bad h3)
      have hk3' : t.k = 3 := by rw [hk3] at h3; simpa using h3
      have htn := h.good.num t tm hk3'
      have hv := val_small t.s htn.1 htn.2
      have ep : Hid (Th.pnumber 0 2147483647 st = (Th.val st.hd.s, st.adv)) := hide (by rw [Th.pnumber, h3, hth]; simp; omega)
      have e1 : Th.patom ex st = some (Th.mkNum (Th.val st.hd.s), st.adv) := by rw [Th.patom, unhide H2, h3]; simp
      have e2 := unhide HQ
      rw [e1] at e2
      simp only [Option.some.injEq] at e2
      subst e2
      clear h3 hk3 hth hk3' htn hv e1 tk ti th tm
      go_enter Tryz.func285, Tryz.ntmps285
      go_wp2_with fail
      refine tc.mono ?_
      rintro e w1 ⟨rfl, hb⟩
      have Hs1 := hide (h.below hb)
      have Hb := hide hb
      clear tc h hb
      go_wp2_with fail
      obtain ⟨t1, tk1, -, -, -, tc1⟩ := tokenS (unhide Hs1)
      have h3'' : ((t1.k : Int) == 3) = true := by have := tk1 3 (by omega); rw [unhide H3] at this; simp at this ⊢; omega
      clear tk1
      refine tc1.mono ?_
      rintro e w2 ⟨rfl, hb2⟩
      have Hs2 := hide ((unhide Hs1).below hb2)
      have Hb2 := hide ((unhide Hb).trans (hb2.mono (unhide Hb).size))
      clear tc1 hb2
      go_wp2_with fail
      refine (rnumber_any (unhide Hs2) 0 2147483647 (by omega) (by omega)).mono ?_
      rintro e w3 ⟨rfl, hs3, hg3⟩
      rw [unhide ep] at hs3 ⊢
      have Hs3 := hide hs3
      have Hg3 := hide (gb_trans (gb_below _ (unhide Hb2)) hg3)
      clear hs3 hg3
      go_wp2_with fail
      go_ret
      exact ⟨_, rfl, ⟨one_iface _ _, fun _ => ⟨1, .inl ⟨rfl, rfl⟩⟩⟩, unhide Hs3, unhide Hg3⟩
  · have h2' : ((t.k : Int) == 2) = true := by rw [hk2] at h2; simp at h2 ⊢; omega
    have H2 := hide h2
    have ep : Hid (Th.pname st = (st.hd, st.adv)) := hide (by simp [Th.pname, h2])
    have e1 : Th.patom ex st = some (Th.mkName st.hd, st.adv) := by rw [Th.patom, h2]; simp
    have e2 := unhide HQ
    rw [e1] at e2
    simp only [Option.some.injEq] at e2
    subst e2
    clear h2 hk2 hk3 e1 tk ti th tm
    go_enter Tryz.func285, Tryz.ntmps285
    go_wp2_with fail
    refine tc.mono ?_
    rintro e w1 ⟨rfl, hb⟩
    have Hs1 := hide (h.below hb)
    have Hb := hide hb
    clear tc h hb
    go_wp2_with fail
    refine (name_any (unhide Hs1)).mono ?_
    rintro e w3 ⟨rfl, hs3, hg3⟩
    rw [unhide ep] at hs3 ⊢
    have Hs3 := hide hs3
    have Hg3 := hide (gb_trans (gb_below _ (unhide Hb)) hg3)
    clear hs3 hg3
    go_wp2_with fail
    go_ret
    exact ⟨_, rfl, ⟨one_iface _ _, fun _ => ⟨1, .inr (.inl ⟨rfl, rfl⟩)⟩⟩, unhide Hs3, unhide Hg3⟩

end Go.Proofs.YtgahgkddaljmkaaGreatDoor

namespace Go.Proofs.YtgahgkddaljmkaaGreatDoor
open Go.RowKit
attribute [local go_sem] fld_tok0 fld_tok1 fld_tok2

theorem begins_bad {st : Th.St} (h : Th.begins st = true) : st.bad = none := by
  obtain ⟨rest, bad⟩ := st
  cases bad with
  | some p => simp [Th.begins, Th.St.kind, Th.St.is] at h
  | none => rfl

theorem rep_call {S : Nat → Prop} {w : World} {n m : Nat} {v1 v2 : Value} {e1 e2 : Th.Ex} (h1 : Rep S w n v1 e1) (h2 : Rep S w m v2 e2) : Rep S w (n + m + 1) (.iface 163 (.agg #[v1, v2])) (Th.mkCall e1 e2) :=
  .inr (.inr (.inr (.inr (.inl ⟨rfl, v1, v2, e1, e2, rfl, rfl, h1.le (by omega), h2.le (by omega)⟩))))
theorem rep_op {S : Nat → Prop} {w : World} {n m : Nat} {v1 v2 : Value} {e1 e2 : Th.Ex} (t : Th.Tok) (h1 : Rep S w n v1 e1) (h2 : Rep S w m v2 e2) : Rep S w (n + m + 1) (.iface 166 (.agg #[.string ⟨t.s.toArray⟩, v1, v2])) (Th.mkOp t e1 e2) :=
  .inr (.inr (.inr (.inr (.inr (.inl ⟨rfl, v1, v2, e1, e2, rfl, rfl, h1.le (by omega), h2.le (by omega)⟩)))))

set_option maxRecDepth 100000 in
set_option maxHeartbeats 4000000 in
theorem call_ok {ex : Th.Rd} (hx : ExOK ex) {w : World} {r tb : Nat} {T : List Th.Tok} {st : Th.St} {q : Th.Ex × Th.St} {k : Nat} (hq : Th.pcall ex k st = some q) (h : RS w r tb T st) :
    Calls Tryz.prog 281 #[.pointer (some ⟨r, 0, none⟩)] w fun en w' => Reads w r tb T q.1 q.2 en w' := by
  have hrl := h.lt
  have htl := h.tlt
  unfold Th.pcall at hq
  simp only [Option.bind_eq_some_iff] at hq
  obtain ⟨q1, hq1, hq2⟩ := hq
  have HQ := hide hq2
  clear hq2
  go_enter Tryz.func281, Tryz.ntmps281
  go_wp2_with fail
  refine (atom_ok hx hq1 h).mono ?_
  rintro en w1 ⟨v, rfl, hgot, hs1, hg1⟩
  have Hgot := hide hgot
  have Hs1 := hide hs1
  have Hg1 := hide hg1
  have hc := hgot.one.cells
  clear hgot hs1 hg1 h hq1
  go_wp2_with fail
  go_loopg [3] k (fun g v wr => ∃ e1 s1, Got (Since w) wr v e1 s1 ∧ RS wr r tb T s1 ∧ w.grownBy wr (some r) ∧ Th.pcalls ex g e1 s1 = some q)
  case atStart => exact ⟨q1.1, q1.2, unhide Hgot, unhide Hs1, unhide Hg1, unhide HQ⟩
  case round =>
    obtain ⟨e1, s1, hgot, hs, hg, hp⟩ := hrel
    have hc3 := hgot.one.cells
    have Hgt := hide hgot
    have Hs := hide hs
    have Hg := hide hg
    clear hgot hg hc
    cases gk with
    | zero => simp [Th.pcalls] at hp
    | succ g =>
      rw [Th.pcalls] at hp
      cases hb : Th.begins s1
      · rw [hb] at hp
        simp only [Bool.false_eq_true, if_false, Option.some.injEq] at hp
        subst hp
        have Hb := hide hb
        clear hb
        go_wp2_with fail
        refine (atomFollows_any hs).mono ?_
        rintro e w2 ⟨rfl, hb2⟩
        rw [unhide Hb]
        have Hb2 := hide hb2
        clear hs hb2
        go_wp2_with fail
        go_ret
        exact ⟨u3, rfl, (unhide Hgt).gb (gb_below none (unhide Hb2)) (by simp), (unhide Hs).below (unhide Hb2), gb_trans (unhide Hg) (gb_below _ (unhide Hb2))⟩
      · rw [hb] at hp
        simp only [if_true, Option.bind_eq_some_iff] at hp
        obtain ⟨q2, hq2, hp2⟩ := hp
        have Hp2 := hide hp2
        have Hq2 := hide hq2
        have Hb := hide hb
        clear hb hp2 hq2
        go_wp2_with fail
        refine (atomFollows_any hs).mono ?_
        rintro e w2 ⟨rfl, hb2⟩
        rw [unhide Hb]
        have hs2 := hs.below hb2
        have Hb2 := hide hb2
        clear hs hb2
        go_wp2_with fail
        refine (atom_ok hx (unhide Hq2) hs2).mono ?_
        rintro en w3 ⟨v2, rfl, hgot2, hs3, hg3⟩
        have ho2 := hgot2.one
        have ho3 := (unhide Hgt).one
        have Hgot2 := hide hgot2
        have Hs3 := hide hs3
        have Hg3 := hide hg3
        clear hs2 hgot2 hs3 hg3 hc3
        rcases ho3.shape with rfl | ⟨t3, x3, rfl⟩ <;> rcases ho2.shape with rfl | ⟨t2, x2, rfl⟩
        all_goals
          clear ho2 ho3
          go_wp2_with fail
          go_roundg g
          case measure => omega
          case rel =>
            have hz := (gb_trans (unhide Hg) (gb_below (some r) (unhide Hb2))).size
            refine ⟨Th.mkCall e1 q2.1, q2.2, ⟨one_iface _ _, fun hbad => ?_⟩, unhide Hs3, gb_trans (gb_trans (unhide Hg) (gb_below _ (unhide Hb2))) (unhide Hg3), unhide Hp2⟩
            obtain ⟨n1, hn1⟩ := (((unhide Hgt).gb (gb_below none (unhide Hb2)) (by simp)).gb (unhide Hg3) (since_r hrl)).rep (begins_bad (unhide Hb))
            obtain ⟨n2, hn2⟩ := ((unhide Hgot2).mono (S' := Since w) (fun k _ hk => Nat.le_trans hz hk)).rep hbad
            exact ⟨_, rep_call hn1 hn2⟩

/-- What a method without arguments does, read as a part of the grammar. -/
def SubOK (f : Nat) (sub : Th.St → Option (Th.Ex × Th.St)) : Prop := ∀ (st : Th.St) (q : Th.Ex × Th.St) (w : World) (r tb : Nat) (T : List Th.Tok), sub st = some q → RS w r tb T st →
  Calls Tryz.prog f #[.pointer (some ⟨r, 0, none⟩)] w fun en w' => Reads w r tb T q.1 q.2 en w'

set_option maxRecDepth 100000 in
set_option maxHeartbeats 4000000 in
theorem operation_call {sub : Th.St → Option (Th.Ex × Th.St)} (hx : SubOK 281 sub) {w : World} {r tb : Nat} {T : List Th.Tok} {st : Th.St} {q : Th.Ex × Th.St} {v : Value} {e : Th.Ex} {B : Nat → Prop}
    (hB : ¬ B r) (hne : st.hd.s ≠ []) (hi : st.bad = none) (hv : Got B w v e st) (hq : sub st.adv = some q) (h : RS w r tb T st) :
    Calls Tryz.prog 253 #[.pointer (some ⟨r, 0, none⟩), v, .func (.func 281) #[.pointer (some ⟨r, 0, none⟩)] #[]] w fun en w' => ∃ v2, en = .returned v2 ∧ Got (fun b => B b ∨ Since w b) w' v2 (Th.mkOp st.hd e q.1) q.2 ∧ RS w' r tb T q.2 ∧ w.grownBy w' (some r) := by
  have hrl := h.lt
  obtain ⟨t, tk, ti, th, tm, tc⟩ := tokenS h
  have hth := th hi
  rw [hth] at hne ⊢
  have Hw : Hid (Th.want t.s st = st.adv) := hide (by rw [Th.want, ti t.s hne]; simp)
  have Hne := hide hne
  have HH := hide h
  have HV := hide hv
  have HQ := hide hq
  have Hi := hide hi
  have HB := hide hB
  have ho1 := hv.one
  clear tk ti th tm hth hne hv hq hi hB
  rcases ho1.shape with rfl | ⟨t1, x1, rfl⟩
  all_goals
    clear ho1
    go_enter Tryz.func253, Tryz.ntmps253
    go_wp2_with fail
    refine tc.mono ?_
    rintro en w1 ⟨rfl, hb⟩
    have hs1 := h.below hb
    have Hb := hide hb
    clear tc hb
    go_wp2_with fail
    refine (expect_any hs1 ⟨t.s.toArray⟩ (by simpa using unhide Hne)).mono ?_
    rintro en w2 ⟨rfl, hs2, hg2⟩
    rw [show Th.want (ByteArray.mk t.s.toArray).data.toList st = st.adv from unhide Hw] at hs2
    have Hs2 := hide hs2
    have Hg2 := hide (gb_trans (gb_below _ (unhide Hb)) hg2)
    clear hs1 hs2 hg2 h
    go_wp2_with fail
    refine (hx _ _ _ _ _ _ (unhide HQ) (unhide Hs2)).mono ?_
    rintro en w3 ⟨v2, rfl, hgot2, hs3, hg3⟩
    have Hgot2 := hide hgot2
    have Hs3 := hide hs3
    have Hg3 := hide (gb_trans (unhide Hg2) hg3)
    have ho2 := hgot2.one
    clear hgot2 hs3 hg3
    rcases ho2.shape with rfl | ⟨t2, x2, rfl⟩
    all_goals
      clear ho2
      go_wp2_with fail
      go_ret
      refine ⟨_, rfl, ⟨one_iface _ _, fun hbad => ?_⟩, unhide Hs3, unhide Hg3⟩
      obtain ⟨n1, hn1⟩ := ((unhide HV).gb (unhide Hg3) (fun k hk => by cases hk; exact unhide HB)).rep (unhide Hi)
      obtain ⟨n2, hn2⟩ := (unhide Hgot2).rep hbad
      exact ⟨_, rep_op t (hn1.mono (fun k _ hk => .inl hk)) (hn2.mono (fun k _ hk => .inr (Nat.le_trans (unhide Hg2).size hk)))⟩
set_option maxRecDepth 100000 in
set_option maxHeartbeats 4000000 in
theorem operation_product {sub : Th.St → Option (Th.Ex × Th.St)} (hx : SubOK 273 sub) {w : World} {r tb : Nat} {T : List Th.Tok} {st : Th.St} {q : Th.Ex × Th.St} {v : Value} {e : Th.Ex} {B : Nat → Prop}
    (hB : ¬ B r) (hne : st.hd.s ≠ []) (hi : st.bad = none) (hv : Got B w v e st) (hq : sub st.adv = some q) (h : RS w r tb T st) :
    Calls Tryz.prog 253 #[.pointer (some ⟨r, 0, none⟩), v, .func (.func 273) #[.pointer (some ⟨r, 0, none⟩)] #[]] w fun en w' => ∃ v2, en = .returned v2 ∧ Got (fun b => B b ∨ Since w b) w' v2 (Th.mkOp st.hd e q.1) q.2 ∧ RS w' r tb T q.2 ∧ w.grownBy w' (some r) := by
  have hrl := h.lt
  obtain ⟨t, tk, ti, th, tm, tc⟩ := tokenS h
  have hth := th hi
  rw [hth] at hne ⊢
  have Hw : Hid (Th.want t.s st = st.adv) := hide (by rw [Th.want, ti t.s hne]; simp)
  have Hne := hide hne
  have HH := hide h
  have HV := hide hv
  have HQ := hide hq
  have Hi := hide hi
  have HB := hide hB
  have ho1 := hv.one
  clear tk ti th tm hth hne hv hq hi hB
  rcases ho1.shape with rfl | ⟨t1, x1, rfl⟩
  all_goals
    clear ho1
    go_enter Tryz.func253, Tryz.ntmps253
    go_wp2_with fail
    refine tc.mono ?_
    rintro en w1 ⟨rfl, hb⟩
    have hs1 := h.below hb
    have Hb := hide hb
    clear tc hb
    go_wp2_with fail
    refine (expect_any hs1 ⟨t.s.toArray⟩ (by simpa using unhide Hne)).mono ?_
    rintro en w2 ⟨rfl, hs2, hg2⟩
    rw [show Th.want (ByteArray.mk t.s.toArray).data.toList st = st.adv from unhide Hw] at hs2
    have Hs2 := hide hs2
    have Hg2 := hide (gb_trans (gb_below _ (unhide Hb)) hg2)
    clear hs1 hs2 hg2 h
    go_wp2_with fail
    refine (hx _ _ _ _ _ _ (unhide HQ) (unhide Hs2)).mono ?_
    rintro en w3 ⟨v2, rfl, hgot2, hs3, hg3⟩
    have Hgot2 := hide hgot2
    have Hs3 := hide hs3
    have Hg3 := hide (gb_trans (unhide Hg2) hg3)
    have ho2 := hgot2.one
    clear hgot2 hs3 hg3
    rcases ho2.shape with rfl | ⟨t2, x2, rfl⟩
    all_goals
      clear ho2
      go_wp2_with fail
      go_ret
      refine ⟨_, rfl, ⟨one_iface _ _, fun hbad => ?_⟩, unhide Hs3, unhide Hg3⟩
      obtain ⟨n1, hn1⟩ := ((unhide HV).gb (unhide Hg3) (fun k hk => by cases hk; exact unhide HB)).rep (unhide Hi)
      obtain ⟨n2, hn2⟩ := (unhide Hgot2).rep hbad
      exact ⟨_, rep_op t (hn1.mono (fun k _ hk => .inl hk)) (hn2.mono (fun k _ hk => .inr (Nat.le_trans (unhide Hg2).size hk)))⟩
set_option maxRecDepth 100000 in
set_option maxHeartbeats 4000000 in
theorem operation_sum {sub : Th.St → Option (Th.Ex × Th.St)} (hx : SubOK 252 sub) {w : World} {r tb : Nat} {T : List Th.Tok} {st : Th.St} {q : Th.Ex × Th.St} {v : Value} {e : Th.Ex} {B : Nat → Prop}
    (hB : ¬ B r) (hne : st.hd.s ≠ []) (hi : st.bad = none) (hv : Got B w v e st) (hq : sub st.adv = some q) (h : RS w r tb T st) :
    Calls Tryz.prog 253 #[.pointer (some ⟨r, 0, none⟩), v, .func (.func 252) #[.pointer (some ⟨r, 0, none⟩)] #[]] w fun en w' => ∃ v2, en = .returned v2 ∧ Got (fun b => B b ∨ Since w b) w' v2 (Th.mkOp st.hd e q.1) q.2 ∧ RS w' r tb T q.2 ∧ w.grownBy w' (some r) := by
  have hrl := h.lt
  obtain ⟨t, tk, ti, th, tm, tc⟩ := tokenS h
  have hth := th hi
  rw [hth] at hne ⊢
  have Hw : Hid (Th.want t.s st = st.adv) := hide (by rw [Th.want, ti t.s hne]; simp)
  have Hne := hide hne
  have HH := hide h
  have HV := hide hv
  have HQ := hide hq
  have Hi := hide hi
  have HB := hide hB
  have ho1 := hv.one
  clear tk ti th tm hth hne hv hq hi hB
  rcases ho1.shape with rfl | ⟨t1, x1, rfl⟩
  all_goals
    clear ho1
    go_enter Tryz.func253, Tryz.ntmps253
    go_wp2_with fail
    refine tc.mono ?_
    rintro en w1 ⟨rfl, hb⟩
    have hs1 := h.below hb
    have Hb := hide hb
    clear tc hb
    go_wp2_with fail
    refine (expect_any hs1 ⟨t.s.toArray⟩ (by simpa using unhide Hne)).mono ?_
    rintro en w2 ⟨rfl, hs2, hg2⟩
    rw [show Th.want (ByteArray.mk t.s.toArray).data.toList st = st.adv from unhide Hw] at hs2
    have Hs2 := hide hs2
    have Hg2 := hide (gb_trans (gb_below _ (unhide Hb)) hg2)
    clear hs1 hs2 hg2 h
    go_wp2_with fail
    refine (hx _ _ _ _ _ _ (unhide HQ) (unhide Hs2)).mono ?_
    rintro en w3 ⟨v2, rfl, hgot2, hs3, hg3⟩
    have Hgot2 := hide hgot2
    have Hs3 := hide hs3
    have Hg3 := hide (gb_trans (unhide Hg2) hg3)
    have ho2 := hgot2.one
    clear hgot2 hs3 hg3
    rcases ho2.shape with rfl | ⟨t2, x2, rfl⟩
    all_goals
      clear ho2
      go_wp2_with fail
      go_ret
      refine ⟨_, rfl, ⟨one_iface _ _, fun hbad => ?_⟩, unhide Hs3, unhide Hg3⟩
      obtain ⟨n1, hn1⟩ := ((unhide HV).gb (unhide Hg3) (fun k hk => by cases hk; exact unhide HB)).rep (unhide Hi)
      obtain ⟨n2, hn2⟩ := (unhide Hgot2).rep hbad
      exact ⟨_, rep_op t (hn1.mono (fun k _ hk => .inl hk)) (hn2.mono (fun k _ hk => .inr (Nat.le_trans (unhide Hg2).size hk)))⟩

end Go.Proofs.YtgahgkddaljmkaaGreatDoor

namespace Go.Proofs.YtgahgkddaljmkaaGreatDoor
open Go.RowKit

theorem is_hd {st : Th.St} {x : List UInt8} (h : st.is x = true) : st.hd.s = x := by
  simp [Th.St.is] at h
  exact h.2

set_option maxRecDepth 100000 in
set_option maxHeartbeats 4000000 in
theorem product_ok {sub : Th.St → Option (Th.Ex × Th.St)} (hx : SubOK 281 sub) (k : Nat) : SubOK 273 (fun st => (sub st).bind fun r => Th.pops sub [42] [47] k r.1 r.2) := by
  intro st q w r tb T hq h
  have hrl := h.lt
  have htl := h.tlt
  simp only [Option.bind_eq_some_iff] at hq
  obtain ⟨q1, hq1, hq2⟩ := hq
  have HQ := hide hq2
  clear hq2
  go_enter Tryz.func273, Tryz.ntmps273
  go_wp2_with fail
  refine (hx _ _ _ _ _ _ hq1 h).mono ?_
  rintro en w1 ⟨v, rfl, hgot, hs1, hg1⟩
  have Hgot := hide hgot
  have Hs1 := hide hs1
  have Hg1 := hide hg1
  have hc := hgot.one.cells
  clear hgot hs1 hg1 h hq1
  go_wp2_with fail
  go_loopg [3] k (fun g v wr => ∃ e1 s1, Got (Since w) wr v e1 s1 ∧ RS wr r tb T s1 ∧ w.grownBy wr (some r) ∧ Th.pops sub [42] [47] g e1 s1 = some q)
  case atStart => exact ⟨q1.1, q1.2, unhide Hgot, unhide Hs1, unhide Hg1, unhide HQ⟩
  case round =>
    obtain ⟨e1, s1, hgot, hs, hg, hp⟩ := hrel
    have Hgt := hide hgot
    have Hs := hide hs
    have Hg := hide hg
    have hz := hg.size
    clear hgot hg hc
    cases gk with
    | zero => simp [Th.pops] at hp
    | succ g =>
      rw [Th.pops] at hp
      cases ha : s1.is [42]
      · have Ha := hide ha
        cases hb : s1.is [47]
        · rw [ha, hb] at hp
          simp only [Bool.or_false, Bool.false_eq_true, if_false, Option.some.injEq] at hp
          subst hp
          have Hb := hide hb
          have hc3 := (unhide Hgt).one.cells
          clear ha hb
          go_wp2_with fail
          refine (is_any hs ⟨#[42]⟩ (by simp)).mono ?_
          rintro en w2 ⟨rfl, hb2⟩
          rw [show s1.is (ByteArray.mk #[42]).data.toList = false from unhide Ha]
          have hs2 := hs.below hb2
          have Hb2 := hide hb2
          clear hs hb2
          go_wp2_with fail
          refine (is_any hs2 ⟨#[47]⟩ (by simp)).mono ?_
          rintro en w3 ⟨rfl, hb3⟩
          rw [show s1.is (ByteArray.mk #[47]).data.toList = false from unhide Hb]
          have Hb3 := hide ((unhide Hb2).trans (hb3.mono (unhide Hb2).size))
          clear hs2 hb3
          go_wp2_with fail
          go_ret
          exact ⟨u3, rfl, (unhide Hgt).gb (gb_below none (unhide Hb3)) (by simp), (unhide Hs).below (unhide Hb3), gb_trans (unhide Hg) (gb_below _ (unhide Hb3))⟩
        · rw [ha, hb] at hp
          simp only [Bool.or_true, if_true, Option.bind_eq_some_iff] at hp
          obtain ⟨q2, hq2, hp2⟩ := hp
          have Hp2 := hide hp2
          have Hq2 := hide hq2
          have Hb := hide hb
          clear ha hb hp2 hq2
          go_wp2_with fail
          refine (is_any hs ⟨#[42]⟩ (by simp)).mono ?_
          rintro en w2 ⟨rfl, hb2⟩
          rw [show s1.is (ByteArray.mk #[42]).data.toList = false from unhide Ha]
          have hs2 := hs.below hb2
          have Hb2 := hide hb2
          clear hs hb2
          go_wp2_with fail
          refine (is_any hs2 ⟨#[47]⟩ (by simp)).mono ?_
          rintro en w3 ⟨rfl, hb3⟩
          rw [show s1.is (ByteArray.mk #[47]).data.toList = true from unhide Hb]
          have Hb3 := hide ((unhide Hb2).trans (hb3.mono (unhide Hb2).size))
          clear hs2 hb3
          go_wp2_with fail
          refine (operation_call hx (B := Since w) (fun hr => by simp only [Since] at hr; omega) (by rw [is_hd (unhide Hb)]; simp) (is_bad (unhide Hb)) ((unhide Hgt).gb (gb_below none (unhide Hb3)) (by simp)) (unhide Hq2) ((unhide Hs).below (unhide Hb3))).mono ?_
          rintro en w4 ⟨v4, rfl, hgot4, hs4, hg4⟩
          have Hgot4 := hide hgot4
          have Hs4 := hide hs4
          have Hg4 := hide hg4
          have hc4 := hgot4.one.cells
          clear hgot4 hs4 hg4
          go_wp2_with fail
          go_roundg g
          case measure => omega
          case rel =>
            refine ⟨_, q2.2, (unhide Hgot4).mono (fun b _ hb => ?_), unhide Hs4, gb_trans (gb_trans (unhide Hg) (gb_below _ (unhide Hb3))) (unhide Hg4), unhide Hp2⟩
            rcases hb with hb | hb
            · exact hb
            · have := (unhide Hb3).size
              simp only [Since] at hb ⊢
              omega
      · have Ha := hide ha
        rw [ha] at hp
        simp only [Bool.true_or, if_true, Option.bind_eq_some_iff] at hp
        obtain ⟨q2, hq2, hp2⟩ := hp
        have Hp2 := hide hp2
        have Hq2 := hide hq2
        clear ha hp2 hq2
        go_wp2_with fail
        refine (is_any hs ⟨#[42]⟩ (by simp)).mono ?_
        rintro en w2 ⟨rfl, hb3⟩
        rw [show s1.is (ByteArray.mk #[42]).data.toList = true from unhide Ha]
        have Hb3 := hide hb3
        clear hs hb3
        go_wp2_with fail
        refine (operation_call hx (B := Since w) (fun hr => by simp only [Since] at hr; omega) (by rw [is_hd (unhide Ha)]; simp) (is_bad (unhide Ha)) ((unhide Hgt).gb (gb_below none (unhide Hb3)) (by simp)) (unhide Hq2) ((unhide Hs).below (unhide Hb3))).mono ?_
        rintro en w4 ⟨v4, rfl, hgot4, hs4, hg4⟩
        have Hgot4 := hide hgot4
        have Hs4 := hide hs4
        have Hg4 := hide hg4
        have hc4 := hgot4.one.cells
        clear hgot4 hs4 hg4
        go_wp2_with fail
        go_roundg g
        case measure => omega
        case rel =>
          refine ⟨_, q2.2, (unhide Hgot4).mono (fun b _ hb => ?_), unhide Hs4, gb_trans (gb_trans (unhide Hg) (gb_below _ (unhide Hb3))) (unhide Hg4), unhide Hp2⟩
          rcases hb with hb | hb
          · exact hb
          · have := (unhide Hb3).size
            simp only [Since] at hb ⊢
            omega
set_option maxRecDepth 100000 in
set_option maxHeartbeats 4000000 in
theorem sum_ok {sub : Th.St → Option (Th.Ex × Th.St)} (hx : SubOK 273 sub) (k : Nat) : SubOK 252 (fun st => (sub st).bind fun r => Th.pops sub [43] [45] k r.1 r.2) := by
  intro st q w r tb T hq h
  have hrl := h.lt
  have htl := h.tlt
  simp only [Option.bind_eq_some_iff] at hq
  obtain ⟨q1, hq1, hq2⟩ := hq
  have HQ := hide hq2
  clear hq2
  go_enter Tryz.func252, Tryz.ntmps252
  go_wp2_with fail
  refine (hx _ _ _ _ _ _ hq1 h).mono ?_
  rintro en w1 ⟨v, rfl, hgot, hs1, hg1⟩
  have Hgot := hide hgot
  have Hs1 := hide hs1
  have Hg1 := hide hg1
  have hc := hgot.one.cells
  clear hgot hs1 hg1 h hq1
  go_wp2_with fail
  go_loopg [3] k (fun g v wr => ∃ e1 s1, Got (Since w) wr v e1 s1 ∧ RS wr r tb T s1 ∧ w.grownBy wr (some r) ∧ Th.pops sub [43] [45] g e1 s1 = some q)
  case atStart => exact ⟨q1.1, q1.2, unhide Hgot, unhide Hs1, unhide Hg1, unhide HQ⟩
  case round =>
    obtain ⟨e1, s1, hgot, hs, hg, hp⟩ := hrel
    have Hgt := hide hgot
    have Hs := hide hs
    have Hg := hide hg
    have hz := hg.size
    clear hgot hg hc
    cases gk with
    | zero => simp [Th.pops] at hp
    | succ g =>
      rw [Th.pops] at hp
      cases ha : s1.is [43]
      · have Ha := hide ha
        cases hb : s1.is [45]
        · rw [ha, hb] at hp
          simp only [Bool.or_false, Bool.false_eq_true, if_false, Option.some.injEq] at hp
          subst hp
          have Hb := hide hb
          have hc3 := (unhide Hgt).one.cells
          clear ha hb
          go_wp2_with fail
          refine (is_any hs ⟨#[43]⟩ (by simp)).mono ?_
          rintro en w2 ⟨rfl, hb2⟩
          rw [show s1.is (ByteArray.mk #[43]).data.toList = false from unhide Ha]
          have hs2 := hs.below hb2
          have Hb2 := hide hb2
          clear hs hb2
          go_wp2_with fail
          refine (is_any hs2 ⟨#[45]⟩ (by simp)).mono ?_
          rintro en w3 ⟨rfl, hb3⟩
          rw [show s1.is (ByteArray.mk #[45]).data.toList = false from unhide Hb]
          have Hb3 := hide ((unhide Hb2).trans (hb3.mono (unhide Hb2).size))
          clear hs2 hb3
          go_wp2_with fail
          go_ret
          exact ⟨u3, rfl, (unhide Hgt).gb (gb_below none (unhide Hb3)) (by simp), (unhide Hs).below (unhide Hb3), gb_trans (unhide Hg) (gb_below _ (unhide Hb3))⟩
        · rw [ha, hb] at hp
          simp only [Bool.or_true, if_true, Option.bind_eq_some_iff] at hp
          obtain ⟨q2, hq2, hp2⟩ := hp
          have Hp2 := hide hp2
          have Hq2 := hide hq2
          have Hb := hide hb
          clear ha hb hp2 hq2
          go_wp2_with fail
          refine (is_any hs ⟨#[43]⟩ (by simp)).mono ?_
          rintro en w2 ⟨rfl, hb2⟩
          rw [show s1.is (ByteArray.mk #[43]).data.toList = false from unhide Ha]
          have hs2 := hs.below hb2
          have Hb2 := hide hb2
          clear hs hb2
          go_wp2_with fail
          refine (is_any hs2 ⟨#[45]⟩ (by simp)).mono ?_
          rintro en w3 ⟨rfl, hb3⟩
          rw [show s1.is (ByteArray.mk #[45]).data.toList = true from unhide Hb]
          have Hb3 := hide ((unhide Hb2).trans (hb3.mono (unhide Hb2).size))
          clear hs2 hb3
          go_wp2_with fail
          refine (operation_product hx (B := Since w) (fun hr => by simp only [Since] at hr; omega) (by rw [is_hd (unhide Hb)]; simp) (is_bad (unhide Hb)) ((unhide Hgt).gb (gb_below none (unhide Hb3)) (by simp)) (unhide Hq2) ((unhide Hs).below (unhide Hb3))).mono ?_
          rintro en w4 ⟨v4, rfl, hgot4, hs4, hg4⟩
          have Hgot4 := hide hgot4
          have Hs4 := hide hs4
          have Hg4 := hide hg4
          have hc4 := hgot4.one.cells
          clear hgot4 hs4 hg4
          go_wp2_with fail
          go_roundg g
          case measure => omega
          case rel =>
            refine ⟨_, q2.2, (unhide Hgot4).mono (fun b _ hb => ?_), unhide Hs4, gb_trans (gb_trans (unhide Hg) (gb_below _ (unhide Hb3))) (unhide Hg4), unhide Hp2⟩
            rcases hb with hb | hb
            · exact hb
            · have := (unhide Hb3).size
              simp only [Since] at hb ⊢
              omega
      · have Ha := hide ha
        rw [ha] at hp
        simp only [Bool.true_or, if_true, Option.bind_eq_some_iff] at hp
        obtain ⟨q2, hq2, hp2⟩ := hp
        have Hp2 := hide hp2
        have Hq2 := hide hq2
        clear ha hp2 hq2
        go_wp2_with fail
        refine (is_any hs ⟨#[43]⟩ (by simp)).mono ?_
        rintro en w2 ⟨rfl, hb3⟩
        rw [show s1.is (ByteArray.mk #[43]).data.toList = true from unhide Ha]
        have Hb3 := hide hb3
        clear hs hb3
        go_wp2_with fail
        refine (operation_product hx (B := Since w) (fun hr => by simp only [Since] at hr; omega) (by rw [is_hd (unhide Ha)]; simp) (is_bad (unhide Ha)) ((unhide Hgt).gb (gb_below none (unhide Hb3)) (by simp)) (unhide Hq2) ((unhide Hs).below (unhide Hb3))).mono ?_
        rintro en w4 ⟨v4, rfl, hgot4, hs4, hg4⟩
        have Hgot4 := hide hgot4
        have Hs4 := hide hs4
        have Hg4 := hide hg4
        have hc4 := hgot4.one.cells
        clear hgot4 hs4 hg4
        go_wp2_with fail
        go_roundg g
        case measure => omega
        case rel =>
          refine ⟨_, q2.2, (unhide Hgot4).mono (fun b _ hb => ?_), unhide Hs4, gb_trans (gb_trans (unhide Hg) (gb_below _ (unhide Hb3))) (unhide Hg4), unhide Hp2⟩
          rcases hb with hb | hb
          · exact hb
          · have := (unhide Hb3).size
            simp only [Since] at hb ⊢
            omega

end Go.Proofs.YtgahgkddaljmkaaGreatDoor

namespace Go.Proofs.YtgahgkddaljmkaaGreatDoor
open Go.RowKit

set_option maxRecDepth 100000 in
set_option maxHeartbeats 4000000 in
theorem test_sub {sub : Th.St → Option (Th.Ex × Th.St)} (hx : SubOK 252 sub) : SubOK 196 (fun st => (sub st).bind fun r =>
    if r.2.is [61, 61] || r.2.is [60] then (sub r.2.adv).bind fun q => some (Th.mkOp r.2.hd r.1 q.1, q.2) else some r) := by
  intro st q w r tb T hq h
  have hrl := h.lt
  have htl := h.tlt
  simp only [Option.bind_eq_some_iff] at hq
  obtain ⟨q1, hq1, hq2⟩ := hq
  have HQ := hide hq2
  clear hq2
  go_enter Tryz.func196, Tryz.ntmps196
  go_wp2_with fail
  refine (hx _ _ _ _ _ _ hq1 h).mono ?_
  rintro en w1 ⟨v, rfl, hgot, hs, hg⟩
  have Hgt := hide hgot
  have Hs := hide hs
  have Hg := hide hg
  have hc := hgot.one.cells
  have hz := hg.size
  clear hgot hg h hq1
  cases ha : q1.2.is [61, 61]
  · have Ha := hide ha
    cases hb : q1.2.is [60]
    · have hp := unhide HQ
      rw [ha, hb] at hp
      simp only [Bool.or_false, Bool.false_eq_true, if_false, Option.some.injEq] at hp
      subst hp
      have Hb := hide hb
      clear ha hb
      go_wp2_with fail
      refine (is_any hs ⟨#[61, 61]⟩ (by simp)).mono ?_
      rintro en w2 ⟨rfl, hb2⟩
      rw [show q1.2.is (ByteArray.mk #[61, 61]).data.toList = false from unhide Ha]
      have hs2 := hs.below hb2
      have Hb2 := hide hb2
      clear hs hb2
      go_wp2_with fail
      refine (is_any hs2 ⟨#[60]⟩ (by simp)).mono ?_
      rintro en w3 ⟨rfl, hb3⟩
      rw [show q1.2.is (ByteArray.mk #[60]).data.toList = false from unhide Hb]
      have Hb3 := hide ((unhide Hb2).trans (hb3.mono (unhide Hb2).size))
      clear hs2 hb3
      go_wp2_with fail
      go_ret
      exact ⟨v, rfl, (unhide Hgt).gb (gb_below none (unhide Hb3)) (by simp), (unhide Hs).below (unhide Hb3), gb_trans (unhide Hg) (gb_below _ (unhide Hb3))⟩
    · have hp := unhide HQ
      rw [ha, hb] at hp
      simp only [Bool.or_true, if_true, Option.bind_eq_some_iff, Option.some.injEq] at hp
      obtain ⟨q2, hq2, hp2⟩ := hp
      subst hp2
      have Hq2 := hide hq2
      have Hb := hide hb
      clear ha hb hq2
      go_wp2_with fail
      refine (is_any hs ⟨#[61, 61]⟩ (by simp)).mono ?_
      rintro en w2 ⟨rfl, hb2⟩
      rw [show q1.2.is (ByteArray.mk #[61, 61]).data.toList = false from unhide Ha]
      have hs2 := hs.below hb2
      have Hb2 := hide hb2
      clear hs hb2
      go_wp2_with fail
      refine (is_any hs2 ⟨#[60]⟩ (by simp)).mono ?_
      rintro en w3 ⟨rfl, hb3⟩
      rw [show q1.2.is (ByteArray.mk #[60]).data.toList = true from unhide Hb]
      have Hb3 := hide ((unhide Hb2).trans (hb3.mono (unhide Hb2).size))
      clear hs2 hb3
      go_wp2_with fail
      refine (operation_sum hx (B := Since w) (fun hr => by simp only [Since] at hr; omega) (by rw [is_hd (unhide Hb)]; simp) (is_bad (unhide Hb)) ((unhide Hgt).gb (gb_below none (unhide Hb3)) (by simp)) (unhide Hq2) ((unhide Hs).below (unhide Hb3))).mono ?_
      rintro en w4 ⟨v4, rfl, hgot4, hs4, hg4⟩
      have Hgot4 := hide hgot4
      have Hs4 := hide hs4
      have Hg4 := hide hg4
      have hc4 := hgot4.one.cells
      clear hgot4 hs4 hg4
      go_wp2_with fail
      go_ret
      refine ⟨v4, rfl, (unhide Hgot4).mono (fun b _ hb => ?_), unhide Hs4, gb_trans (gb_trans (unhide Hg) (gb_below _ (unhide Hb3))) (unhide Hg4)⟩
      rcases hb with hb | hb
      · exact hb
      · have := (unhide Hb3).size
        simp only [Since] at hb ⊢
        omega
  · have Ha := hide ha
    have hp := unhide HQ
    rw [ha] at hp
    simp only [Bool.true_or, if_true, Option.bind_eq_some_iff, Option.some.injEq] at hp
    obtain ⟨q2, hq2, hp2⟩ := hp
    subst hp2
    have Hq2 := hide hq2
    clear ha hq2
    go_wp2_with fail
    refine (is_any hs ⟨#[61, 61]⟩ (by simp)).mono ?_
    rintro en w2 ⟨rfl, hb3⟩
    rw [show q1.2.is (ByteArray.mk #[61, 61]).data.toList = true from unhide Ha]
    have Hb3 := hide hb3
    clear hs hb3
    go_wp2_with fail
    refine (operation_sum hx (B := Since w) (fun hr => by simp only [Since] at hr; omega) (by rw [is_hd (unhide Ha)]; simp) (is_bad (unhide Ha)) ((unhide Hgt).gb (gb_below none (unhide Hb3)) (by simp)) (unhide Hq2) ((unhide Hs).below (unhide Hb3))).mono ?_
    rintro en w4 ⟨v4, rfl, hgot4, hs4, hg4⟩
    have Hgot4 := hide hgot4
    have Hs4 := hide hs4
    have Hg4 := hide hg4
    have hc4 := hgot4.one.cells
    clear hgot4 hs4 hg4
    go_wp2_with fail
    go_ret
    refine ⟨v4, rfl, (unhide Hgot4).mono (fun b _ hb => ?_), unhide Hs4, gb_trans (gb_trans (unhide Hg) (gb_below _ (unhide Hb3))) (unhide Hg4)⟩
    rcases hb with hb | hb
    · exact hb
    · have := (unhide Hb3).size
      simp only [Since] at hb ⊢
      omega

/-- Tests, as the grammar has them. -/
theorem test_ok {ex : Th.Rd} (hx : ExOK ex) (k : Nat) : SubOK 196 (Th.ptest ex k) :=
  test_sub (sum_ok (product_ok (sub := Th.pcall ex k) (fun _ _ _ _ _ _ hq h => call_ok hx hq h) k) k)

end Go.Proofs.YtgahgkddaljmkaaGreatDoor

namespace Go.Proofs.YtgahgkddaljmkaaGreatDoor
open Go.RowKit

/-- A struct's cells, written anew. -/
theorem Blk.eq {w : World} {b : Nat} {vs vs' : List Value} {t : TypeId} (h : Blk w b vs t) (e : vs = vs') : Blk w b vs' t := e ▸ h

set_option maxRecDepth 100000 in
set_option maxHeartbeats 4000000 in
theorem bind_ok {ex : Th.Rd} (hx : ExOK ex) {w : World} {r tb : Nat} {T : List Th.Tok} {st : Th.St} {q : Th.Ex × Th.St} (hq : ex true (Th.want [61] (Th.pname st).2) = some q) (h : RS w r tb T st) :
    Calls Tryz.prog 249 #[.pointer (some ⟨r, 0, none⟩)] w fun en w' =>
      ∃ v, en = .returned (.agg #[.string ⟨(Th.pname st).1.s.toArray⟩, .int .i64 (Th.pname st).1.at_, v]) ∧ Got (Since w) w' v q.1 q.2 ∧ RS w' r tb T q.2 ∧ w.grownBy w' (some r) := by
  have hrl := h.lt
  have htl := h.tlt
  have HQ := hide hq
  have h0 := h.alloc (.cells #[.string ⟨#[]⟩, .int .i64 0, .nilIface] 312)
  have BR := hide (Blk.new w [.string ⟨#[]⟩, .int .i64 0, .nilIface] 312)
  have HG0 := hide (gb_alloc w (.cells #[.string ⟨#[]⟩, .int .i64 0, .nilIface] 312) (some r))
  clear hq h
  go_enter Tryz.func249, Tryz.ntmps249
  go_wp2_with fail
  refine (name_any h0).mono ?_
  rintro e w1 ⟨rfl, hs1, hg1⟩
  obtain ⟨⟨x, s1⟩, hxs⟩ : ∃ y, Th.pname st = y := ⟨_, rfl⟩
  rw [hxs] at hs1 HQ ⊢
  have Hs1 := hide (hs1.alloc (.cells #[.string ⟨x.s.toArray⟩, .int .i64 x.at_, .nilIface] 312))
  have HG1 := hide (gb_trans (gb_trans (unhide HG0) hg1) (gb_alloc w1 (.cells #[.string ⟨x.s.toArray⟩, .int .i64 x.at_, .nilIface] 312) (some r)))
  have hz1 : w.heap.size < w1.heap.size := by have := hg1.size; simp at this; omega
  have B1 := hide (Blk.new w1 [.string ⟨x.s.toArray⟩, .int .i64 x.at_, .nilIface] 312)
  have BR1 := hide (((unhide BR).grown hg1 (by simp; omega)).alloc (.cells #[.string ⟨x.s.toArray⟩, .int .i64 x.at_, .nilIface] 312))
  have Hxs := hide hxs
  clear h0 hs1 hg1 hxs
  go_wp2_with fail
  refine (expect_any (unhide Hs1) ⟨#[61]⟩ (by simp)).mono ?_
  rintro e w2 ⟨rfl, hs2, hg2⟩
  have HG2 := hide (gb_trans (unhide HG1) hg2)
  have B2 := hide ((unhide B1).grown hg2 (by simp; omega))
  have BR2 := hide ((unhide BR1).grown hg2 (by simp; omega))
  clear hg2
  go_wp2_with fail
  refine (hx _ _ _ _ _ _ _ (unhide HQ) hs2).mono ?_
  rintro e w3 ⟨v, rfl, hgot, hs3, hg3⟩
  have B3 := (unhide B2).grown hg3 (by simp; omega)
  have BR3 := (unhide BR2).grown hg3 (by simp; omega)
  have c0 := B3.cell 0
  have c1 := B3.cell 1
  have c2 := B3.cell 2
  have f2 := B3.frozen 2
  have d0 := BR3.cell 0
  have d1 := BR3.cell 1
  have d2 := BR3.cell 2
  have g0 := BR3.frozen 0
  have g1 := BR3.frozen 1
  have g2 := BR3.frozen 2
  simp at c0 c1 c2 d0 d1 d2
  have HG3 := hide (gb_trans (unhide HG2) hg3)
  have hl1 := B3.lt
  have HB3 := hide B3
  have HBR3 := hide BR3
  have Hs3 := hide hs3
  have ho := hgot.one
  have Hgot := hide (hgot.mono (S' := fun b => Since w b ∧ b ≠ w1.heap.size ∧ b ≠ w.heap.size) (fun k _ hk => by
    have h1 := (unhide HG2).size
    have h2 := (unhide B2).lt
    simp only [Since] at hk ⊢
    omega))
  have B4 := hide (((((BR3.other ⟨w1.heap.size, 2, none⟩ v (by simp; omega)).set 0 (.string ⟨x.s.toArray⟩)).set 1 (.int .i64 x.at_)).set 2 v))
  have FIN := hide (And.intro
    (((((((unhide Hgot).gb (gb_set w3 w1.heap.size 2 v) (by simp)).gb (gb_set _ w.heap.size 0 (.string ⟨x.s.toArray⟩)) (by simp)).gb (gb_set _ w.heap.size 1 (.int .i64 x.at_)) (by simp)).gb (gb_set _ w.heap.size 2 v) (by simp))).mono (S' := Since w) (fun k _ hk => hk.1))
    (And.intro (((((unhide Hs3).set w1.heap.size 2 v (by omega) (by omega)).set w.heap.size 0 (.string ⟨x.s.toArray⟩) (by omega) (by omega)).set w.heap.size 1 (.int .i64 x.at_) (by omega) (by omega)).set w.heap.size 2 v (by omega) (by omega))
      (gb_set_new (gb_set_new (gb_set_new (gb_set_new (unhide HG3) ⟨w1.heap.size, 2, none⟩ v (Nat.le_of_lt hz1)) ⟨w.heap.size, 0, none⟩ (.string ⟨x.s.toArray⟩) (Nat.le_refl _)) ⟨w.heap.size, 1, none⟩ (.int .i64 x.at_) (Nat.le_refl _)) ⟨w.heap.size, 2, none⟩ v (Nat.le_refl _))))
  clear hs2 hg3 B3 BR3 hs3 hgot Hgot
  rcases ho.shape with rfl | ⟨t1, x1, rfl⟩
  all_goals
    clear ho
    go_wp2_with fail
    have p0 := (unhide B4).cell 0
    have p1 := (unhide B4).cell 1
    have p2 := (unhide B4).cell 2
    simp at p0 p1 p2
    refine bodyPost_ret (by simp [results, Tryz.results249, go_sem, p0, p1, p2]; rfl) rfl ⟨_, by rw [unhide Hxs], unhide FIN⟩

end Go.Proofs.YtgahgkddaljmkaaGreatDoor
