/- The document's reader: a function without a name. The document's reader: an expression that is a test, a case or a let. The document's reader: an expression that is a let. -/
import Derived.Test.YtgahgkddaljmkaaGreatDoorB7
namespace Go.Proofs.YtgahgkddaljmkaaGreatDoor
open Go.RowKit
attribute [local go_sem ↓] Go.wp_at_zero Go.wp_at_succ

theorem dnsCells_len (l : List Th.Tok) : (dnsCells l).length = l.length * 4 := by
  induction l with
  | nil => rfl
  | cons t l ih =>
    rw [show dnsCells (t :: l) = dnCells t ++ dnsCells l from rfl, List.length_append, ih]
    simp only [dnCells, List.length_cons, List.length_nil]
    omega
theorem dnames_one (l : List Th.Tok) : ∀ u ∈ dnsCells l, u.oneCell' = true := by
  intro u hu
  simp only [dnsCells, List.mem_flatMap] at hu
  obtain ⟨t, _, ht⟩ := hu
  exact dname_one t u ht
theorem dnsCells_append (l k : List Th.Tok) : dnsCells (l ++ k) = dnsCells l ++ dnsCells k := by simp [dnsCells]

theorem dnames_few {w : World} {r tb : Nat} {L : List Th.DP} {st : Th.St} (h : DS w r tb L st) : (Th.pnames st).1.length ≤ 100000 := by
  have := drest_le h
  unfold Th.pnames
  split
  · exact Nat.le_trans (List.takeWhile_prefix _).length_le this
  · simp

/-- More names. -/
theorem DB.names {w0 W w3 : World} {r tb eb : Nat} {L : List Th.DP} {kk : Nat} {l k : List Th.Tok} {s1 : Th.St} {nv : Value} {g cap m : Nat} (h : DB w0 W r tb eb L kk l [] s1 nv (.slice none 0 0)) (hm : m = l.length + k.length)
    (hown : w3.ownsRow (eb + 1) 108 4 (.slice (some ⟨g, 0, none⟩) m cap) m (dnsCells l ++ dnsCells k))
    (hgrow : W.grownBy w3 nv.ownBlock) (hat : nv.ownBlock = some g ∨ g = W.heap.size) :
    DB w0 (w3.setCell ⟨eb, 8, none⟩ (.slice (some ⟨g, 0, none⟩) m cap)) r tb eb L kk (l ++ k) [] s1 (.slice (some ⟨g, 0, none⟩) m cap) (.slice none 0 0) := by
  have hlo := h.lo
  have hr := h.rlo
  have ht := h.tlo
  have heb := h.blk.lt
  have hnb : ∀ b, nv.ownBlock = some b → eb < b ∧ b < W.heap.size := fun b hb => ⟨(h.nrow.lt b hb).1, (h.nrow.lt b hb).2⟩
  have hge : eb < g := by
    rcases hat with h | h
    · exact (hnb g h).1
    · omega
  have hne : some eb ≠ nv.ownBlock := fun e => by have := (hnb eb e.symm).1; omega
  have hGA := h.gb
  refine ⟨(h.blk.grown hgrow hne).set 8 _, hlo, hr, ht, ?_, ?_, ?_, ?_, [], rfl, World.ownsRow_nil _ _ _ _, fun _ => ⟨0, fun i x p hh _ => by simp at hh⟩⟩
  · exact (h.ds.gb hgrow (fun e => by have := (hnb r e.symm).1; omega) (fun e => by have := (hnb tb e.symm).1; omega)).set eb 8 _ (by omega) (by omega)
  · refine gb_set_new ?_ _ _ hlo
    exact ⟨hgrow.os.trans hGA.os, hgrow.tape.trans hGA.tape, hgrow.output.trans hGA.output, Nat.le_trans hGA.size hgrow.size,
      fun k hk hr => (hgrow.block k (Nat.lt_of_lt_of_le hk hGA.size) (fun e => by have := (hnb k e.symm).1; omega)).trans (hGA.block k hk hr)⟩
  · rw [dnsCells_append, List.length_append, ← hm]
    exact ownsRow_setCell_below (a := ⟨eb, 8, none⟩) hown (by simp) _
  · intro b _ hp
    simp [Value.ownBlock] at hp

/-- The function, when its body is there too. -/
theorem DB.lam {w0 W : World} {r tb eb B : Nat} {L : List Th.DP} {l : List Th.Tok} {s1 : Th.St} {nv v : Value} {e : Th.Ex} (h : DB w0 W r tb eb L 4 l [] s1 nv (.slice none 0 0))
    (hgot : s1.bad = none → ∃ n, DRep (fun b => B ≤ b) W n v e) (hB : eb < B) :
    DGot (Since w0) (W.setCell ⟨eb, 6, none⟩ v) (.pointer (some ⟨eb, 0, none⟩)) (Th.mkFun l e) s1 ∧ DS (W.setCell ⟨eb, 6, none⟩ v) r tb L s1 ∧ w0.grownBy (W.setCell ⟨eb, 6, none⟩ v) (some r) := by
  have hlo := h.lo
  have hr := h.rlo
  have ht := h.tlo
  have hset := gb_set W eb 6 v
  refine ⟨⟨⟨_, rfl⟩, fun hbad => ?_⟩, h.ds.set eb 6 v (by omega) (by omega), gb_set_new h.gb _ _ hlo⟩
  obtain ⟨n2, hn2⟩ := hgot hbad
  refine ⟨n2 + 1, eb, v, .pointer none, nv, .slice none 0 0, .slice none 0 0, rfl, hlo, h.blk.set 6 v, .inr (.inl ⟨rfl, e, rfl, ?_, ?_⟩)⟩
  · have a1 := ownsRow_setCell_below (a := ⟨eb, 6, none⟩) h.nrow (by simp) v
    exact (Row.of_own a1).mono (fun k _ hk => by simp only [Since]; omega)
  · exact (hn2.gb hset (fun k hk hS => by cases hk; omega)).mono (fun k _ hS => by simp only [Since]; omega)

theorem dapp_nil (b c : Nat) (ty : TypeId) (w : World) : (Builtin.append_ #[109, 109] ty #[.slice (some ⟨b, 0, none⟩) 1 (c + 1), .slice none 0 0]).run Tryz.prog w = .ok (.slice (some ⟨b, 0, none⟩) 1 (c + 1)) w := by kernel_rfl

theorem own_single {w : World} {base : Nat} {e : TypeId} {size : Nat} {v : Value} {xs : List Value} (h : w.ownsRow base e size v 1 xs) : ∃ g c, v = .slice (some ⟨g, 0, none⟩) 1 (c + 1) := by
  rcases h.2 with ⟨_, h0⟩ | ⟨g, cap, cur, h, _, _, hc, _⟩
  · omega
  · cases cap with
    | zero => omega
    | succ c => exact ⟨g, c, h⟩

end Go.Proofs.YtgahgkddaljmkaaGreatDoor

namespace Go.Proofs.YtgahgkddaljmkaaGreatDoor
open Go.RowKit
attribute [local go_sem ↓] Go.wp_at_zero Go.wp_at_succ

set_option maxRecDepth 100000 in
set_option maxHeartbeats 8000000 in
theorem dexpr_test {sub : Th.St → Option (Th.Ex × Th.St)} (hx : DSub 228 sub) {w : World} {r tb : Nat} {L : List Th.DP} {c : Bool} {st : Th.St} {q : Th.Ex × Th.St} (h1 : st.is Th.sLet = false) (h2 : st.is Th.sCase = false) (h3 : st.is [92] = false) (hq : sub st = some q) (h : DS w r tb L st) :
    Calls Tryz.prog 171 #[.pointer (some ⟨r, 0, none⟩), .bool c] w fun en w' => DReads w r tb L q.1 q.2 en w' := by
  have H1 := hide h1
  have H2 := hide h2
  have H3 := hide h3
  have HQ := hide hq
  have HX := hide hx
  clear h1 h2 h3 hq hx
  go_enter Tryz.func171, Tryz.ntmps171
  go_wp2_with fail
  refine (dis_any h ⟨#[108, 101, 116]⟩ (by simp)).mono ?_
  rintro e w1 ⟨rfl, hb1⟩
  rw [show st.is (ByteArray.mk #[108, 101, 116]).data.toList = false from unhide H1]
  have hs1 := h.below hb1
  have HB1 := hide hb1
  clear h hb1
  go_wp2_with fail
  refine (dis_any hs1 ⟨#[99, 97, 115, 101]⟩ (by simp)).mono ?_
  rintro e w2 ⟨rfl, hb2⟩
  rw [show st.is (ByteArray.mk #[99, 97, 115, 101]).data.toList = false from unhide H2]
  have hs2 := hs1.below hb2
  have HB2 := hide ((unhide HB1).trans (hb2.mono (unhide HB1).size))
  clear hs1 hb2
  go_wp2_with fail
  refine (dis_any hs2 ⟨#[92]⟩ (by simp)).mono ?_
  rintro e w3 ⟨rfl, hb3⟩
  rw [show st.is (ByteArray.mk #[92]).data.toList = false from unhide H3]
  have hs3 := hs2.below hb3
  have HB3 := hide ((unhide HB2).trans (hb3.mono (unhide HB2).size))
  clear hs2 hb3
  go_wp2_with fail
  refine (unhide HX _ _ _ _ _ _ (unhide HQ) hs3).mono ?_
  rintro en w4 hr
  obtain ⟨v, rfl, hr2⟩ := dreads_of (gb_below (some r) (unhide HB3)) hr
  obtain ⟨a, rfl⟩ := hr2.1.one
  have HR := hide hr2
  clear hr hr2 hs3
  go_wp2_with fail
  go_ret
  exact ⟨_, rfl, unhide HR⟩

set_option maxRecDepth 100000 in
set_option maxHeartbeats 8000000 in
theorem dexpr_case {ex : Th.Rd} (hx : DExOK ex) (hk : Keeps ex) {w : World} {r tb : Nat} {L : List Th.DP} {c : Bool} {st : Th.St} {k : Nat} {q : Th.Ex × Th.St} (hkk : k ≤ 1000000) (h1 : st.is Th.sLet = false) (h2 : st.is Th.sCase = true) (hq : Th.pcase ex k c st.adv = some q) (h : DS w r tb L st) :
    Calls Tryz.prog 171 #[.pointer (some ⟨r, 0, none⟩), .bool c] w fun en w' => DReads w r tb L q.1 q.2 en w' := by
  have hrl := h.lt
  have htl := h.tlt
  unfold Th.pcase at hq
  simp only [Option.bind_eq_some_iff, Option.some.injEq] at hq
  obtain ⟨q1, hq1, q2, hq2, rfl⟩ := hq
  obtain ⟨cap, i, d, hd, ht, rfl⟩ := h.at (is_bad h2)
  have hk3 := (is_not ht (by simp [Th.sCase]) h2).1
  have hl := hd.lt
  have hn := hd.good.len
  have HD := hide hd
  have Ht := hide ht
  have H1 := hide h1
  have H2 := hide h2
  have HQ1 := hide hq1
  have HQ2 := hide hq2
  have HX := hide hx
  have HK := hide hk
  clear h1 h2 hq1 hq2 hx hk hd ht
  go_enter Tryz.func171, Tryz.ntmps171
  go_wp2_with fail
  refine (dis_any h ⟨#[108, 101, 116]⟩ (by simp)).mono ?_
  rintro e w1 ⟨rfl, hb1⟩
  rw [show (Th.stAt L i).is (ByteArray.mk #[108, 101, 116]).data.toList = false from unhide H1]
  have hs1 := h.below hb1
  have HB1 := hide hb1
  clear h hb1
  go_wp2_with fail
  refine (dis_any hs1 ⟨#[99, 97, 115, 101]⟩ (by simp)).mono ?_
  rintro e w2 ⟨rfl, hb2⟩
  rw [show (Th.stAt L i).is (ByteArray.mk #[99, 97, 115, 101]).data.toList = true from unhide H2]
  have hb2' := (unhide HB1).trans (hb2.mono (unhide HB1).size)
  have hS := (unhide HD).step (unhide Ht) hk3 hb2'
  have B := (unhide HD).blk.below hb2' (unhide HD).blk.lt
  have c1 := B.cell 1
  have f1 := B.frozen 1
  simp at c1
  have hz2 := hb2'.size
  have hsz : (w2.setCell ⟨r, 1, none⟩ (.int .i64 ((i : Int) + 1))).heap.size = w2.heap.size := by simp [World.setCell]
  have hE0 := Blk.new (w2.setCell ⟨r, 1, none⟩ (.int .i64 ((i : Int) + 1))) (caseCells (.pointer none) (.slice none 0 0)) 195
  rw [hsz] at hE0
  have HE0 := hide hE0
  have HG0 := hide (gb_trans hS.2 (gb_alloc _ (.cells (caseCells (.pointer none) (.slice none 0 0)).toArray 195) (some r)))
  have Hs0 := hide (hS.1.alloc (.cells (caseCells (.pointer none) (.slice none 0 0)).toArray 195))
  clear hs1 hb2 hb2' hS B hE0
  go_wp2_with fail
  refine (unhide HX _ _ _ _ _ _ _ (unhide HQ1) (unhide Hs0)).mono ?_
  rintro e w4 ⟨v4, rfl, hgot, hs4, hg4⟩
  obtain ⟨a4, rfl⟩ := hgot.one
  have hE4 := (unhide HE0).grown hg4 (by simp; omega)
  have c6 := hE4.cell 6
  have f6 := hE4.frozen 6
  simp [caseCells] at c6
  have hset := gb_set w4 w2.heap.size 6 (.pointer (some ⟨a4, 0, none⟩))
  have hlt4 := (unhide HE0).lt
  have HG4 := hide (gb_set_new (gb_trans (unhide HG0) hg4) ⟨w2.heap.size, 6, none⟩ (.pointer (some ⟨a4, 0, none⟩)) hz2)
  have hs4' := hs4.set w2.heap.size 6 (.pointer (some ⟨a4, 0, none⟩)) (by omega) (by omega)
  have hDA : DA w (w4.setCell ⟨w2.heap.size, 6, none⟩ (.pointer (some ⟨a4, 0, none⟩))) r tb w2.heap.size L (.pointer (some ⟨a4, 0, none⟩)) q1.1 [] [] q1.2 (.slice none 0 0) := by
    refine ⟨hE4.set 6 _, hz2, hrl, htl, hs4', unhide HG4, rfl, fun hbad => ?_, [], [], rfl, rfl, World.ownsRow_nil _ _ _ _, fun _ => ⟨fun i a x y z => by simp at y, 0, fun i x p y z => by simp at y⟩⟩
    obtain ⟨n, hn⟩ := hgot.rep hbad
    exact ⟨n, (hn.gb hset (fun k hk hS => by cases hk; simp only [Since] at hS; omega)).mono (fun k _ hS => ⟨by simp only [Since] at hS; omega, by simp [Value.ownBlock]⟩)⟩
  have HDA := hide hDA
  clear hgot hs4 hg4 hE4 hset hDA c1 f1
  go_wp2_with fail
  refine (dwant_any hs4' ⟨#[111, 102]⟩ (by simp)).mono ?_
  rintro e w5 ⟨rfl, hs5, hg5⟩
  have HDA5 := hide ((unhide HDA).step hg5 hs5 (want_bad [111, 102] q1.2))
  clear hs4' hs5 hg5 c6 f6
  go_wp2_with fail
  refine (darms_ok (unhide HX) (unhide HK) hkk (unhide HQ2) (unhide HDA5)).mono ?_
  rintro e w6 ⟨rfl, hg6⟩
  have HG6 := hide hg6
  clear hg6
  go_wp2_with fail
  go_ret
  exact ⟨_, rfl, unhide HG6⟩

end Go.Proofs.YtgahgkddaljmkaaGreatDoor

namespace Go.Proofs.YtgahgkddaljmkaaGreatDoor
open Go.RowKit
attribute [local go_sem ↓] Go.wp_at_zero Go.wp_at_succ

set_option maxRecDepth 100000 in
set_option maxHeartbeats 8000000 in
theorem dexpr_let {ex : Th.Rd} (hx : DExOK ex) (hk : Keeps ex) {w : World} {r tb : Nat} {L : List Th.DP} {c : Bool} {st : Th.St} {k : Nat} {q : Th.Ex × Th.St} (hkk : k ≤ 1000000) (h1 : st.is Th.sLet = true) (hq : Th.plet ex k c st.adv = some q) (h : DS w r tb L st) :
    Calls Tryz.prog 171 #[.pointer (some ⟨r, 0, none⟩), .bool c] w fun en w' => DReads w r tb L q.1 q.2 en w' := by
  have hrl := h.lt
  have htl := h.tlt
  unfold Th.plet at hq
  simp only [Option.bind_eq_some_iff, Option.some.injEq] at hq
  obtain ⟨q1, hq1, q2, hq2, rfl⟩ := hq
  obtain ⟨cap, i, d, hd, ht, rfl⟩ := h.at (is_bad h1)
  have hk3 := (is_not ht (by simp [Th.sLet]) h1).1
  obtain ⟨s0, hs00⟩ : ∃ s, (Th.stAt L i).adv = s := ⟨_, rfl⟩
  rw [hs00] at hq1 ⊢
  have HS00 := hide hs00
  have hl := hd.lt
  have hn := hd.good.len
  have HD := hide hd
  have Ht := hide ht
  have H1 := hide h1
  have HQ1 := hide hq1
  have HQ2 := hide hq2
  have HX := hide hx
  have HK := hide hk
  clear h1 hq1 hq2 hx hk hd ht hs00
  go_enter Tryz.func171, Tryz.ntmps171
  go_wp2_with fail
  refine (dis_any h ⟨#[108, 101, 116]⟩ (by simp)).mono ?_
  rintro e w2 ⟨rfl, hb2⟩
  rw [show (Th.stAt L i).is (ByteArray.mk #[108, 101, 116]).data.toList = true from unhide H1]
  have hS := (unhide HD).step (unhide Ht) hk3 hb2
  have B := (unhide HD).blk.below hb2 (unhide HD).blk.lt
  have c1 := B.cell 1
  have f1 := B.frozen 1
  simp at c1
  have hz2 := hb2.size
  have hsz : (w2.setCell ⟨r, 1, none⟩ (.int .i64 ((i : Int) + 1))).heap.size = w2.heap.size := by simp [World.setCell]
  have hE0 := Blk.new (w2.setCell ⟨r, 1, none⟩ (.int .i64 ((i : Int) + 1))) (letCells 7 (.slice none 0 0) (.slice none 0 0)) 195
  rw [hsz] at hE0
  have HE0 := hide hE0
  have HG0 := hide (gb_trans hS.2 (gb_alloc _ (.cells (letCells 7 (.slice none 0 0) (.slice none 0 0)).toArray 195) (some r)))
  have hs0 := hS.1.alloc (.cells (letCells 7 (.slice none 0 0) (.slice none 0 0)).toArray 195)
  rw [unhide HS00] at hs0
  have MK : Hid (∀ (W : World) (kk : Nat) (s : Th.St), Blk W w2.heap.size (letCells kk (.slice none 0 0) (.slice none 0 0)) 195 → DS W r tb L s → w.grownBy W (some r) → DB w W r tb w2.heap.size L kk [] [] s (.slice none 0 0) (.slice none 0 0)) :=
    hide (fun W kk s a b c => ⟨a, hz2, hrl, htl, b, c, World.ownsRow_nil _ _ _ _, (fun b hb _ => by simp [Value.ownBlock] at hb), [], rfl, World.ownsRow_nil _ _ _ _, fun _ => ⟨0, fun i x p hh _ => by simp at hh⟩⟩)
  clear h hb2 hS B hE0 HD Ht H1
  go_wp2_with fail
  cases hrc : s0.is Th.sRec
  · have HRC := hide hrc
    have HB := hide (fun (W : World) => dbinds_ok (w := W) (unhide HX) (unhide HK) (w0 := w) (rc := false) (c := c) (k := k) (q1 := q1) (q2 := q2) (r := r) (tb := tb) (eb := w2.heap.size) (L := L) (st := s0) hkk (by have := unhide HQ1; rw [hrc] at this; simpa using this) (unhide HQ2))
    clear hrc
    refine (dis_any hs0 ⟨#[114, 101, 99]⟩ (by simp)).mono ?_
    rintro e w4 ⟨rfl, hb4⟩
    rw [show s0.is (ByteArray.mk #[114, 101, 99]).data.toList = false from unhide HRC]
    have hDB := unhide MK w4 7 s0 ((unhide HE0).below hb4 (unhide HE0).lt) (hs0.below hb4) (gb_trans (unhide HG0) (gb_below _ hb4))
    have HDB := hide hDB
    clear hs0 hb4 hDB c1 f1
    go_wp2_with fail
    refine (unhide HB w4 (unhide HDB)).mono ?_
    rintro e w6 ⟨rfl, hg6⟩
    have HG6 := hide hg6
    clear hg6
    go_wp2_with fail
    go_ret
    rw [unhide HRC]
    exact ⟨_, rfl, unhide HG6⟩
  · obtain ⟨cap2, i2, d2, hd2, ht2, rfl⟩ := hs0.at (is_bad hrc)
    have hk4 := (is_not ht2 (by simp [Th.sRec]) hrc).1
    have hl2 := hd2.lt
    have HD2 := hide hd2
    have Ht2 := hide ht2
    have HRC := hide hrc
    have HB := hide (fun (W : World) => dbinds_ok (w := W) (unhide HX) (unhide HK) (w0 := w) (rc := true) (c := c) (k := k) (q1 := q1) (q2 := q2) (r := r) (tb := tb) (eb := w2.heap.size) (L := L) (st := (Th.stAt L i2).adv) hkk (by have := unhide HQ1; rw [hrc] at this; simpa using this) (unhide HQ2))
    clear hrc hd2 ht2
    refine (dis_any hs0 ⟨#[114, 101, 99]⟩ (by simp)).mono ?_
    rintro e w4 ⟨rfl, hb4⟩
    rw [show (Th.stAt L i2).is (ByteArray.mk #[114, 101, 99]).data.toList = true from unhide HRC]
    have hS4 := (unhide HD2).step (unhide Ht2) hk4 hb4
    have B4 := (unhide HD2).blk.below hb4 (unhide HD2).blk.lt
    have b1 := B4.cell 1
    have g1 := B4.frozen 1
    simp at b1
    have hE4 := ((unhide HE0).below hb4 (unhide HE0).lt).other ⟨r, 1, none⟩ (.int .i64 ((i2 : Int) + 1)) (by simp; omega)
    have e0 := hE4.cell 0
    have e0f := hE4.frozen 0
    simp [letCells] at e0
    have hDB := unhide MK ((w4.setCell ⟨r, 1, none⟩ (.int .i64 ((i2 : Int) + 1))).setCell ⟨w2.heap.size, 0, none⟩ (.int .i64 8)) 8 (Th.stAt L i2).adv (hE4.set 0 (.int .i64 8)) (hS4.1.set w2.heap.size 0 (.int .i64 8) (by omega) (by omega)) (gb_set_new (gb_trans (unhide HG0) hS4.2) ⟨w2.heap.size, 0, none⟩ (.int .i64 8) hz2)
    have HDB := hide hDB
    have q0 := ((unhide HE0).below hb4 (unhide HE0).lt).cell 0
    have q0f := ((unhide HE0).below hb4 (unhide HE0).lt).frozen 0
    simp [letCells] at q0
    clear hs0 hb4 hDB c1 f1 hS4 B4 hE4
    go_wp2_with fail
    refine (unhide HB _ (unhide HDB)).mono ?_
    rintro e w6 ⟨rfl, hg6⟩
    have HG6 := hide hg6
    clear hg6
    go_wp2_with fail
    go_ret
    rw [unhide HRC]
    exact ⟨_, rfl, unhide HG6⟩

end Go.Proofs.YtgahgkddaljmkaaGreatDoor
