/- The document's own reader: all tokens of a source, given what a token is. The document's reader: its state in memory, and what its small methods do. How the document's expressions lie in memory, and what leaves them as they are. The document's reader: want, name, names, number. The document's reader: a number within bounds. -/
import Derived.Test.YtgahgkddaljmkaaGreatDoorB1
import Derived.Test.YtgahgkddaljmkaaGreatDoorA5
namespace Go.Proofs.YtgahgkddaljmkaaGreatDoor
open Go.RowKit
attribute [local go_sem ↓] Go.wp_at_zero Go.wp_at_succ

/-- The document's function token cuts as dfirst says. -/
def DTokenOK : Prop := ∀ (s : ByteArray) (p : Nat), p < s.size → s.size ≤ 600 → ∀ (w : World),
    Calls Tryz.prog 167 #[.string s, .int .i64 p] w fun e w' => e = .returned (dtV (Th.dfirst (s.data.toList.drop p)) p) ∧ Below w.heap.size w w'

def dpCells (d : Th.DP) : List Value := [.string ⟨d.s.toArray⟩, .int .i64 d.at_, .int .u8 d.k, .int .i64 d.n]
def dpsCells (l : List Th.DP) : List Value := l.flatMap dpCells
theorem dpsCells_snoc (l : List Th.DP) (d : Th.DP) : dpsCells (l ++ [d]) = dpsCells l ++ dpCells d := by simp [dpsCells]

theorem infoDTok : (Tryz.prog.info? 108).map (fun i => (i.zero, i.size, i.bytes)) = some (some (.agg #[.string ⟨#[]⟩, .int .i64 0, .int .u8 0, .int .i64 0]), 4, 40) := by kernel_rfl

def theDToks (s : ByteArray) : List Th.DP := Th.dtoks (s.size + 1) s.data.toList 0

theorem four_one {a : ByteArray} {b c d : Int} : ∀ x ∈ [Value.string a, .int .i64 b, .int .u8 c, .int .i64 d], x.oneCell' = true := by
  intro x hx
  simp at hx
  rcases hx with rfl | rfl | rfl | rfl <;> rfl

theorem dtoks_blank {N : Nat} {s : ByteArray} {p : Nat} (hp : p < s.size) (hb : Th.isBl s[p] = true) : Th.dtoks (N + 1) (s.data.toList.drop p) p = Th.dtoks N (s.data.toList.drop (p + 1)) (p + 1) := by
  rw [drop_cons s p hp, Th.dtoks, if_pos hb]
theorem dtoks_tok {N : Nat} {s : ByteArray} {p : Nat} (hp : p < s.size) (hb : Th.isBl s[p] = false) : Th.dtoks (N + 1) (s.data.toList.drop p) p = Th.dpl (Th.dfirst (s.data.toList.drop p)) p :: Th.dtoks N (s.data.toList.drop (p + (Th.dfirst (s.data.toList.drop p)).s.length)) (p + (Th.dfirst (s.data.toList.drop p)).s.length) := by
  have e := drop_cons s p hp
  rw [← List.drop_drop, e, Th.dtoks, hb, if_neg (by simp)]

set_option maxRecDepth 100000 in
set_option maxHeartbeats 4000000 in
theorem dtokens_any (hT : DTokenOK) (s : ByteArray) (hm : s.size ≤ 600) (w : World) :
    Calls Tryz.prog 97 #[.string s] w fun e w' => ∃ v, e = .returned v ∧ w'.ownsRow w.heap.size 108 4 v (theDToks s).length (dpsCells (theDToks s)) ∧ Below w.heap.size w w' := by
  have hz : s.data.toList.length = s.size := by rw [Array.length_toList]; rfl
  have HZ0 := hide hz
  obtain ⟨i0, hi, hz0, hz1, hz2⟩ := info_parts infoDTok
  have HI := hide hi; clear hi
  have HZ := hide (And.intro hz0 (And.intro hz1 hz2)); clear hz0 hz1 hz2
  have HTK := hide hT
  clear hz hT
  go_enter Tryz.func97, Tryz.ntmps97
  go_wp2_with fail
  go_loopg [3, 4] s.size (fun gk v i wr => ∃ (p N : Nat) (l : List Th.DP), i = .int .i64 p ∧ p ≤ s.size ∧ s.size - p ≤ gk ∧ s.size - p < N ∧ l.length ≤ p ∧ theDToks s = l ++ Th.dtoks N (s.data.toList.drop p) p ∧ wr.ownsRow w.heap.size 108 4 v l.length (dpsCells l) ∧ Below w.heap.size w wr)
  case atStart => exact ⟨0, s.size + 1, [], rfl, Nat.zero_le _, by omega, by omega, Nat.le_refl _, by simp [theDToks], World.ownsRow_nil _ _ _ _, Below.refl _ _⟩
  case round =>
    obtain ⟨p, N, l, rfl, hp, hgk, hN, hll, he, hown, hb⟩ := hrel
    have HE := hide he
    have HO := hide hown
    have HB := hide hb
    have hsz := hb.size
    clear he hown hb
    by_cases hlt : p < s.size
    · have hlt' : (p : Int) < (s.size : Int) := by omega
      have hp0 : (0 : Int) ≤ (p : Int) := by omega
      cases N with
      | zero => omega
      | succ N =>
        cases hbl : Th.isBl s[p]
        · have HBL := hide hbl
          have hne : s[p].toNat ≠ 32 ∧ s[p].toNat ≠ 10 := by
            simp only [Th.isBl, Bool.or_eq_false_iff, beq_eq_false_iff_ne] at hbl
            exact ⟨fun e => hbl.1 (UInt8.toNat_inj.1 e), fun e => hbl.2 (UInt8.toNat_inj.1 e)⟩
          have n1 : ((s[p].toNat : Int) == 32) = false := by simp; omega
          have n2 : ((s[p].toNat : Int) == 10) = false := by simp; omega
          clear hbl hne
          go_wp2_with fail
          refine (unhide HTK s p hlt hm _).mono ?_
          rintro e w1 ⟨rfl, hb1⟩
          have HE2 := hide (dtoks_tok (N := N) hlt (unhide HBL))
          have hfl : 0 < (Th.dfirst (s.data.toList.drop p)).s.length ∧ (Th.dfirst (s.data.toList.drop p)).s.length ≤ s.size - p := by
            have h1 := (Th.first_like s[p] (s.data.toList.drop (p + 1))).pos
            have h2 := Th.dfirst_le s[p] (s.data.toList.drop (p + 1))
            rw [← drop_cons s p hlt] at h1 h2
            rw [List.length_drop, unhide HZ0] at h2
            exact ⟨h1, h2⟩
          generalize Th.dfirst (s.data.toList.drop p) = t at HE2 hfl ⊢
          have hbs := ba_size t.s
          have hown2 := (unhide HO).kept (gb_below none hb1) (own_none _)
          have HB1 := hide ((unhide HB).trans (hb1.mono hsz))
          have hsz1 := (unhide HB1).size
          clear hb1
          simp only [dtV]
          have hown3 := (hown2.alloc (.cells #[.string ⟨t.s.toArray⟩, .int .i64 p, .int .u8 t.k, .int .i64 t.n] 108)).alloc (.cells #[.string ⟨t.s.toArray⟩, .int .i64 p, .int .u8 t.k, .int .i64 t.n] 108)
          have HBT := hide ((Blk.new w1 [.string ⟨t.s.toArray⟩, .int .i64 p, .int .u8 t.k, .int .i64 t.n] 108).alloc (.cells #[.string ⟨t.s.toArray⟩, .int .i64 p, .int .u8 t.k, .int .i64 t.n] 108))
          have hnb : Hid (∀ {x : Value} {n : Nat} {xs : List Value}, w1.ownsRow w.heap.size 108 4 x n xs → some w1.heap.size ≠ x.ownBlock) := hide (fun h e => by have := (h.lt _ e.symm).2; omega)
          go_wp2_with (at_builtin; refine wpList_append_own _ rfl _ _ 109 rfl w.heap.size 108 i0 _ 4 40 Tryz.underlying109 (unhide HI) (unhide HZ).1 (unhide HZ).2.1 (unhide HZ).2.2 rfl (by decide) _ _ _ rfl hown3 ⟨w1.heap.size + 1, 0, none⟩ 1 1 [.string ⟨t.s.toArray⟩, .int .i64 p, .int .u8 t.k, .int .i64 t.n] rfl rfl (World.news_of_block (cs := #[.string ⟨t.s.toArray⟩, .int .i64 p, .int .u8 t.k, .int .i64 t.n]) (t := 108) (fr := (0, 0)) (by have := heap_alloc_new (w1.alloc (.cells #[.string ⟨t.s.toArray⟩, .int .i64 p, .int .u8 t.k, .int .i64 t.n] 108)) (.cells #[.string ⟨t.s.toArray⟩, .int .i64 p, .int .u8 t.k, .int .i64 t.n] 108); simpa using this)) four_one (by unfold maxLen; omega) (by omega) (by simp; omega) ?_; intro v' w3 hown' hgrow _; have bt0 := Blk.cell (Blk.grown (unhide HBT) hgrow (unhide hnb hown2)) 0; simp at bt0)
          go_roundg (s.size - (p + t.s.length))
          case measure => omega
          case rel =>
            refine ⟨p + t.s.length, N, l ++ [Th.dpl t p], by go_num, by omega, Nat.le_refl _, by omega, by simp; omega, by rw [unhide HE, unhide HE2]; simp, ?_, below_gb (gb_own (gb_trans (gb_trans (gb_below none (unhide HB1)) (gb_alloc _ _ _)) (gb_alloc _ _ _)) hown3 hgrow)⟩
            rw [dpsCells_snoc, List.length_append]
            exact hown'
        · have hne : s[p].toNat = 32 ∨ s[p].toNat = 10 := by
            simp only [Th.isBl, Bool.or_eq_true, beq_iff_eq] at hbl
            rcases hbl with h | h <;> rw [h]
            · exact .inl rfl
            · exact .inr rfl
          have HE2 := hide (dtoks_blank (N := N) hlt hbl)
          clear hbl
          have n12 : ((s[p].toNat : Int) == 32) = true ∨ (((s[p].toNat : Int) == 32) = false ∧ ((s[p].toNat : Int) == 10) = true) := by
            rcases hne with h | h
            · left; simp; omega
            · right; simp; omega
          clear hne
          rcases n12 with n1 | ⟨n1, n2⟩
          all_goals
            go_wp2_with fail
            go_roundg (s.size - (p + 1))
            case measure => omega
            case rel =>
              refine ⟨p + 1, N, l, by go_num, by omega, Nat.le_refl _, by omega, by omega, by rw [unhide HE, unhide HE2], unhide HO, unhide HB⟩
    · have hnl : ¬ ((p : Int) < (s.size : Int)) := by omega
      have hps : p = s.size := by omega
      have HE3 : Hid (theDToks s = l ++ [Th.dend s.size]) := hide (by
        rw [unhide HE, hps, List.drop_of_length_le (by rw [unhide HZ0]; omega)]
        cases N with
        | zero => omega
        | succ N => rfl)
      have hown3 := (unhide HO).alloc (.cells #[.string ⟨#[]⟩, .int .i64 s.size, .int .u8 33, .int .i64 0] 108)
      go_wp2_with (at_builtin; refine wpList_append_own _ rfl _ _ 109 rfl w.heap.size 108 i0 _ 4 40 Tryz.underlying109 (unhide HI) (unhide HZ).1 (unhide HZ).2.1 (unhide HZ).2.2 rfl (by decide) _ _ _ rfl hown3 ⟨wr.heap.size, 0, none⟩ 1 1 [.string ⟨#[]⟩, .int .i64 s.size, .int .u8 33, .int .i64 0] rfl rfl (World.news_of_block (cs := #[.string ⟨#[]⟩, .int .i64 s.size, .int .u8 33, .int .i64 0]) (t := 108) (fr := (0, 0)) (heap_alloc_new wr _)) four_one (by unfold maxLen; omega) (by omega) (by simp; omega) ?_; intro v' w3 hown' hgrow _)
      go_ret
      refine ⟨_, rfl, ?_, below_gb (gb_own (gb_trans (gb_below none (unhide HB)) (gb_alloc _ _ _)) hown3 hgrow)⟩
      rw [unhide HE3, dpsCells_snoc, List.length_append]
      exact hown'

end Go.Proofs.YtgahgkddaljmkaaGreatDoor

namespace Go.Proofs.YtgahgkddaljmkaaGreatDoor
open Go.RowKit

/-- The document's tokens, four cells each, from the head of a block on. -/
def DToksAt (w : World) (tb : Nat) (L : List Th.DP) : Prop :=
  ∀ i d, L[i]? = some d → w.cell? ⟨tb, i * 4, none⟩ = some (.string ⟨d.s.toArray⟩) ∧ w.cell? ⟨tb, i * 4 + 1, none⟩ = some (.int .i64 d.at_) ∧ w.cell? ⟨tb, i * 4 + 2, none⟩ = some (.int .u8 d.k) ∧ w.cell? ⟨tb, i * 4 + 3, none⟩ = some (.int .i64 d.n)

/-- The document's reader in block r: at token i, with b for the place where it failed. -/
structure DI (w : World) (r tb cap : Nat) (L : List Th.DP) (i : Nat) (b : Int) : Prop where
  blk : Blk w r [.slice (some ⟨tb, 0, none⟩) L.length cap, .int .i64 i, .int .i64 b] 189
  toks : DToksAt w tb L
  ne : tb ≠ r
  lt : i < L.length
  good : Th.DGood L
  cap_ : L.length ≤ cap

theorem DToksAt.gb {w w' : World} {tb : Nat} {L : List Th.DP} (h : DToksAt w tb L) {row : Option Nat} (hg : w.grownBy w' row) (hr : some tb ≠ row) : DToksAt w' tb L :=
  fun i t ht => ⟨cell_gb hg (h i t ht).1 hr, cell_gb hg (h i t ht).2.1 hr, cell_gb hg (h i t ht).2.2.1 hr, cell_gb hg (h i t ht).2.2.2 hr⟩
theorem DI.gb {w w' : World} {r tb cap : Nat} {L : List Th.DP} {i : Nat} {b : Int} (h : DI w r tb cap L i b) {row : Option Nat} (hg : w.grownBy w' row) (hr : some r ≠ row) (ht : some tb ≠ row) : DI w' r tb cap L i b :=
  ⟨h.blk.grown hg hr, h.toks.gb hg ht, h.ne, h.lt, h.good, h.cap_⟩
theorem DI.tok {w : World} {r tb cap : Nat} {L : List Th.DP} {i : Nat} {b : Int} (h : DI w r tb cap L i b) : ∃ d, L[i]? = some d :=
  ⟨L[i]'h.lt, List.getElem?_eq_getElem h.lt⟩

/-- What the reader's block stands for. -/
def Abs (L : List Th.DP) (i : Nat) (b : Int) (st : Th.St) : Prop := (b = -1 ∧ st = Th.stAt L i) ∨ ∃ p : Nat, b = (p : Int) ∧ p ≤ 100000 ∧ st = ⟨[], some p⟩

def DS (w : World) (r tb : Nat) (L : List Th.DP) (st : Th.St) : Prop := ∃ cap i b, DI w r tb cap L i b ∧ Abs L i b st

theorem DS.gb {w w' : World} {r tb : Nat} {L : List Th.DP} {st : Th.St} (h : DS w r tb L st) {row : Option Nat} (hg : w.grownBy w' row) (hr : some r ≠ row) (ht : some tb ≠ row) : DS w' r tb L st := by
  obtain ⟨cap, i, b, h, e⟩ := h
  exact ⟨cap, i, b, h.gb hg hr ht, e⟩
theorem DS.below {w w' : World} {r tb : Nat} {L : List Th.DP} {st : Th.St} (h : DS w r tb L st) (hb : Below w.heap.size w w') : DS w' r tb L st := h.gb (gb_below none hb) (by simp) (by simp)
theorem DS.alloc {w : World} {r tb : Nat} {L : List Th.DP} {st : Th.St} (h : DS w r tb L st) (o : Obj) : DS (w.alloc o) r tb L st := h.below (below_alloc w o)
theorem DS.drew {w : World} {r tb : Nat} {L : List Th.DP} {st : Th.St} (h : DS w r tb L st) : DS w.drew r tb L st := h.gb (gb_drew w none) (by simp) (by simp)
theorem DS.lt {w : World} {r tb : Nat} {L : List Th.DP} {st : Th.St} (h : DS w r tb L st) : r < w.heap.size := by
  obtain ⟨cap, i, b, h, e⟩ := h
  exact h.blk.lt
theorem DS.tlt {w : World} {r tb : Nat} {L : List Th.DP} {st : Th.St} (h : DS w r tb L st) : tb < w.heap.size := by
  obtain ⟨cap, i, b, h, e⟩ := h
  exact cell_lt (h.toks i (L[i]'h.lt) (List.getElem?_eq_getElem h.lt)).1
theorem DS.set {w : World} {r tb : Nat} {L : List Th.DP} {st : Th.St} (h : DS w r tb L st) (b o : Nat) (v : Value) (hr : r ≠ b) (ht : tb ≠ b) : DS (w.setCell ⟨b, o, none⟩ v) r tb L st :=
  h.gb (gb_set w b o v) (by simp; exact hr) (by simp; exact ht)

theorem Abs.bad {L : List Th.DP} {i : Nat} {b : Int} {st : Th.St} (h : Abs L i b st) (hb : ¬ b < 0) : ∃ p : Nat, b = (p : Int) ∧ p ≤ 100000 ∧ st = ⟨[], some p⟩ := by
  rcases h with ⟨h, _⟩ | h
  · omega
  · exact h
theorem Abs.ok {L : List Th.DP} {i : Nat} {b : Int} {st : Th.St} (h : Abs L i b st) (hb : b < 0) : b = -1 ∧ st = Th.stAt L i := by
  rcases h with h | ⟨p, h, _⟩
  · exact h
  · omega

set_option maxRecDepth 100000 in
set_option maxHeartbeats 400000 in
theorem dis_any {w : World} {r tb : Nat} {L : List Th.DP} {st : Th.St} (h : DS w r tb L st) (x : ByteArray) (hx : x.data.toList ≠ []) :
    Calls Tryz.prog 225 #[.pointer (some ⟨r, 0, none⟩), .string x] w fun e w' => e = .returned (.bool (st.is x.data.toList)) ∧ Below w.heap.size w w' := by
  obtain ⟨cap, i, b, h, ha⟩ := h
  obtain ⟨d, hd⟩ := h.tok
  have hl := h.lt
  have hn := h.good.len
  have c0 := h.blk.cell 0
  have c1 := h.blk.cell 1
  have c2 := h.blk.cell 2
  simp at c0 c1 c2
  obtain ⟨d0, d1, d2, d3⟩ := h.toks i d hd
  have Hd := hide hd
  clear h hd
  by_cases hb : b < 0
  · obtain ⟨rfl, rfl⟩ := ha.ok hb
    have H := hide (Th.stAt_is (unhide Hd) x.data.toList hx)
    have hz : (⟨d.s.toArray⟩ : ByteArray).toList = d.s := by rw [ByteArray.toList_eq]
    clear ha hx
    rw [unhide H, ← ByteArray.toList_eq]
    cases hs : (d.s == x.toList)
    · go_enter Tryz.func225, Tryz.ntmps225
      go_wp2_with fail
      go_quiet (fail)
      go_wp2_with fail
      go_ret
      exact ⟨rfl, below_drewN (Below.refl _ _) _⟩
    · have hk : ((d.k : Int) != 33) = (d.k != 33) := by
        rw [Bool.eq_iff_iff]
        simp
        omega
      have HK := hide hk
      clear hk
      go_enter Tryz.func225, Tryz.ntmps225
      go_wp2_with fail
      go_quiet (fail)
      go_wp2_with fail
      go_ret
      refine ⟨?_, below_drewN (Below.refl _ _) _⟩
      rw [← unhide HK]
      rfl
  · obtain ⟨p, hbp, hp, rfl⟩ := ha.bad hb
    have e0 : Th.St.is x.data.toList ⟨[], some p⟩ = false := rfl
    rw [e0]
    have hb1 : (b < 0) = False := eq_false hb
    clear ha hx hp hbp e0 d0 d1 d2 d3 c0 c1 hb
    go_enter Tryz.func225, Tryz.ntmps225
    go_wp2_with fail
    go_quiet (fail)
    go_wp2_with fail
    go_ret
    exact ⟨rfl, below_drewN (Below.refl _ _) _⟩

set_option maxRecDepth 100000 in
set_option maxHeartbeats 400000 in
theorem dkind_any {w : World} {r tb : Nat} {L : List Th.DP} {st : Th.St} (h : DS w r tb L st) (k j : Nat) (hkj : (k = 97 ∧ j = 2) ∨ (k = 48 ∧ j = 3)) :
    Calls Tryz.prog 223 #[.pointer (some ⟨r, 0, none⟩), .int .u8 k] w fun e w' => e = .returned (.bool (st.kind j)) ∧ Below w.heap.size w w' := by
  obtain ⟨cap, i, b, h, ha⟩ := h
  obtain ⟨d, hd⟩ := h.tok
  have hl := h.lt
  have hn := h.good.len
  have c0 := h.blk.cell 0
  have c1 := h.blk.cell 1
  have c2 := h.blk.cell 2
  simp at c0 c1 c2
  obtain ⟨d0, d1, d2, d3⟩ := h.toks i d hd
  have Hd := hide hd
  clear h hd
  by_cases hb : b < 0
  · obtain ⟨rfl, rfl⟩ := ha.ok hb
    have H : Hid ((Th.stAt L i).kind j = ((d.k : Int) == (k : Int))) := hide (by
      rcases hkj with ⟨rfl, rfl⟩ | ⟨rfl, rfl⟩
      · rw [Th.stAt_kind2 (unhide Hd), Bool.eq_iff_iff]; simp; omega
      · rw [Th.stAt_kind3 (unhide Hd), Bool.eq_iff_iff]; simp; omega)
    clear ha hkj
    rw [unhide H]
    go_enter Tryz.func223, Tryz.ntmps223
    go_wp2_with fail
    go_quiet (fail)
    go_wp2_with fail
    go_ret
    exact ⟨rfl, below_drewN (Below.refl _ _) _⟩
  · obtain ⟨p, hbp, hp, rfl⟩ := ha.bad hb
    have e0 : Th.St.kind j ⟨[], some p⟩ = false := rfl
    rw [e0]
    have hb1 : (b < 0) = False := eq_false hb
    clear ha hp hbp e0 d0 d1 d2 d3 c0 c1 hkj hb
    go_enter Tryz.func223, Tryz.ntmps223
    go_wp2_with fail
    go_quiet (fail)
    go_wp2_with fail
    go_ret
    exact ⟨rfl, below_drewN (Below.refl _ _) _⟩

/-- The reader has failed at its token. -/
theorem DI.fails {w w' : World} {r tb cap : Nat} {L : List Th.DP} {i : Nat} {d : Th.DP} (h : DI w r tb cap L i (-1)) (hd : L[i]? = some d)
    (hb : Blk w' r [.slice (some ⟨tb, 0, none⟩) L.length cap, .int .i64 i, .int .i64 (d.at_ : Int)] 189) (hg : w.grownBy w' (some r)) : DS w' r tb L (Th.stAt L i).fail := by
  refine ⟨cap, i, d.at_, ⟨hb, h.toks.gb hg (by simp; exact h.ne), h.ne, h.lt, h.good, h.cap_⟩, .inr ⟨d.at_, rfl, h.good.at_ d (List.mem_of_getElem? hd), ?_⟩⟩
  have e : (Th.stAt L i).fail = ⟨[], some (Th.stAt L i).hd.at_⟩ := rfl
  rw [e, Th.stAt_at hd]

set_option maxRecDepth 100000 in
set_option maxHeartbeats 400000 in
theorem dfail_any {w : World} {r tb : Nat} {L : List Th.DP} {st : Th.St} (h : DS w r tb L st) :
    Calls Tryz.prog 224 #[.pointer (some ⟨r, 0, none⟩)] w fun e w' => e = .returned (.tuple #[]) ∧ DS w' r tb L st.fail ∧ w.grownBy w' (some r) := by
  have HH := hide h
  obtain ⟨cap, i, b, h, ha⟩ := h
  obtain ⟨d, hd⟩ := h.tok
  have hl := h.lt
  have hn := h.good.len
  have c0 := h.blk.cell 0
  have c1 := h.blk.cell 1
  have c2 := h.blk.cell 2
  have f2 := h.blk.frozen 2
  simp at c0 c1 c2
  obtain ⟨d0, d1, d2, d3⟩ := h.toks i d hd
  have Hd := hide hd
  have H := hide h
  have hrl := h.blk.lt
  clear h hd
  by_cases hb : b < 0
  · obtain ⟨rfl, rfl⟩ := ha.ok hb
    clear ha
    go_enter Tryz.func224, Tryz.ntmps224
    go_wp2_with fail
    go_region
    all_goals
      go_wp2_with fail
      go_end0
      have hG := gb_trans (gb_set w r 2 (.int .i64 (d.at_ : Int))) (gb_drew _ (some r))
      exact ⟨rfl, (unhide H).fails (unhide Hd) ((unhide H).blk.set 2 (.int .i64 (d.at_ : Int))) hG, hG⟩
  · obtain ⟨p, hbp, hp, rfl⟩ := ha.bad hb
    clear ha hp hbp d0 d1 d2 d3 c0 c1
    go_enter Tryz.func224, Tryz.ntmps224
    go_wp2_with fail
    go_end0
    exact ⟨rfl, unhide HH, gb_refl _ _⟩

end Go.Proofs.YtgahgkddaljmkaaGreatDoor

namespace Go.Proofs.YtgahgkddaljmkaaGreatDoor
open Go.RowKit

/-- A name as the document keeps it: a token; where none was read, one that is zero. -/
def dnCells (t : Th.Tok) : List Value := [.string ⟨t.s.toArray⟩, .int .i64 t.at_, .int .u8 (if t.k = 2 then 97 else 0 : Nat), .int .i64 0]
def dnsCells (l : List Th.Tok) : List Value := l.flatMap dnCells

/-- The cells of an expression's block. -/
def exCells (e : Th.Ex) (lv rv nv pv av : Value) : List Value :=
  [.int .i64 e.kind, .int .i64 (if e.kind = 2 then e.tok.at_ else 0 : Nat), .string ⟨(if e.kind = 2 ∨ e.kind = 6 then e.tok.s else []).toArray⟩, .int .i64 e.n, .int .i64 e.tag, .int .i64 e.arity, lv, rv, nv, pv, av]

/-- A pointer to an expression (of a depth): its blocks lie in a set. -/
def DRep (S : Nat → Prop) (w : World) : Nat → Value → Th.Ex → Prop
  | 0, _, _ => False
  | n + 1, v, e => ∃ (a : Nat) (lv rv nv pv av : Value), v = .pointer (some ⟨a, 0, none⟩) ∧ S a ∧ Blk w a (exCells e lv rv nv pv av) 195 ∧
    ((e.kind ≤ 3) ∨
     (e.kind = 4 ∧ ∃ b, e.kids = [b] ∧ Row S w 108 4 nv e.names.length (dnsCells e.names) ∧ DRep S w n lv b) ∨
     ((e.kind = 5 ∨ e.kind = 6) ∧ ∃ e1 e2, e.kids = [e1, e2] ∧ DRep S w n lv e1 ∧ DRep S w n rv e2) ∨
     ((e.kind = 7 ∨ e.kind = 8) ∧ ∃ b parts pvs, e.kids = b :: parts ∧ parts.length = e.names.length ∧ pvs.length = parts.length ∧ Row S w 108 4 nv e.names.length (dnsCells e.names) ∧
       Row S w 110 1 pv parts.length pvs ∧ (∀ (i : Nat) (x : Value) (p : Th.Ex), pvs[i]? = some x → parts[i]? = some p → DRep S w n x p) ∧ DRep S w n lv b) ∨
     (e.kind = 9 ∧ ∃ b bodies nvs bvs, e.kids = b :: bodies ∧ bodies.length = e.arms.length ∧ nvs.length = e.arms.length ∧ bvs.length = e.arms.length ∧
       Row S w 304 3 av e.arms.length (armCells e.arms nvs bvs) ∧ (∀ (i : Nat) (a : Nat × List Th.Tok) (x : Value), e.arms[i]? = some a → nvs[i]? = some x → Row S w 108 4 x a.2.length (dnsCells a.2)) ∧
       (∀ (i : Nat) (x : Value) (p : Th.Ex), bvs[i]? = some x → bodies[i]? = some p → DRep S w n x p) ∧ DRep S w n lv b))

theorem DRep.imp {S S' : Nat → Prop} {w w' : World} (hblk : ∀ a vs t, S a → Blk w a vs t → S' a ∧ Blk w' a vs t) (hrow : ∀ e size v n xs, Row S w e size v n xs → Row S' w' e size v n xs) : ∀ (n : Nat) (v : Value) (e : Th.Ex), DRep S w n v e → DRep S' w' n v e
  | 0, _, _, h => h.elim
  | n + 1, v, e, h => by
    have ih := DRep.imp hblk hrow n
    obtain ⟨a, lv, rv, nv, pv, av, hv, hS, hB, h⟩ := h
    obtain ⟨hS', hB'⟩ := hblk _ _ _ hS hB
    refine ⟨a, lv, rv, nv, pv, av, hv, hS', hB', ?_⟩
    rcases h with h | ⟨hk, b, h1, h2, h3⟩ | ⟨hk, e1, e2, h1, h2, h3⟩ | ⟨hk, b, parts, pvs, h1, h2, h3, h4, h5, h6, h7⟩ | ⟨hk, b, bodies, nvs, bvs, h1, h2, h3, h4, h5, h6, h7, h8⟩
    · exact .inl h
    · exact .inr (.inl ⟨hk, b, h1, hrow _ _ _ _ _ h2, ih _ _ h3⟩)
    · exact .inr (.inr (.inl ⟨hk, e1, e2, h1, ih _ _ h2, ih _ _ h3⟩))
    · exact .inr (.inr (.inr (.inl ⟨hk, b, parts, pvs, h1, h2, h3, hrow _ _ _ _ _ h4, hrow _ _ _ _ _ h5, fun i x p y z => ih _ _ (h6 i x p y z), ih _ _ h7⟩)))
    · exact .inr (.inr (.inr (.inr ⟨hk, b, bodies, nvs, bvs, h1, h2, h3, h4, hrow _ _ _ _ _ h5, fun i a x y z => hrow _ _ _ _ _ (h6 i a x y z), fun i x p y z => ih _ _ (h7 i x p y z), ih _ _ h8⟩)))

theorem DRep.succ {S : Nat → Prop} {w : World} : ∀ (n : Nat) (v : Value) (e : Th.Ex), DRep S w n v e → DRep S w (n + 1) v e
  | 0, _, _, h => h.elim
  | n + 1, v, e, h => by
    have ih := DRep.succ (S := S) (w := w) n
    obtain ⟨a, lv, rv, nv, pv, av, hv, hS, hB, h⟩ := h
    refine ⟨a, lv, rv, nv, pv, av, hv, hS, hB, ?_⟩
    rcases h with h | ⟨hk, b, h1, h2, h3⟩ | ⟨hk, e1, e2, h1, h2, h3⟩ | ⟨hk, b, parts, pvs, h1, h2, h3, h4, h5, h6, h7⟩ | ⟨hk, b, bodies, nvs, bvs, h1, h2, h3, h4, h5, h6, h7, h8⟩
    · exact .inl h
    · exact .inr (.inl ⟨hk, b, h1, h2, ih _ _ h3⟩)
    · exact .inr (.inr (.inl ⟨hk, e1, e2, h1, ih _ _ h2, ih _ _ h3⟩))
    · exact .inr (.inr (.inr (.inl ⟨hk, b, parts, pvs, h1, h2, h3, h4, h5, fun i x p y z => ih _ _ (h6 i x p y z), ih _ _ h7⟩)))
    · exact .inr (.inr (.inr (.inr ⟨hk, b, bodies, nvs, bvs, h1, h2, h3, h4, h5, h6, fun i x p y z => ih _ _ (h7 i x p y z), ih _ _ h8⟩)))

theorem DRep.le {S : Nat → Prop} {w : World} {n m : Nat} {v : Value} {e : Th.Ex} (h : DRep S w n v e) (hm : n ≤ m) : DRep S w m v e := by
  induction hm with
  | refl => exact h
  | step _ ih => exact DRep.succ _ _ _ ih

theorem DRep.gb {S : Nat → Prop} {w w' : World} {n : Nat} {v : Value} {e : Th.Ex} (h : DRep S w n v e) {row : Option Nat} (hg : w.grownBy w' row) (hr : ∀ k, row = some k → ¬ S k) : DRep S w' n v e :=
  DRep.imp (fun _ _ _ hS hB => ⟨hS, hB.grown hg (fun e => hr _ e.symm hS)⟩) (fun _ _ _ _ _ hR => hR.gb hg hr) n v e h
theorem DRep.mono {S S' : Nat → Prop} {w : World} {n : Nat} {v : Value} {e : Th.Ex} (h : DRep S w n v e) (hs : ∀ k, k < w.heap.size → S k → S' k) : DRep S' w n v e :=
  DRep.imp (fun _ _ _ hS hB => ⟨hs _ hB.lt hS, hB⟩) (fun _ _ _ _ _ hR => hR.mono hs) n v e h

/-- What the document's reader hands back: a pointer, and, if it has not failed, the expression. -/
structure DGot (S : Nat → Prop) (w : World) (v : Value) (e : Th.Ex) (st : Th.St) : Prop where
  one : ∃ a : Nat, v = .pointer (some ⟨a, 0, none⟩)
  rep : st.bad = none → ∃ n, DRep S w n v e

theorem DGot.gb {S : Nat → Prop} {w w' : World} {v : Value} {e : Th.Ex} {st : Th.St} (h : DGot S w v e st) {row : Option Nat} (hg : w.grownBy w' row) (hr : ∀ k, row = some k → ¬ S k) : DGot S w' v e st :=
  ⟨h.one, fun hb => by obtain ⟨n, hn⟩ := h.rep hb; exact ⟨n, hn.gb hg hr⟩⟩
theorem DGot.mono {S S' : Nat → Prop} {w : World} {v : Value} {e : Th.Ex} {st : Th.St} (h : DGot S w v e st) (hs : ∀ k, k < w.heap.size → S k → S' k) : DGot S' w v e st :=
  ⟨h.one, fun hb => by obtain ⟨n, hn⟩ := h.rep hb; exact ⟨n, hn.mono hs⟩⟩
theorem DGot.st {S : Nat → Prop} {w : World} {v : Value} {e : Th.Ex} {st st' : Th.St} (h : DGot S w v e st) (hb : st'.bad = none → st.bad = none) : DGot S w v e st' := ⟨h.one, fun h' => h.rep (hb h')⟩

/-- What the document's reader of expressions does. -/
def DReads (w : World) (r tb : Nat) (L : List Th.DP) (e : Th.Ex) (st' : Th.St) (en : Ending) (w' : World) : Prop :=
  ∃ v, en = .returned v ∧ DGot (Since w) w' v e st' ∧ DS w' r tb L st' ∧ w.grownBy w' (some r)

theorem dreads_of {w w1 w2 : World} {r tb : Nat} {L : List Th.DP} {e : Th.Ex} {s : Th.St} {en : Ending} (hg : w.grownBy w1 (some r)) (h : DReads w1 r tb L e s en w2) : DReads w r tb L e s en w2 := by
  obtain ⟨v, h1, h2, h3, h4⟩ := h
  exact ⟨v, h1, h2.mono (fun k _ hk => Nat.le_trans hg.size hk), h3, gb_trans hg h4⟩

/-- The document's method expr does what a reader of the grammar says. -/
def DExOK (ex : Th.Rd) : Prop := ∀ (c : Bool) (st : Th.St) (q : Th.Ex × Th.St) (w : World) (r tb : Nat) (L : List Th.DP), ex c st = some q → DS w r tb L st →
  Calls Tryz.prog 171 #[.pointer (some ⟨r, 0, none⟩), .bool c] w fun en w' => DReads w r tb L q.1 q.2 en w'

/-- A new block that is an expression without parts. -/
theorem drep_new {S : Nat → Prop} {w : World} {e : Th.Ex} {lv rv nv pv av : Value} (hS : S w.heap.size) (hk : e.kind ≤ 3) : DRep S (w.alloc (.cells (exCells e lv rv nv pv av).toArray 195)) 1 (.pointer (some ⟨w.heap.size, 0, none⟩)) e :=
  ⟨_, lv, rv, nv, pv, av, rfl, hS, Blk.new w _ _, .inl hk⟩

/-- A new block that is a call or an operation. -/
theorem drep_two {S : Nat → Prop} {w : World} {e e1 e2 : Th.Ex} {lv rv nv pv av : Value} {n1 n2 : Nat} (hS : S w.heap.size) (hk : e.kind = 5 ∨ e.kind = 6) (he : e.kids = [e1, e2]) (h1 : DRep S w n1 lv e1) (h2 : DRep S w n2 rv e2) :
    DRep S (w.alloc (.cells (exCells e lv rv nv pv av).toArray 195)) (n1 + n2 + 1) (.pointer (some ⟨w.heap.size, 0, none⟩)) e :=
  ⟨_, lv, rv, nv, pv, av, rfl, hS, Blk.new w _ _, .inr (.inr (.inl ⟨hk, e1, e2, he, (h1.le (by omega)).gb (gb_alloc _ _ none) (by simp), (h2.le (by omega)).gb (gb_alloc _ _ none) (by simp)⟩))⟩

end Go.Proofs.YtgahgkddaljmkaaGreatDoor

namespace Go.Proofs.YtgahgkddaljmkaaGreatDoor
open Go.RowKit
attribute [local go_sem ↓] Go.wp_at_zero Go.wp_at_succ

/-- What moves the document's reader on by one token. -/
theorem DI.step {w w1 : World} {r tb cap : Nat} {L : List Th.DP} {i : Nat} {d : Th.DP} (h : DI w r tb cap L i (-1)) (hd : L[i]? = some d) (hk : d.k ≠ 33) (hw : Below w.heap.size w w1) :
    DS (w1.setCell ⟨r, 1, none⟩ (.int .i64 ((i : Int) + 1))) r tb L (Th.stAt L i).adv ∧ w.grownBy (w1.setCell ⟨r, 1, none⟩ (.int .i64 ((i : Int) + 1))) (some r) := by
  have hG := gb_trans (gb_below (some r) hw) (gb_set w1 r 1 (.int .i64 ((i : Int) + 1)))
  refine ⟨⟨cap, i + 1, -1, ⟨?_, h.toks.gb hG (by simp; exact h.ne), h.ne, Th.not_end h.good hd hk, h.good, h.cap_⟩, .inl ⟨rfl, Th.stAt_adv hd hk⟩⟩, hG⟩
  exact (h.blk.below hw h.blk.lt).set 1 (.int .i64 ((i : Int) + 1))

/-- Where a token is asked for and stands, the reader has not failed. -/
theorem DS.at {w : World} {r tb : Nat} {L : List Th.DP} {st : Th.St} (h : DS w r tb L st) (hb : st.bad = none) : ∃ cap i d, DI w r tb cap L i (-1) ∧ L[i]? = some d ∧ st = Th.stAt L i := by
  obtain ⟨cap, i, b, h, ha⟩ := h
  obtain ⟨d, hd⟩ := h.tok
  rcases ha with ⟨rfl, e⟩ | ⟨p, _, _, rfl⟩
  · exact ⟨cap, i, d, h, hd, e⟩
  · simp at hb

theorem is_not {L : List Th.DP} {i : Nat} {d : Th.DP} (hd : L[i]? = some d) {x : List UInt8} (hx : x ≠ []) (h : (Th.stAt L i).is x = true) : d.k ≠ 33 ∧ d.s = x := by
  rw [Th.stAt_is hd x hx, Bool.and_eq_true, beq_iff_eq, bne_iff_ne] at h
  exact ⟨h.2, h.1⟩
theorem kind2_not {L : List Th.DP} {i : Nat} {d : Th.DP} (hd : L[i]? = some d) (h : (Th.stAt L i).kind 2 = true) : d.k = 97 := by
  rw [Th.stAt_kind2 hd, beq_iff_eq] at h
  exact h
theorem kind3_not {L : List Th.DP} {i : Nat} {d : Th.DP} (hd : L[i]? = some d) (h : (Th.stAt L i).kind 3 = true) : d.k = 48 := by
  rw [Th.stAt_kind3 hd, beq_iff_eq] at h
  exact h

set_option maxRecDepth 100000 in
set_option maxHeartbeats 1000000 in
theorem dwant_any {w : World} {r tb : Nat} {L : List Th.DP} {st : Th.St} (h : DS w r tb L st) (x : ByteArray) (hx : x.data.toList ≠ []) :
    Calls Tryz.prog 170 #[.pointer (some ⟨r, 0, none⟩), .string x] w fun e w' => e = .returned (.tuple #[]) ∧ DS w' r tb L (Th.want x.data.toList st) ∧ w.grownBy w' (some r) := by
  have H := hide h
  cases hi : st.is x.data.toList
  · have Hi := hide hi
    have Hw : Hid (Th.want x.data.toList st = st.fail) := hide (by simp [Th.want, hi])
    clear hi
    go_enter Tryz.func170, Tryz.ntmps170
    go_wp2_with fail
    refine (dis_any h x hx).mono ?_
    rintro e w1 ⟨rfl, hb⟩
    rw [unhide Hi]
    have Hs := hide (h.below hb)
    have Hb := hide hb
    clear h hx hb
    go_wp2_with fail
    refine (dfail_any (unhide Hs)).mono ?_
    rintro e w2 ⟨rfl, hs2, hg2⟩
    have Hs2 := hide hs2
    have Hg2 := hide hg2
    clear hs2 hg2
    go_wp2_with fail
    refine bodyPost_ret (results_none rfl _ _ _) rfl ?_
    exact ⟨rfl, by rw [unhide Hw]; exact unhide Hs2, gb_trans (gb_below _ (unhide Hb)) (unhide Hg2)⟩
  · have Hw : Hid (Th.want x.data.toList st = st.adv) := hide (by simp [Th.want, hi])
    obtain ⟨cap, i, d, hd, ht, rfl⟩ := h.at (is_bad hi)
    have hk := (is_not ht hx hi).1
    have hl := hd.lt
    have hn := hd.good.len
    have Hi := hide hi
    have HD := hide hd
    have Ht := hide ht
    clear hi hd ht
    go_enter Tryz.func170, Tryz.ntmps170
    go_wp2_with fail
    refine (dis_any h x hx).mono ?_
    rintro e w1 ⟨rfl, hb⟩
    rw [unhide Hi]
    have hS := hide ((unhide HD).step (unhide Ht) hk hb)
    have B := (unhide HD).blk.below hb (unhide HD).blk.lt
    have c1 := B.cell 1
    have f1 := B.frozen 1
    simp at c1
    clear h hx hb B hk
    go_wp2_with fail
    go_end0
    exact ⟨rfl, by rw [unhide Hw]; exact (unhide hS).1, (unhide hS).2⟩

/-- A name as the document's reader hands it back. -/
def dnV (t : Th.Tok) : Value := .agg #[.string ⟨t.s.toArray⟩, .int .i64 t.at_, .int .u8 (if t.k = 2 then 97 else 0 : Nat), .int .i64 0]

set_option maxRecDepth 100000 in
set_option maxHeartbeats 1000000 in
theorem dname_any {w : World} {r tb : Nat} {L : List Th.DP} {st : Th.St} (h : DS w r tb L st) :
    Calls Tryz.prog 168 #[.pointer (some ⟨r, 0, none⟩)] w fun e w' => e = .returned (dnV (Th.pname st).1) ∧ DS w' r tb L (Th.pname st).2 ∧ w.grownBy w' (some r) := by
  have H := hide h
  have hrl := h.lt
  have htl := h.tlt
  cases hi : st.kind 2
  · have Hi := hide hi
    have e0 : Th.pname st = (Th.tok0, st.fail) := by simp [Th.pname, hi]
    rw [e0]
    clear hi e0
    have h0 := h.alloc (.cells #[.string ⟨#[]⟩, .int .i64 0, .int .u8 0, .int .i64 0] 108)
    have HB0 := hide (Blk.new w [.string ⟨#[]⟩, .int .i64 0, .int .u8 0, .int .i64 0] 108)
    go_enter Tryz.func168, Tryz.ntmps168
    go_wp2_with fail
    refine (dkind_any h0 97 2 (.inl ⟨rfl, rfl⟩)).mono ?_
    rintro e w1 ⟨rfl, hb⟩
    rw [unhide Hi]
    have Hs1 := hide (h0.below hb)
    have HB1 := hide ((unhide HB0).below hb (by simp))
    have HG1 := hide (gb_trans (gb_alloc w (.cells #[.string ⟨#[]⟩, .int .i64 0, .int .u8 0, .int .i64 0] 108) (some r)) (gb_below (some r) hb))
    clear h h0 hb
    go_wp2_with fail
    refine (dfail_any (unhide Hs1)).mono ?_
    rintro e w2 ⟨rfl, hs2, hg2⟩
    have B2 := (unhide HB1).grown hg2 (by simp; omega)
    have a0 := B2.cell 0
    have a1 := B2.cell 1
    have a2 := B2.cell 2
    have a3 := B2.cell 3
    have g0 := B2.frozen 0
    have g1 := B2.frozen 1
    have g2 := B2.frozen 2
    have g3 := B2.frozen 3
    simp at a0 a1 a2 a3
    have FIN := hide ((((B2.set 0 (.string ⟨#[]⟩)).set 1 (.int .i64 0)).set 2 (.int .u8 0)).set 3 (.int .i64 0))
    have FG := hide (gb_set_new (gb_set_new (gb_set_new (gb_set_new (gb_trans (unhide HG1) hg2) ⟨w.heap.size, 0, none⟩ (.string ⟨#[]⟩) (by simp)) ⟨w.heap.size, 1, none⟩ (.int .i64 0) (by simp)) ⟨w.heap.size, 2, none⟩ (.int .u8 0) (by simp)) ⟨w.heap.size, 3, none⟩ (.int .i64 0) (by simp))
    have FS := hide ((((hs2.set w.heap.size 0 (.string ⟨#[]⟩) (by omega) (by omega)).set w.heap.size 1 (.int .i64 0) (by omega) (by omega)).set w.heap.size 2 (.int .u8 0) (by omega) (by omega)).set w.heap.size 3 (.int .i64 0) (by omega) (by omega))
    clear hs2 hg2 B2
    go_wp2_with fail
    have p0 := Blk.cell (unhide FIN) 0
    have p1 := Blk.cell (unhide FIN) 1
    have p2 := Blk.cell (unhide FIN) 2
    have p3 := Blk.cell (unhide FIN) 3
    simp at p0 p1 p2 p3
    refine bodyPost_ret (by simp [results, Tryz.results168, go_sem, p0, p1, p2, p3, dnV, Th.tok0]) rfl ⟨rfl, unhide FS, unhide FG⟩
  · have e0 : Th.pname st = (st.hd, st.adv) := by simp [Th.pname, hi]
    rw [e0]
    obtain ⟨cap, i, d, hd, ht, rfl⟩ := h.at (kind_bad hi)
    have hk := kind2_not ht hi
    have hk3 : d.k ≠ 33 := by omega
    have hw := hd.good.word d (List.mem_of_getElem? ht) (by omega) hk3
    have ehd : (Th.stAt L i).hd = ⟨2, d.s, d.at_⟩ := by rw [Th.stAt_tok ht hk3, hk]; rfl
    rw [ehd]
    have hl := hd.lt
    have hn := hd.good.len
    have Hi := hide hi
    have HD := hide hd
    have Ht := hide ht
    have h0 := h.alloc (.cells #[.string ⟨#[]⟩, .int .i64 0, .int .u8 0, .int .i64 0] 108)
    have HB0 := hide (Blk.new w [.string ⟨#[]⟩, .int .i64 0, .int .u8 0, .int .i64 0] 108)
    clear hi hd ht e0 ehd h
    go_enter Tryz.func168, Tryz.ntmps168
    go_wp2_with fail
    refine (dkind_any h0 97 2 (.inl ⟨rfl, rfl⟩)).mono ?_
    rintro e w1 ⟨rfl, hb⟩
    rw [unhide Hi]
    have hbw : Below w.heap.size w w1 := (below_alloc _ _).trans (hb.mono (by simp))
    have hS := hide ((unhide HD).step (unhide Ht) hk3 hbw)
    have B := (unhide HD).blk.below hbw (unhide HD).blk.lt
    have c0 := B.cell 0
    have c1 := B.cell 1
    have f1 := B.frozen 1
    simp at c0 c1
    obtain ⟨d0, d1, d2, d3⟩ := ((unhide HD).toks.gb (gb_below none hbw) (by simp)) i d (unhide Ht)
    have B2 := (unhide HB0).below hb (by simp)
    have a0 := B2.cell 0
    have a1 := B2.cell 1
    have a2 := B2.cell 2
    have a3 := B2.cell 3
    have g0 := B2.frozen 0
    have g1 := B2.frozen 1
    have g2 := B2.frozen 2
    have g3 := B2.frozen 3
    simp at a0 a1 a2 a3
    have htr := (unhide HD).ne
    rw [hw] at d3
    rw [hk] at d2
    have HB2 := hide B2
    clear h0 hb hbw B B2
    go_wp2_with fail
    go_region
    all_goals
      go_wp2_with fail
      have FIN := (((((unhide HB2).other ⟨r, 1, none⟩ (.int .i64 ((i : Int) + 1)) (by simp; omega)).set 0 (.string ⟨d.s.toArray⟩)).set 1 (.int .i64 d.at_)).set 2 (.int .u8 97)).set 3 (.int .i64 0)
      have p0 := FIN.drew.cell 0
      have p1 := FIN.drew.cell 1
      have p2 := FIN.drew.cell 2
      have p3 := FIN.drew.cell 3
      simp at p0 p1 p2 p3
      have FS := (((((unhide hS).1.set w.heap.size 0 (.string ⟨d.s.toArray⟩) (by omega) (by omega)).set w.heap.size 1 (.int .i64 d.at_) (by omega) (by omega)).set w.heap.size 2 (.int .u8 97) (by omega) (by omega)).set w.heap.size 3 (.int .i64 0) (by omega) (by omega)).drew
      have FG := gb_trans (gb_set_new (gb_set_new (gb_set_new (gb_set_new (unhide hS).2 ⟨w.heap.size, 0, none⟩ (.string ⟨d.s.toArray⟩) (by simp)) ⟨w.heap.size, 1, none⟩ (.int .i64 d.at_) (by simp)) ⟨w.heap.size, 2, none⟩ (.int .u8 97) (by simp)) ⟨w.heap.size, 3, none⟩ (.int .i64 0) (by simp)) (gb_drew _ (some r))
      refine bodyPost_ret (by simp [results, Tryz.results168, go_sem, p0, p1, p2, p3, dnV]) rfl ⟨rfl, FS, FG⟩

theorem dnsCells_snoc (l : List Th.Tok) (t : Th.Tok) : dnsCells (l ++ [t]) = dnsCells l ++ dnCells t := by simp [dnsCells]

theorem dname_one (t : Th.Tok) : ∀ x ∈ dnCells t, x.oneCell' = true := by
  intro x hx
  simp [dnCells] at hx
  rcases hx with rfl | rfl | rfl | rfl <;> rfl

theorem drest_le {w : World} {r tb : Nat} {L : List Th.DP} {st : Th.St} (h : DS w r tb L st) : st.rest.length ≤ 100000 := by
  obtain ⟨cap, i, b, h, ha⟩ := h
  have hlen := h.good.len
  rcases ha with ⟨_, rfl⟩ | ⟨p, _, _, rfl⟩
  · have : ∀ l : List Th.DP, (Th.cutL l).length ≤ l.length := by
      intro l
      induction l with
      | nil => simp [Th.cutL]
      | cons d l ih => rw [Th.cutL]; split <;> simp <;> omega
    have h2 := this (L.drop i)
    rw [List.length_drop] at h2
    simp only [Th.stAt]
    omega
  · simp

set_option maxRecDepth 100000 in
set_option maxHeartbeats 2000000 in
theorem dnames_full {w : World} {r tb : Nat} {L : List Th.DP} {st : Th.St} (h : DS w r tb L st) :
    Calls Tryz.prog 169 #[.pointer (some ⟨r, 0, none⟩)] w fun e w' => ∃ v, e = .returned v ∧ ((Th.pnames st).1 = [] → v = .slice none 0 0) ∧ w'.ownsRow w.heap.size 108 4 v (Th.pnames st).1.length (dnsCells (Th.pnames st).1) ∧
      DS w' r tb L (Th.pnames st).2 ∧ w.grownBy w' (some r) := by
  have hrl := h.lt
  have htl := h.tlt
  have hlen := drest_le h
  obtain ⟨i0, hi, hz0, hz1, hz2⟩ := info_parts infoDTok
  have HI := hide hi; clear hi
  have HZ := hide (And.intro hz0 (And.intro hz1 hz2)); clear hz0 hz1 hz2
  have H := hide h; clear h
  go_enter Tryz.func169, Tryz.ntmps169
  go_wp2_with fail
  go_loopg [3] st.rest.length (fun k v wr => ∃ (l : List Th.Tok) (s1 : Th.St), DS wr r tb L s1 ∧ s1.rest.length ≤ k ∧ l.length + s1.rest.length ≤ 100000 ∧ wr.ownsRow w.heap.size 108 4 v l.length (dnsCells l) ∧ w.grownBy wr (some r) ∧ (l = [] → v = .slice none 0 0) ∧ Th.pnames st = (l ++ (Th.pnames s1).1, (Th.pnames s1).2))
  case atStart => exact ⟨[], st, unhide H, Nat.le_refl _, by simpa using hlen, World.ownsRow_nil _ _ _ _, gb_refl _ _, fun _ => rfl, by simp⟩
  case round =>
    obtain ⟨l, s1, hs, hk, hl, hown, hg, hnil, he⟩ := hrel
    have Hnil := hide hnil
    clear hnil
    have Hs := hide hs
    have He := hide he
    have Hg := hide hg
    have Ho := hide hown
    have Hp := hide (Th.pnames_kind s1)
    cases hv : s1.kind 2
    · have Hv := hide hv
      clear he hg hown hv
      go_wp2_with fail
      refine (dkind_any hs 97 2 (.inl ⟨rfl, rfl⟩)).mono ?_
      rintro e w1 ⟨rfl, hb⟩
      rw [unhide Hv]
      have Hb := hide hb
      clear hs hb
      go_wp2_with fail
      go_ret
      have e := unhide He
      rw [unhide Hp, unhide Hv] at e
      simp only [Bool.false_eq_true, if_false, List.append_nil] at e
      rw [e]
      exact ⟨_, rfl, unhide Hnil, (unhide Ho).kept (gb_below none (unhide Hb)) (own_none _), (unhide Hs).below (unhide Hb), gb_trans (unhide Hg) (gb_below _ (unhide Hb))⟩
    · have Hv := hide hv
      clear he hg hown hv
      go_wp2_with fail
      refine (dkind_any hs 97 2 (.inl ⟨rfl, rfl⟩)).mono ?_
      rintro e w1 ⟨rfl, hb⟩
      rw [unhide Hv]
      have Hb := hide hb
      have hs1 := (unhide Hs).below hb
      clear hs hb
      go_wp2_with fail
      refine (dname_any hs1).mono ?_
      rintro e w2 ⟨rfl, hs2, hg2⟩
      have e2 : Th.pname s1 = (s1.hd, s1.adv) := by simp [Th.pname, unhide Hv]
      rw [e2] at hs2 ⊢
      have He2 : Hid (Th.pnames st = ((l ++ [s1.hd]) ++ (Th.pnames s1.adv).1, (Th.pnames s1.adv).2)) := hide (by rw [unhide He, unhide Hp, unhide Hv]; simp)
      have hl2 := kind_len (by omega) (unhide Hv)
      have hown2 := ((unhide Ho).kept (gb_below none (unhide Hb)) (own_none _)).kept hg2 (own_ne (unhide Ho) hrl)
      have hg3 := gb_trans (gb_trans (unhide Hg) (gb_below _ (unhide Hb))) hg2
      have hsz := hg3.size
      have Hs2 := hide hs2
      have Hg3 := hide hg3
      clear hs1 hs2 hg2 e2 hg3 Hp
      generalize s1.hd = x at *
      generalize s1.adv = s2 at *
      simp only [dnV]
      have hown3 := hown2.alloc (.cells #[.string ⟨x.s.toArray⟩, .int .i64 x.at_, .int .u8 (if x.k = 2 then 97 else 0 : Nat), .int .i64 0] 108)
      generalize hq : (if x.k = 2 then 97 else 0 : Nat) = kk at *
      have Hq := hide hq
      clear hq
      go_wp2_with (at_builtin; refine wpList_append_own _ rfl _ _ 109 rfl w.heap.size 108 i0 _ 4 40 Tryz.underlying109 (unhide HI) (unhide HZ).1 (unhide HZ).2.1 (unhide HZ).2.2 rfl (by decide) _ _ _ rfl hown3 ⟨w2.heap.size, 0, none⟩ 1 1 [.string ⟨x.s.toArray⟩, .int .i64 x.at_, .int .u8 kk, .int .i64 0] rfl rfl (World.news_of_block (cs := #[.string ⟨x.s.toArray⟩, .int .i64 x.at_, .int .u8 kk, .int .i64 0]) (t := 108) (fr := (0, 0)) (heap_alloc_new w2 _)) four_one (by unfold maxLen; omega) (by omega) (by simp; omega) ?_; intro v' w3 hown' hgrow _)
      go_roundg s2.rest.length
      case measure => omega
      case rel =>
        refine ⟨l ++ [x], s2, ((unhide Hs2).alloc _).gb hgrow (own_row hown3 hrl) (own_row hown3 htl), Nat.le_refl _, by simp; omega, ?_, gb_own (gb_trans (unhide Hg3) (gb_alloc _ _ _)) hown3 hgrow, fun e => by simp at e, unhide He2⟩
        rw [dnsCells_snoc, List.length_append, dnCells, unhide Hq]
        exact hown'

theorem dnames_any {w : World} {r tb : Nat} {L : List Th.DP} {st : Th.St} (h : DS w r tb L st) :
    Calls Tryz.prog 169 #[.pointer (some ⟨r, 0, none⟩)] w fun e w' => ∃ v, e = .returned v ∧ w'.ownsRow w.heap.size 108 4 v (Th.pnames st).1.length (dnsCells (Th.pnames st).1) ∧
      DS w' r tb L (Th.pnames st).2 ∧ w.grownBy w' (some r) :=
  (dnames_full h).mono fun _ _ ⟨v, h1, _, h3⟩ => ⟨v, h1, h3⟩

end Go.Proofs.YtgahgkddaljmkaaGreatDoor

namespace Go.Proofs.YtgahgkddaljmkaaGreatDoor
open Go.RowKit
attribute [local go_sem ↓] Go.wp_at_zero Go.wp_at_succ

set_option maxRecDepth 100000 in
set_option maxHeartbeats 2000000 in
theorem dnumber_any {w : World} {r tb : Nat} {L : List Th.DP} {st : Th.St} (h : DS w r tb L st) (lo hi : Nat) (_hlo : lo ≤ 2147483647) (_hhi : hi ≤ 2147483647) :
    Calls Tryz.prog 260 #[.pointer (some ⟨r, 0, none⟩), .int .i64 lo, .int .i64 hi] w fun e w' => e = .returned (.int .i64 (Th.pnumber lo hi st).1) ∧ DS w' r tb L (Th.pnumber lo hi st).2 ∧ w.grownBy w' (some r) := by
  have H := hide h
  cases hi3 : st.kind 3
  · have Hi := hide hi3
    have e0 : Th.pnumber lo hi st = (0, st.fail) := by simp [Th.pnumber, hi3]
    rw [e0]
    clear hi3 e0
    go_enter Tryz.func260, Tryz.ntmps260
    go_wp2_with fail
    refine (dkind_any h 48 3 (.inr ⟨rfl, rfl⟩)).mono ?_
    rintro e w1 ⟨rfl, hb⟩
    rw [unhide Hi]
    have Hs1 := hide (h.below hb)
    have Hb := hide hb
    clear h hb
    go_wp2_with fail
    go_quiet (fail)
    go_wp2_with fail
    refine (dfail_any ((unhide Hs1).below (below_drewN (Below.refl _ _) _))).mono ?_
    rintro e w2 ⟨rfl, hs2, hg2⟩
    have Hs2 := hide hs2
    have Hg2 := hide hg2
    clear hs2 hg2
    go_wp2_with fail
    go_ret
    exact ⟨rfl, unhide Hs2, gb_trans (gb_below _ (below_drewN (unhide Hb) _)) (unhide Hg2)⟩
  · obtain ⟨cap, i, d, hd, ht, rfl⟩ := h.at (kind_bad hi3)
    have hk := kind3_not ht hi3
    have hk3 : d.k ≠ 33 := by omega
    obtain ⟨hnv, hn9, hdg⟩ := hd.good.num d (List.mem_of_getElem? ht) hk
    have hsm := val_small d.s hn9 hdg
    have ehd : (Th.stAt L i).hd.s = d.s := by rw [Th.stAt_tok ht hk3]
    have ep : Th.pnumber lo hi (Th.stAt L i) = if lo ≤ d.n ∧ d.n ≤ hi then (d.n, (Th.stAt L i).adv) else (0, (Th.stAt L i).fail) := by
      rw [Th.pnumber, hi3, ehd, ← hnv]
      by_cases h1 : lo ≤ d.n <;> by_cases h2 : d.n ≤ hi <;> simp [h1, h2]
    obtain ⟨q, hq⟩ : ∃ q, Th.pnumber lo hi (Th.stAt L i) = q := ⟨_, rfl⟩
    rw [hq]
    rw [hq] at ep
    have HQ := hide ep
    rw [← hnv] at hsm
    have hl := hd.lt
    have hn := hd.good.len
    have Hi := hide hi3
    have HD := hide hd
    have Ht := hide ht
    clear hi3 hd ht ep ehd hnv hn9 hdg hk hq
    go_enter Tryz.func260, Tryz.ntmps260
    go_wp2_with fail
    refine (dkind_any h 48 3 (.inr ⟨rfl, rfl⟩)).mono ?_
    rintro e w1 ⟨rfl, hb⟩
    rw [unhide Hi]
    have Hs1 := hide (h.below hb)
    have Hb := hide hb
    have B := (unhide HD).blk.below hb (unhide HD).blk.lt
    have c0 := B.cell 0
    have c1 := B.cell 1
    have f1 := B.frozen 1
    simp at c0 c1
    obtain ⟨d0, d1, d2, d3⟩ := ((unhide HD).toks.gb (gb_below none hb) (by simp)) i d (unhide Ht)
    have htr := (unhide HD).ne
    clear h hb B d0 d1 d2
    by_cases h1 : d.n < lo
    · have l1 : ((d.n : Int) < (lo : Int)) = True := by simp; omega
      have e1 := unhide HQ
      rw [if_neg (by omega)] at e1
      have HQ1 := hide e1
      clear h1 e1
      go_wp2_with fail
      go_quiet (fail)
      go_wp2_with fail
      refine (dfail_any ((unhide Hs1).below (below_drewN (Below.refl _ _) _))).mono ?_
      rintro e w2 ⟨rfl, hs2, hg2⟩
      have Hs2 := hide hs2
      have Hg2 := hide hg2
      clear hs2 hg2 c0 c1 f1 d3
      go_wp2_with fail
      go_ret
      rw [unhide HQ1]
      exact ⟨rfl, unhide Hs2, gb_trans (gb_below _ (below_drewN (unhide Hb) _)) (unhide Hg2)⟩
    · have l1 : ((d.n : Int) < (lo : Int)) = False := by simp; omega
      by_cases h2 : hi < d.n
      · have l2 : ((hi : Int) < (d.n : Int)) = True := by simp; omega
        have e1 := unhide HQ
        rw [if_neg (by omega)] at e1
        have HQ1 := hide e1
        clear h1 h2 e1
        go_wp2_with fail
        go_quiet (fail)
        go_wp2_with fail
        refine (dfail_any ((unhide Hs1).below (below_drewN (Below.refl _ _) _))).mono ?_
        rintro e w2 ⟨rfl, hs2, hg2⟩
        have Hs2 := hide hs2
        have Hg2 := hide hg2
        clear hs2 hg2 c0 c1 f1 d3
        go_wp2_with fail
        go_ret
        rw [unhide HQ1]
        exact ⟨rfl, unhide Hs2, gb_trans (gb_below _ (below_drewN (unhide Hb) _)) (unhide Hg2)⟩
      · have l2 : ((hi : Int) < (d.n : Int)) = False := by simp; omega
        have e1 := unhide HQ
        rw [if_pos (by omega)] at e1
        have HQ1 := hide e1
        clear h1 h2 e1
        go_wp2_with fail
        go_quiet (fail)
        have hS := hide ((unhide HD).step (unhide Ht) hk3 (below_drewN (unhide Hb) nq))
        go_wp2_with fail
        go_region
        all_goals
          go_wp2_with fail
          go_ret
          rw [unhide HQ1]
          exact ⟨rfl, (unhide hS).1.drew, gb_trans (unhide hS).2 (gb_drew _ _)⟩

end Go.Proofs.YtgahgkddaljmkaaGreatDoor
