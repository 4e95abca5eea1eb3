/- (*strings.Builder).WriteString, laid over this program's numbers. Package show: Program; thunk.Show. Show, of the program and of the document: the same answer to every source. The law Shows: its steps. -/
import Derived.Test.YtgahgkddaljmkaaGreatDoorShelf
import Derived.Shelf.Strings.BuilderK
import Derived.Test.YtgahgkddaljmkaaGreatDoorE4
import Derived.Test.YtgahgkddaljmkaaGreatDoorE1
import Derived.Test.YtgahgkddaljmkaaGreatDoorA8
import Derived.Lib.AppendIntMem
import Derived.Test.YtgahgkddaljmkaaGreatDoorD1
import Derived.Test.YtgahgkddaljmkaaGreatDoorA9
import Derived.Test.YtgahgkddaljmkaaGreatDoorC8
namespace Go.Proofs
open Go.Shelf Go.RowKit
def Tryz.writeS_ren : Go.Shelf.Ren := ⟨fun | 166 => 62 | 240 => 108 | 276 => 181 | n => n, fun | 70 => 117 | 72 => 120 | 37 => 118 | 75 => 122 | 80 => 127 | 164 => 308 | 20 => 20 | 9 => 9 | 5 => 5 | 4 => 4 | 3 => 3 | 0 => 0 | n => n, fun | n => n⟩
theorem Tryz.writeS : Go.Proofs.Lays.n166 Tryz.prog Tryz.writeS_ren := {
  mixed := by kernel_rfl
  f166 := Tryz.func62.trans (congrArg some (by kernel_rfl))
  f240 := Tryz.func108.trans (congrArg some (by kernel_rfl))
  f276 := Tryz.func181.trans (congrArg some (by kernel_rfl))
  t0 := Tryz.underlying0
  a0 := Tryz.isAgg0
  z0 := Tryz.sizeOf0
  v0 := Tryz.zeroValue0
  t3 := Tryz.underlying3
  a3 := Tryz.isAgg3
  z3 := Tryz.sizeOf3
  v3 := Tryz.zeroValue3
  t4 := Tryz.underlying4
  a4 := Tryz.isAgg4
  z4 := Tryz.sizeOf4
  v4 := Tryz.zeroValue4
  t9 := Tryz.underlying9
  a9 := Tryz.isAgg9
  z9 := Tryz.sizeOf9
  v9 := Tryz.zeroValue9
  t20 := Tryz.underlying20
  a20 := Tryz.isAgg20
  z20 := Tryz.sizeOf20
  v20 := Tryz.zeroValue20
  t37 := Tryz.underlying118
  a37 := Tryz.isAgg118
  z37 := Tryz.sizeOf118
  v37 := Tryz.zeroValue118
  t70 := Tryz.underlying117
  a70 := Tryz.isAgg117
  z70 := Tryz.sizeOf117
  v70 := Tryz.zeroValue117
  t72 := Tryz.underlying120
  a72 := Tryz.isAgg120
  z72 := Tryz.sizeOf120
  v72 := Tryz.zeroValue120
  t75 := Tryz.underlying122
  a75 := Tryz.isAgg122
  z75 := Tryz.sizeOf122
  v75 := Tryz.zeroValue122
  t164 := Tryz.underlying308
  a164 := Tryz.isAgg308
  z164 := Tryz.sizeOf308
  v164 := Tryz.zeroValue308
  }
theorem Tryz.writeX : Builder.Extra Tryz.prog Tryz.writeS_ren := {
  sizeBuilder := by kernel_rfl
  liesBuilder := by kernel_rfl
  t5 := Tryz.underlying5
  a5 := Tryz.isAgg5
  z5 := Tryz.sizeOf5
  v5 := Tryz.zeroValue5
  infoByte := by kernel_rfl
  cellsByte := by kernel_rfl
  sizeByte := by kernel_rfl
  neB5 := by decide }
theorem Tryz.writeString (B b : Nat) (bs : List Value) (s : ByteArray) (w : World) (h : Lib.IsBuilder 120 5 B b bs w) (hlen : bs.length + s.size ≤ 140737488355328) (hBw : B ≤ w.heap.size) :
    Calls Tryz.prog 62 #[.pointer (some ⟨b, 0, none⟩), .string s] w fun e w' => e = .returned (.tuple #[.int .i64 s.size, .nilIface]) ∧ (Lib.BuilderAt 120 5 B b (.pointer (some ⟨b, 0, none⟩)) (bs ++ Lib.strCells s) w' ∧ Below B w w') :=
  Any.Builder_WriteString Tryz.writeS Tryz.writeX B b bs s w h hlen hBw
theorem Tryz.writeStringK (B b : Nat) (bs : List Value) (s : ByteArray) (w : World) (h : Lib.IsBuilderF 120 5 B b bs w) (hlen : bs.length + s.size ≤ 140737488355328) (hBw : B ≤ w.heap.size) :
    Calls Tryz.prog 62 #[.pointer (some ⟨b, 0, none⟩), .string s] w fun e w' => e = .returned (.tuple #[.int .i64 s.size, .nilIface]) ∧ (Lib.BuilderAtF 120 5 B b (.pointer (some ⟨b, 0, none⟩)) (bs ++ Lib.strCells s) w' ∧ Below B w w' ∧ Lib.OthersKept 5 (some b) w w') :=
  Any.Builder_WriteString_k Tryz.writeS Tryz.writeX B b bs s w h hlen hBw
end Go.Proofs

namespace Go.Proofs.YtgahgkddaljmkaaGreatDoor
open Go.RowKit
attribute [local go_sem ↓] Go.wp_at_zero Go.wp_at_succ

/-- A builder that was written: what leaves it as it is. -/
theorem bld_gb {T e : TypeId} {B b : Nat} {bs : List Value} {w w' : World} (h : Lib.IsBuilderF T e B b bs w) (hg : w.grownBy w' none) : Lib.IsBuilderF T e B b bs w' := by
  rcases h with ⟨h1, v, h2, h3, h4⟩ | ⟨h1, v, h2, h3, h4⟩
  · exact .inl ⟨h1, v, by rw [hg.block b (Array.getElem?_eq_some_iff.1 h2).1 (by simp)]; exact h2, h3.kept hg (own_none _), h4⟩
  · exact .inr ⟨h1, v, by rw [hg.block b (Array.getElem?_eq_some_iff.1 h2).1 (by simp)]; exact h2, h3.kept hg (own_none _), h4⟩
theorem bld_lt {T e : TypeId} {B b : Nat} {bs : List Value} {w : World} (h : Lib.IsBuilderF T e B b bs w) : b < w.heap.size := by
  rcases h with ⟨_, v, h2, _⟩ | ⟨_, v, h2, _⟩ <;> exact (Array.getElem?_eq_some_iff.1 h2).1

set_option maxRecDepth 100000 in
set_option maxHeartbeats 8000000 in
theorem pprogram_any {w : World} {pv : Value} {l : List Th.Line} {S : Nat → Prop} {M : Nat} (ht : Tab w) (hr : ProgRep S w pv l) (hw : ∀ x ∈ l, Th.Wf M x.e) (hst : ∀ k, M ≤ k → Th.progText k l = Th.progText M l) (hll : l.length ≤ 1000000) (hpar : ∀ x ∈ l, x.params.length ≤ 1000000) (hl : (Th.progText M l).length ≤ 1000000) :
    Calls Tryz.prog 40 #[pv] w fun e w' => e = .returned (.string ⟨(Th.progText M l).toArray⟩) ∧ Below w.heap.size w w' := by
  obtain ⟨nvs, bvs, m, hn1, hn2, hrow, hlr⟩ := hr
  have HST := hide (hst (M + m) (by omega))
  have hl' : (Th.progText (M + m) l).length ≤ 1000000 := by rw [unhide HST]; exact hl
  have hsh := row_shape hrow
  have CROW := hide (fun (W : World) (hW : Below w.heap.size w W) => hrow.1.kept (gb_below none hW) (own_none _))
  have HN := hide (And.intro hn1 hn2)
  have LINE : Hid (∀ (j : Nat) (y : Th.Line) (nv bv : Value), l[j]? = some y → nvs[j]? = some nv → bvs[j]? = some bv → (Th.spaced y.params).length ≤ 1000000 → (Th.text (M + m) y.e).length ≤ 1000000 → (∃ xa xk xc, nv = .slice xa xk xc) ∧ (∃ t x, bv = .iface t x) ∧
      (∀ W : World, Below w.heap.size w W → Calls Tryz.prog 63 #[nv] W fun e w' => e = .returned (.string ⟨(Th.spaced y.params).toArray⟩) ∧ Below W.heap.size W w') ∧
      (∀ W : World, Below w.heap.size w W → Calls Tryz.prog 64 #[bv] W fun e w' => e = .returned (.string ⟨(Th.text (M + m) y.e).toArray⟩) ∧ Below W.heap.size W w')) := hide (by
    intro j y nv bv h1 h2 h3 h4 h5
    obtain ⟨r1, r2⟩ := hlr j y nv bv h1 h2 h3
    have hm := List.mem_of_getElem? h1
    exact ⟨row_slice r1, rep_iface r2, fun W hW => pspaced_any (r1.gb (gb_below none hW) (by simp)) (hpar y hm) h4, fun W hW => pexpr_any (M + m) W _ bv y.e (ht.below hW) ((r2.le (by omega)).gb (gb_below none hW) (by simp)) ((hw y hm).le (by omega)) h5⟩)
  clear hrow hlr hn1 hn2 hst hw hpar ht
  have HF := hide (Lib.IsBuilderF.of (Lib.fresh_isBuilder 120 5 w))
  have HBa := hide (below_alloc w (.cells #[.pointer none, .slice none 0 0] 120))
  rcases hsh with rfl | ⟨g, cap, rfl⟩
  · have hl0 : l = [] := by
      rcases (unhide CROW w (Below.refl _ _)).2 with ⟨_, h0⟩ | ⟨_, _, _, h0, _⟩
      · exact List.length_eq_zero_iff.1 h0
      · cases h0
    have CS := hide (Tryz.Builder_String_any_f w.heap.size w.heap.size [] _ (unhide HF) (unhide HBa).size)
    go_enter Tryz.func40, Tryz.ntmps40
    go_wp2_with fail
    refine wp_loop_rounds 1 ?_
    rw [rounds_succ]
    go_wp2_with fail
    refine (unhide CS).mono ?_
    rintro e w2 ⟨rfl, _, b2⟩
    have HB2 := hide ((unhide HBa).trans (b2.mono (Nat.le_refl _)))
    clear b2
    go_wp2_with fail
    go_ret
    exact ⟨by rw [hl0]; rfl, unhide HB2⟩
  · go_enter Tryz.func40, Tryz.ntmps40
    go_wp2_with fail
    go_loopg [8] l.length (fun gk iv wr => ∃ i : Nat, iv = .int .i64 i ∧ i ≤ l.length ∧ l.length - i ≤ gk ∧ Lib.IsBuilderF 120 5 w.heap.size w.heap.size (Lib.byteCells (Th.progText (M + m) (l.take i))) wr ∧ Below w.heap.size w wr)
    case atStart => exact ⟨0, rfl, Nat.zero_le _, by omega, unhide HF, unhide HBa⟩
    case round =>
      obtain ⟨i, rfl, hi, hgk, hbl, hb⟩ := hrel
      have HB := hide hb
      have HBL := hide hbl
      have hbs := bld_lt hbl
      have hzr := hb.size
      have hrow := unhide CROW wr hb
      by_cases hlt : i < l.length
      · obtain ⟨y, hy⟩ : ∃ y, l[i]? = some y := ⟨l[i], List.getElem?_eq_getElem hlt⟩
        obtain ⟨nv, hnv⟩ : ∃ x, nvs[i]? = some x := ⟨nvs[i]'(by have := unhide HN; omega), List.getElem?_eq_getElem (by have := unhide HN; omega)⟩
        obtain ⟨bv, hbv⟩ : ∃ x, bvs[i]? = some x := ⟨bvs[i]'(by have := unhide HN; omega), List.getElem?_eq_getElem (by have := unhide HN; omega)⟩
        have hc := lineCells_get l nvs bvs i y nv bv hy hnv hbv
        have y0 := (hrow.cellAt (i * 4) (by omega)).trans hc.1
        have y1 := (hrow.cellAt (i * 4 + 1) (by omega)).trans hc.2.1
        have y2 := (hrow.cellAt (i * 4 + 2) (by omega)).trans hc.2.2.1
        have y3 := (hrow.cellAt (i * 4 + 3) (by omega)).trans hc.2.2.2
        have hgl := (hrow.lt g rfl).2
        have HS := hide (Th.progText_take (n := M + m) hy)
        have HSS := HS
        have hle := Th.progText_le (M + m) l (i + 1)
        rw [unhide HS] at hle
        simp only [Th.lineText, List.length_append, List.length_cons, List.length_nil] at hle
        obtain ⟨⟨xa, xk, xc, rfl⟩, ⟨yt, yx, rfl⟩, cl, ctx⟩ := unhide LINE i y nv bv hy hnv hbv (by omega) (by omega)
        have hi0 : (0 : Int) ≤ (i : Int) := by omega
        have hil : (i : Int) < (l.length : Int) := by omega
        obtain ⟨TS, hTS⟩ : ∃ J : ByteArray, J = ⟨y.name.s.toArray⟩ := ⟨_, rfl⟩
        obtain ⟨SP, hSP⟩ : ∃ J : ByteArray, J = ⟨(Th.spaced y.params).toArray⟩ := ⟨_, rfl⟩
        obtain ⟨TX, hTX⟩ : ∃ J : ByteArray, J = ⟨(Th.text (M + m) y.e).toArray⟩ := ⟨_, rfl⟩
        obtain ⟨J2, hJ2⟩ : ∃ J, J = TS ++ SP := ⟨_, rfl⟩
        obtain ⟨J3, hJ3⟩ : ∃ J, J = J2 ++ ⟨#[32, 61, 32]⟩ := ⟨_, rfl⟩
        obtain ⟨J4, hJ4⟩ : ∃ J, J = J3 ++ TX := ⟨_, rfl⟩
        obtain ⟨J5, hJ5⟩ : ∃ J, J = J4 ++ ⟨#[59, 10]⟩ := ⟨_, rfl⟩
        have HE : Hid (J5 = ⟨(Th.lineText (M + m) y).toArray⟩) := hide (by
          rw [hJ5, hJ4, hJ3, hJ2, hTX, hSP, hTS]
          simp only [bstr_app, Th.lineText])
        have s2 : J2.size = TS.size + SP.size := by rw [hJ2]; exact ByteArray.size_append
        have s3 : J3.size = J2.size + 3 := by rw [hJ3]; exact ByteArray.size_append
        have s4 : J4.size = J3.size + TX.size := by rw [hJ4]; exact ByteArray.size_append
        have s5 : J5.size = J4.size + 2 := by rw [hJ5]; exact ByteArray.size_append
        have hJz : J5.size ≤ 1000000 := by
          have := congrArg ByteArray.size (unhide HE)
          rw [this, bsize]
          simp only [Th.lineText, List.length_append, List.length_cons, List.length_nil]
          omega
        have q2 := cat_run hJ2 (by omega)
        have q3 := cat_run hJ3 (by omega)
        have q4 := cat_run hJ4 (by omega)
        have q5 := cat_run hJ5 (by omega)
        have hpz : (Th.progText (M + m) (l.take i)).length ≤ 1000000 := by omega
        rw [← hTS] at y0
        rw [← hSP] at cl
        rw [← hTX] at ctx
        have CL := hide cl
        have CT := hide ctx
        have hb1 := hb.alloc hzr (.cells #[.string TS, .int .i64 y.name.at_, .slice xa xk xc, .iface yt yx] 93)
        have Hb1 := hide hb1
        have hs1 := hb1.size
        have HBL1 := hide (bld_gb hbl (gb_alloc wr (.cells #[.string TS, .int .i64 y.name.at_, .slice xa xk xc, .iface yt yx] 93) none))
        have HC := hide (Blk.new wr [.string TS, .int .i64 y.name.at_, .slice xa xk xc, .iface yt yx] 93)
        clear hrow hy hnv hbv hc cl ctx hb HS hle hTS hSP hTX hJ2 hJ3 hJ4 hJ5 s2 s3 s4 s5 hb1 hbl
        go_wp2_with fail
        go_region_held3 (fun W => W.cell? ⟨wr.heap.size, 0, none⟩ = some (.string TS) ∧ W.cell? ⟨wr.heap.size, 2, none⟩ = some (.slice xa xk xc) ∧ W.cell? ⟨wr.heap.size, 3, none⟩ = some (.iface yt yx)) (go_keep) (first
          | (go_at_call 63; refine (unhide CL _ ?_).mono ?_; exact (unhide Hb1).drew; rintro e3 w3 ⟨rfl, b3⟩; have b3' := (unhide Hb1).drew.trans (b3.mono hs1); have HB3 := hide b3'; have HBL3 := hide (bld_gb (unhide HBL1) (gb_trans (gb_drew _ none) (gb_below none b3))); have hc3 := (unhide HC).drew.below b3 (by simp); have HC3 := hide hc3; have a30 := hc3.cell 0; have a32 := hc3.cell 2; have a33 := hc3.cell 3; simp at a30 a32 a33; have hs3 := b3'.size; clear b3 b3' hc3)
          | (go_at_call 64; refine (unhide CT _ ?_).mono ?_; exact unhide HB3; rintro e4 w4 ⟨rfl, b4⟩; have b4' := (unhide HB3).trans (b4.mono hs3); have HB4 := hide b4'; have HBL4 := hide (bld_gb (unhide HBL3) (gb_below none b4)); have hc4 := (unhide HC3).below b4 (unhide HC3).lt; have HC4 := hide hc4; have a40 := hc4.cell 0; have a42 := hc4.cell 2; have a43 := hc4.cell 3; simp at a40 a42 a43; have hs4 := b4'.size; clear b4 b4' hc4)
          | (go_at_call 62; refine (Tryz.writeStringK w.heap.size w.heap.size _ _ _ (unhide HBL4) ?_ hs4).mono ?_; (rw [Lib.byteCells_length]; omega); rintro e5 w5 ⟨rfl, bl5, b5, ok5⟩; have HBL5 := hide bl5; have HB5 := hide ((unhide HB4).trans b5); have hc5 := ok5 _ _ (unhide HC4) (by intro h; injection h with h; omega) (fun c fz h => by injection h with _ h2 _; exact absurd h2 (by decide)); have a50 := Blk.cell (w := w5) (b := wr.heap.size) (vs := [.string TS, .int .i64 y.name.at_, .slice xa xk xc, .iface yt yx]) (t := 93) hc5 0; have a52 := Blk.cell (w := w5) (b := wr.heap.size) (vs := [.string TS, .int .i64 y.name.at_, .slice xa xk xc, .iface yt yx]) (t := 93) hc5 2; have a53 := Blk.cell (w := w5) (b := wr.heap.size) (vs := [.string TS, .int .i64 y.name.at_, .slice xa xk xc, .iface yt yx]) (t := 93) hc5 3; simp at a50 a52 a53; clear b5 bl5 ok5 hc5))
        all_goals
          go_wp2_with fail
          go_roundg (l.length - (i + 1))
          case measure => omega
          case rel =>
            refine ⟨i + 1, by go_num, by omega, Nat.le_refl _, ?_, unhide HB5⟩
            have hx := unhide HBL5
            rw [unhide HE, Lib.strCells_toArray, ← Lib.byteCells_append, ← unhide HSS] at hx
            exact .inr hx
      · have hil : i = l.length := by omega
        have HE : Hid (Th.progText (M + m) (l.take i) = Th.progText M l) := hide (by rw [hil, List.take_of_length_le (Nat.le_refl _)]; exact unhide HST)
        rw [unhide HE] at hbl
        have CS := hide (Tryz.Builder_String_any_f w.heap.size w.heap.size _ wr hbl hzr)
        clear hb hil hrow hbl
        go_wp2_with fail
        refine (unhide CS).mono ?_
        rintro e w2 ⟨rfl, _, b2⟩
        have HB2 := hide ((unhide HB).trans b2)
        clear b2
        go_wp2_with fail
        go_ret
        exact ⟨rfl, unhide HB2⟩

end Go.Proofs.YtgahgkddaljmkaaGreatDoor

namespace Go.Proofs.YtgahgkddaljmkaaGreatDoor
open Go.RowKit

set_option maxRecDepth 100000 in
theorem show_long {s : ByteArray} (h : 600 < s.size) (w : World) :
    Calls Tryz.prog 30 #[.string s] w fun e w' => e = .returned (.string ⟨#[]⟩) ∧ Below w.heap.size w w' := by
  go_enter Tryz.func30, Tryz.ntmps30
  go_wp2_with fail
  refine (read_long h w).mono ?_
  rintro e w1 ⟨rfl, rfl⟩
  go_wp2_with fail
  go_ret
  exact ⟨rfl, Below.refl _ _⟩

set_option maxRecDepth 100000 in
theorem show_no {s : ByteArray} {q : List Th.Line × Th.St} {N : Nat} (hs : s.size ≤ 600) (hp : Plain s q N) (h0 : (answer s.size q N).1 ≠ 0) (w : World) :
    Calls Tryz.prog 30 #[.string s] w fun e w' => e = .returned (.string ⟨#[]⟩) ∧ Below w.heap.size w w' := by
  have CON := hide (read_any hs hp w)
  clear hp hs
  obtain ⟨a, ha⟩ : ∃ a, answer s.size q N = a := ⟨_, rfl⟩
  unfold ReadPost at CON
  rw [ha] at CON h0
  obtain ⟨a1, a2⟩ := a
  have hne : ((a1 : Int) == 0) = false := by rw [beq_eq_false_iff_ne]; simp only at h0; omega
  clear ha h0
  go_enter Tryz.func30, Tryz.ntmps30
  go_wp2_with fail
  refine (unhide CON).mono ?_
  rintro e w1 ⟨hb, pv, rfl, ⟨a, k, c, rfl⟩, _⟩
  have Hb := hide hb
  clear hb CON
  go_wp2_with fail
  go_ret
  exact ⟨rfl, unhide Hb⟩

set_option maxRecDepth 100000 in
theorem show_yes {s : ByteArray} {q : List Th.Line × Th.St} {N M : Nat} (hs : s.size ≤ 600) (hp : Plain s q N) (h0 : (answer s.size q N).1 = 0) (hw : ∀ x ∈ q.1, Th.Wf M x.e) (hst : ∀ k, M ≤ k → Th.progText k q.1 = Th.progText M q.1) (hll : q.1.length ≤ 1000000) (hpar : ∀ x ∈ q.1, x.params.length ≤ 1000000) (hl : (Th.progText M q.1).length ≤ 1000000) (w : World) (ht : Tab w) :
    Calls Tryz.prog 30 #[.string s] w fun e w' => e = .returned (.string ⟨(Th.progText M q.1).toArray⟩) ∧ Below w.heap.size w w' := by
  have CON := hide (read_any hs hp w)
  clear hp hs
  have CP := hide (fun (w1 : World) (pv : Value) (hb : Below w.heap.size w w1) (hr : ProgRep (Since w) w1 pv q.1) => pprogram_any (ht.below hb) hr hw hst hll hpar hl)
  clear hw hst hll hpar ht hl
  obtain ⟨a, ha⟩ : ∃ a, answer s.size q N = a := ⟨_, rfl⟩
  unfold ReadPost at CON
  rw [ha] at CON h0
  obtain ⟨a1, a2⟩ := a
  simp only at h0
  subst h0
  clear ha
  go_enter Tryz.func30, Tryz.ntmps30
  go_wp2_with fail
  refine (unhide CON).mono ?_
  rintro e w1 ⟨hb, pv, rfl, ⟨a, k, c, rfl⟩, hrep⟩
  have CX := hide (unhide CP w1 _ hb (hrep trivial))
  have Hb := hide hb
  clear hb CON CP hrep
  go_wp2_with fail
  refine (unhide CX).mono ?_
  rintro e w2 ⟨rfl, b2⟩
  have HB2 := hide ((unhide Hb).trans (b2.mono (unhide Hb).size))
  clear b2
  go_wp2_with fail
  go_ret
  exact ⟨rfl, unhide HB2⟩

theorem toks_room : ∀ (n : Nat) (t : List UInt8) (p : Nat), Th.room (Th.toks n t p) ≤ 101 * t.length + 200
  | 0, t, p => by simp [Th.toks, Th.room]
  | n + 1, t, p => by
    have h1 := Th.takeWhile_add_drop Th.isBl t
    generalize hu : t.drop (t.takeWhile Th.isBl).length = u at h1
    have h2 := Th.first_len u
    have hd : Th.toks (n + 1) t p = ⟨(Th.first u).1, (Th.first u).2, p + (t.takeWhile Th.isBl).length⟩ :: (if (Th.first u).1 ≤ 1 then [] else Th.toks n (u.drop (Th.first u).2.length) (p + (t.takeWhile Th.isBl).length + (Th.first u).2.length)) := by
      rw [← hu]
      rfl
    rw [hd, Th.room_cons]
    by_cases hx : (Th.first u).1 ≤ 1
    · rw [if_pos hx]
      simp only [Th.room, List.map_nil, List.sum_nil]
      omega
    · rw [if_neg hx]
      have h3 := Th.first_pos _ hx
      have ih := toks_room n (u.drop (Th.first u).2.length) (p + (t.takeWhile Th.isBl).length + (Th.first u).2.length)
      rw [List.length_drop] at ih
      simp only
      omega

theorem good_TK {T : List Th.Tok} (h : Good T) : Th.TK ⟨T, none⟩ := by
  intro t ht hk
  obtain ⟨h1, h2⟩ := h.num t ht hk
  have h3 := val_lt t.s 0 h2
  have h4 : 10 ^ t.s.length ≤ 10 ^ 9 := Nat.pow_le_pow_right (by decide) h1
  show t.s.foldl (fun a c => 10 * a + (c.toNat - 48)) 0 ≤ 999999999
  omega

/-- A program that was read whole: its text is the same at every depth that is enough, and no longer than a string may be. -/
theorem shown_all {s : ByteArray} {q : List Th.Line × Th.St} {N : Nat} (hs : s.size ≤ 600) (hp : Plain s q N) (hb : q.2.bad = none) :
    ∃ M, (∀ x ∈ q.1, Th.Wf M x.e) ∧ (∀ k, M ≤ k → Th.progText k q.1 = Th.progText M q.1) ∧ q.1.length ≤ 1000000 ∧ (∀ x ∈ q.1, x.params.length ≤ 1000000) ∧ (Th.progText M q.1).length ≤ 1000000 := by
  obtain ⟨n, k, _, _, hq⟩ := hp.lines
  have hz : s.data.toList.length = s.size := by rw [Array.length_toList]; rfl
  have hr := toks_room (s.size + 1) s.data.toList 0
  rw [hz] at hr
  obtain ⟨M, h1, h2⟩ := Th.fit_lines k [] _ q (Th.B ⟨theToks s, none⟩) hq (good_TK hp.good) (fun _ => ⟨0, by simp, by simp [Th.progText]⟩) hb
  have hB : Th.B ⟨theToks s, none⟩ ≤ 101 * s.size + 200 := hr
  refine ⟨M, h1, fun k hk => Th.progText_stable h1 k hk, by omega, fun x hx => ?_, by omega⟩
  have h3 := Th.line_le M q.1 x hx
  have h4 := spaced_many x.params
  simp only [Th.lineText, List.length_append] at h3
  omega

theorem answer_ok {n : Nat} {q : List Th.Line × Th.St} {N : Nat} (h : (answer n q N).1 = 0) : q.2.bad = none := by
  unfold answer at h
  cases hb : q.2.bad with
  | none => rfl
  | some p => rw [hb] at h; simp at h

/-- The program's Show answers as the document's, to every source, in whatever world that has the table. -/
theorem shows_same (s : ByteArray) : ∃ t : ByteArray, (∀ w, Tab w → Calls Tryz.prog 30 #[.string s] w fun e w' => e = .returned (.string t) ∧ Below w.heap.size w w') ∧ (∀ w, Tab w → Calls Tryz.prog 37 #[.string s] w fun e w' => e = .returned (.string t) ∧ Below w.heap.size w w') := by
  rcases Nat.lt_or_ge 600 s.size with h | h
  · exact ⟨_, fun w _ => show_long h w, fun w _ => dshow_long h w⟩
  · obtain ⟨q, N, hp⟩ := plain_all s h
    by_cases h0 : (answer s.size q N).1 = 0
    · obtain ⟨M, h1, h2, h3, h4, h5⟩ := shown_all h hp (answer_ok h0)
      exact ⟨_, fun w ht => show_yes h hp h0 h1 h2 h3 h4 h5 w ht, fun w ht => dshow_yes h hp h0 h1 h2 h3 h4 h5 w ht⟩
    · exact ⟨_, fun w _ => show_no h hp h0 w, fun w _ => dshow_no h hp h0 w⟩

end Go.Proofs.YtgahgkddaljmkaaGreatDoor

namespace Go.Proofs.YtgahgkddaljmkaaGreatDoor
open Go.RowKit
attribute [local go_sem ↓] Go.wp_at_zero Go.wp_at_succ

set_option maxRecDepth 100000 in
set_option maxHeartbeats 2000000 in
theorem plays_show (s : ByteArray) (h f : Int) (w : World) (ht : Tab w) :
    Calls Tryz.prog 29 #[.agg #[.int .i64 2, .string s, .int .i64 h, .int .i64 f]] w fun e w' => e = .returned (.bool true) ∧ Below w.heap.size w w' := by
  obtain ⟨t, C1, C2⟩ := shows_same s
  have HBa := hide (below_alloc w (.cells #[.int .i64 2, .string s, .int .i64 h, .int .i64 f] 54))
  have H1 := hide (C1 _ (ht.below (unhide HBa)))
  have H2 := hide (fun (W : World) (hW : Below w.heap.size w W) => C2 W (ht.below hW))
  clear C1 C2 ht
  go_enter Tryz.func29, Tryz.ntmps29
  go_wp2_with fail
  refine (unhide H1).mono ?_
  rintro e w1 ⟨rfl, b1⟩
  have B0 := (Blk.new w [.int .i64 2, .string s, .int .i64 h, .int .i64 f] 54).below b1 (by simp)
  have c1 := B0.cell 1
  simp at c1
  have HB1 := hide ((unhide HBa).trans (b1.mono (by simp)))
  clear b1 B0
  go_wp2_with fail
  refine (unhide H2 _ (unhide HB1)).mono ?_
  rintro e w2 ⟨rfl, b2⟩
  have HB2 := hide ((unhide HB1).trans (b2.mono (unhide HB1).size))
  clear b2
  go_wp2_with fail
  go_ret
  exact ⟨by simp, unhide HB2⟩

/-- The source of the document's own example: its lines, plainly. -/
def exSrcS : ByteArray := ⟨#[109, 97, 105, 110, 61, 40, 49, 41, 59]⟩
def exLinesS : List Th.Line × Th.St := ([⟨⟨2, [109, 97, 105, 110], 0⟩, [], Th.mkNum 1⟩], ⟨[⟨0, [], 9⟩], none⟩)

theorem exS_plain : Plain exSrcS exLinesS 1 := by
  refine ⟨toks_all_good exSrcS (by decide), Th.toks_ne _ _ _, ⟨9, 9, by omega, by omega, by rfl⟩, fun _ => ⟨0, 9, ?_, by omega⟩⟩
  refine ⟨Nat.le_refl _, 1, 8, ?_, ?_, ?_⟩
  · show 1 ≤ 1; omega
  · exact ⟨by omega, .inl (.inl rfl)⟩
  · show 8 ≤ 9; omega

theorem exS_answer : (answer exSrcS.size exLinesS 1).1 = 0 := by rfl
theorem exS_text : Th.progText 1 exLinesS.1 = [109, 97, 105, 110, 32, 61, 32, 49, 59, 10] := by
  have : Lib.itoa ((1 : Nat) : Int) = [49] := by
    rw [Lib.itoa_nonneg, Lib.decDigits_one (by decide)]
    rfl
  have h1 : Lib.itoa 1 = [49] := this
  simp [Th.progText, exLinesS, Th.lineText, Th.text, Th.mkNum, Th.spaced, h1]

set_option maxRecDepth 100000 in
set_option maxHeartbeats 2000000 in
theorem shows_true (w : World) (ht : Tab w) :
    Calls Tryz.prog 17 #[] w fun e w' => e = .returned (.bool true) ∧ Below w.heap.size w w' := by
  have hw : ∀ x ∈ exLinesS.1, Th.Wf 1 x.e := by
    intro x hx
    rw [List.mem_singleton.1 hx]
    exact .inl ⟨rfl, by decide⟩
  have C := show_yes (by decide) exS_plain exS_answer hw (fun k hk => Th.progText_stable hw k hk) (by decide) (by intro x hx; rw [List.mem_singleton.1 hx]; decide) (by rw [exS_text]; decide) w ht
  rw [exS_text] at C
  have HC := hide C
  clear C hw ht
  go_enter Tryz.func17, Tryz.ntmps17
  go_wp2_with fail
  refine (unhide HC).mono ?_
  rintro e w1 ⟨rfl, b1⟩
  have HB := hide b1
  clear b1
  go_wp2_with fail
  go_ret
  exact ⟨rfl, unhide HB⟩

set_option maxRecDepth 100000 in
set_option maxHeartbeats 4000000 in
theorem upTo_shows {w : World} {b o n cap : Nat} (h : OpsAt w b o n) (hn : n ≤ maxLen) (ht : Tab w) :
    Calls Tryz.prog 16 #[.slice (some ⟨b, o, none⟩) n cap, .int .i64 2, .int .i64 2] w fun e w' => e = .returned (.bool true) ∧ Below w.heap.size w w' := by
  have hn2 : n ≤ 9223372036854775807 := by unfold maxLen at hn; omega
  have HH := hide h
  have HT := hide ht
  clear h ht
  go_enter Tryz.func16, Tryz.ntmps16
  go_wp2_with fail
  go_loopg [7] n (fun gk iv wr => ∃ k : Nat, iv = .int .i64 k ∧ k ≤ n ∧ n - k ≤ gk ∧ Below w.heap.size w wr)
  case atStart => exact ⟨0, rfl, Nat.zero_le _, by omega, Below.refl _ _⟩
  case round =>
    obtain ⟨k, rfl, hk, hgk, hb⟩ := hrel
    have HB := hide hb
    have hsz := hb.size
    by_cases hlt : k < n
    · obtain ⟨kd, s, h, f, c0, c1, c2, c3⟩ := unhide HH k hlt
      have hbl := cell_lt c0
      have d0 := cell_gb (gb_below none hb) c0 (by simp)
      have d1 := cell_gb (gb_below none hb) c1 (by simp)
      have d2 := cell_gb (gb_below none hb) c2 (by simp)
      have d3 := cell_gb (gb_below none hb) c3 (by simp)
      clear c0 c1 c2 c3 hb
      by_cases hkd : kd = 2
      · subst hkd
        have CP := hide (plays_show s h f _ ((unhide HT).below ((unhide HB).trans ((below_alloc wr (.cells #[.int .i64 2, .string s, .int .i64 h, .int .i64 f] 54)).mono hsz))))
        go_wp2_with fail
        refine (unhide CP).mono ?_
        rintro e w2 ⟨rfl, b2⟩
        have HB2 := hide ((unhide HB).trans (((below_alloc wr (.cells #[.int .i64 2, .string s, .int .i64 h, .int .i64 f] 54)).trans (b2.mono (by simp))).mono hsz))
        clear b2
        go_wp2_with fail
        go_roundg (n - (k + 1))
        case measure => omega
        case rel => exact ⟨k + 1, by go_num, by omega, Nat.le_refl _, unhide HB2⟩
      · have HB2 := hide ((unhide HB).trans ((below_alloc wr (.cells #[.int .i64 kd, .string s, .int .i64 h, .int .i64 f] 54)).mono hsz))
        by_cases h1 : (2 : Int) ≤ kd
        · have h2 : (kd ≤ 2) = False := eq_false (by omega)
          have h1' : ((2 : Int) ≤ kd) = True := eq_true h1
          go_wp2_with fail
          go_roundg (n - (k + 1))
          case measure => omega
          case rel => exact ⟨k + 1, by go_num, by omega, Nat.le_refl _, unhide HB2⟩
        · have h1' : ((2 : Int) ≤ kd) = False := eq_false h1
          go_wp2_with fail
          go_roundg (n - (k + 1))
          case measure => omega
          case rel => exact ⟨k + 1, by go_num, by omega, Nat.le_refl _, unhide HB2⟩
    · clear hb
      go_wp2_with fail
      go_ret
      exact ⟨rfl, unhide HB⟩

set_option maxRecDepth 100000 in
set_option maxHeartbeats 2000000 in
theorem upToS_empty (a : Option Addr) (cap : Nat) (w : World) :
    Calls Tryz.prog 16 #[.slice a 0 cap, .int .i64 2, .int .i64 2] w fun e w' => e = .returned (.bool true) ∧ Below w.heap.size w w' := by
  go_enter Tryz.func16, Tryz.ntmps16
  go_wp2_with fail
  refine wp_loop_rounds 1 ?_
  rw [rounds_succ]
  go_wp2_with fail
  go_ret
  exact ⟨rfl, Below.refl _ _⟩

set_option maxRecDepth 100000 in
set_option maxHeartbeats 2000000 in
theorem Shows_true {w : World} {v : Value} (ht : Tab w) (hu : ∀ W : World, Below w.heap.size w W → Calls Tryz.prog 16 #[v, .int .i64 2, .int .i64 2] W fun e w' => e = .returned (.bool true) ∧ Below W.heap.size W w') :
    Calls Tryz.prog 4 #[v] w fun e w' => e = .returned (.bool true) ∧ Below w.heap.size w w' := by
  have HU := hide hu
  have HS := hide (shows_true w ht)
  clear hu ht
  go_enter Tryz.func4, Tryz.ntmps4
  go_wp2_with fail
  refine (unhide HS).mono ?_
  rintro e w1 ⟨rfl, b1⟩
  have HB := hide b1
  clear b1
  go_wp2_with fail
  refine (unhide HU _ (unhide HB)).mono ?_
  rintro e w2 ⟨rfl, b2⟩
  have HB2 := hide ((unhide HB).trans (b2.mono (unhide HB).size))
  clear b2
  go_wp2_with fail
  go_ret
  exact ⟨rfl, unhide HB2⟩

end Go.Proofs.YtgahgkddaljmkaaGreatDoor
