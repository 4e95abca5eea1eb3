/- The plain functions that both readers of a source are held against: tokens, the grammar with its state, the wrong names of a program; no Go text is named here. Small tools that every walk of this seat uses: facts kept from the walk; what one block of memory holds, and what leaves it as it is. More small tools: a cell that is there stays there. -/
import Derived.Test.YtgahgkddaljmkaaGreatDoorProg
import GoSem.Claim
import GoSem.ClaimJoined
import GoSem.ClaimMapViews
import Derived.JoinedTies
import Derived.KernelRfl
import Derived.WalkKit
import Derived.WalkSpells
import Derived.WalkLawsBesides
import Derived.Handy
import Derived.LoopTactic
import Derived.Laws.RangeString
namespace Go.Proofs.YtgahgkddaljmkaaGreatDoor.Th

def isLet (c : UInt8) : Bool := decide (97 ≤ c.toNat) && decide (c.toNat ≤ 122)
def isDig (c : UInt8) : Bool := decide (48 ≤ c.toNat) && decide (c.toNat ≤ 57)
def isWc (c : UInt8) : Bool := isLet c || isDig c
def isBl (c : UInt8) : Bool := c == 32 || c == 10

structure Tok where
  k : Nat
  s : List UInt8
  at_ : Nat

def tok0 : Tok := ⟨0, [], 0⟩

def sLet : List UInt8 := [108, 101, 116]
def sRec : List UInt8 := [114, 101, 99]
def sIn : List UInt8 := [105, 110]
def sCase : List UInt8 := [99, 97, 115, 101]
def sOf : List UInt8 := [111, 102]
def sMain : List UInt8 := [109, 97, 105, 110]

def isKw (t : List UInt8) : Bool := t == sLet || t == sRec || t == sIn || t == sCase || t == sOf
def signs : List UInt8 := [61, 59, 40, 41, 123, 125, 44, 60, 62, 46, 92, 43, 45, 42, 47]

def signLen (t : List UInt8) : Nat :=
  if t.take 2 == [45, 62] || t.take 2 == [61, 61] then 2
  else match t with
    | [] => 0
    | c :: _ => if signs.contains c then 1 else 0

def word (t : List UInt8) : Nat × List UInt8 := if isKw t then (4, t) else (2, t)
def numb (t : List UInt8) : Nat × List UInt8 := if 9 < t.length then (1, []) else (3, t)

def first (t : List UInt8) : Nat × List UInt8 :=
  match t with
  | [] => (0, [])
  | c :: _ =>
    if isLet c then word (t.takeWhile isWc)
    else if isDig c then numb (t.takeWhile isDig)
    else if signLen t = 0 then (1, []) else (4, t.take (signLen t))

/-- The tokens of a text whose first byte stands at a place: the last one alone is of kind 0 (the end) or 1 (none). -/
def toks : Nat → List UInt8 → Nat → List Tok
  | 0, _, p => [⟨0, [], p⟩]
  | n + 1, t, p =>
    let b := (t.takeWhile isBl).length
    let u := t.drop b
    let x := first u
    ⟨x.1, x.2, p + b⟩ :: (if x.1 ≤ 1 then [] else toks n (u.drop x.2.length) (p + b + x.2.length))

def val (t : List UInt8) : Nat := t.foldl (fun a c => 10 * a + (c.toNat - 48)) 0

structure St where
  rest : List Tok
  bad : Option Nat

def St.hd (st : St) : Tok := st.rest.headD tok0
def St.is (s : List UInt8) (st : St) : Bool := st.bad.isNone && st.hd.s == s
def St.kind (k : Nat) (st : St) : Bool := st.bad.isNone && st.hd.k == k
def St.fail (st : St) : St := if st.bad.isNone then ⟨[], some st.hd.at_⟩ else st
def St.adv (st : St) : St := ⟨st.rest.tail, st.bad⟩
def want (s : List UInt8) (st : St) : St := if st.is s then st.adv else st.fail
def pname (st : St) : Tok × St := if st.kind 2 then (st.hd, st.adv) else (tok0, st.fail)
def pnames (st : St) : List Tok × St :=
  if st.bad.isNone then (st.rest.takeWhile (fun t => t.k == 2), ⟨st.rest.dropWhile (fun t => t.k == 2), none⟩) else ([], st)
def pnumber (lo hi : Nat) (st : St) : Nat × St :=
  if st.kind 3 && decide (lo ≤ val st.hd.s) && decide (val st.hd.s ≤ hi) then (val st.hd.s, st.adv) else (0, st.fail)

/-- An expression: kinds as in the document's order: 1 number, 2 name, 3 maker, 4 function, 5 call, 6 operation, 7 let, 8 let rec, 9 case. -/
structure Ex where
  kind : Nat
  tok : Tok
  n : Nat
  tag : Nat
  arity : Nat
  names : List Tok
  arms : List (Nat × List Tok)
  kids : List Ex

def ex0 : Ex := ⟨0, tok0, 0, 0, 0, [], [], []⟩
def mkNum (n : Nat) : Ex := ⟨1, tok0, n, 0, 0, [], [], []⟩
def mkName (t : Tok) : Ex := ⟨2, t, 0, 0, 0, [], [], []⟩
def mkMake (t a : Nat) : Ex := ⟨3, tok0, 0, t, a, [], [], []⟩
def mkFun (l : List Tok) (e : Ex) : Ex := ⟨4, tok0, 0, 0, 0, l, [], [e]⟩
def mkCall (f x : Ex) : Ex := ⟨5, tok0, 0, 0, 0, [], [], [f, x]⟩
def mkOp (t : Tok) (a b : Ex) : Ex := ⟨6, t, 0, 0, 0, [], [], [a, b]⟩
def mkLet (r : Bool) (l : List Tok) (parts : List Ex) (e : Ex) : Ex := ⟨if r then 8 else 7, tok0, 0, 0, 0, l, [], e :: parts⟩
def mkCase (e : Ex) (l : List (Nat × List Tok)) (bodies : List Ex) : Ex := ⟨9, tok0, 0, 0, 0, [], l, e :: bodies⟩

abbrev Rd := Bool → St → Option (Ex × St)

def begins (st : St) : Bool := st.kind 2 || st.kind 3 || st.is [123] || st.is [40]

def pmaker (st : St) : Ex × St :=
  let a := pnumber 1 99 st
  let b := pnumber 0 9 (want [44] a.2)
  (mkMake a.1 b.1, want [125] b.2)

def patom (ex : Rd) (st : St) : Option (Ex × St) :=
  if st.kind 2 then some (mkName st.hd, st.adv)
  else if st.kind 3 then some (mkNum (val st.hd.s), st.adv)
  else if st.is [123] then some (pmaker st.adv)
  else if st.is [40] then (ex false st.adv).bind fun r => some (r.1, want [41] r.2)
  else some (ex0, st.fail)

def pcalls (ex : Rd) : Nat → Ex → St → Option (Ex × St)
  | 0, _, _ => none
  | k + 1, e, st => if begins st then (patom ex st).bind fun r => pcalls ex k (mkCall e r.1) r.2 else some (e, st)

def pcall (ex : Rd) (k : Nat) (st : St) : Option (Ex × St) := (patom ex st).bind fun r => pcalls ex k r.1 r.2

def pops (sub : St → Option (Ex × St)) (a b : List UInt8) : Nat → Ex → St → Option (Ex × St)
  | 0, _, _ => none
  | k + 1, e, st => if st.is a || st.is b then (sub st.adv).bind fun r => pops sub a b k (mkOp st.hd e r.1) r.2 else some (e, st)

def pproduct (ex : Rd) (k : Nat) (st : St) : Option (Ex × St) := (pcall ex k st).bind fun r => pops (pcall ex k) [42] [47] k r.1 r.2
def psum (ex : Rd) (k : Nat) (st : St) : Option (Ex × St) := (pproduct ex k st).bind fun r => pops (pproduct ex k) [43] [45] k r.1 r.2
def ptest (ex : Rd) (k : Nat) (st : St) : Option (Ex × St) :=
  (psum ex k st).bind fun r =>
    if r.2.is [61, 61] || r.2.is [60] then (psum ex k r.2.adv).bind fun q => some (mkOp r.2.hd r.1 q.1, q.2) else some r

def pbinds (ex : Rd) : Nat → List Tok → List Ex → St → Option (List Tok × List Ex × St)
  | 0, _, _, _ => none
  | k + 1, l, es, st =>
    let x := pname st
    (ex true (want [61] x.2)).bind fun r =>
      if r.2.is [59] then pbinds ex k (l ++ [x.1]) (es ++ [r.1]) r.2.adv else some (l ++ [x.1], es ++ [r.1], r.2)

def plet (ex : Rd) (k : Nat) (outer : Bool) (st : St) : Option (Ex × St) :=
  let rc := st.is sRec
  (pbinds ex k [] [] (if rc then st.adv else st)).bind fun r =>
    (ex outer (want sIn r.2.2)).bind fun q => some (mkLet rc r.1 r.2.1 q.1, q.2)

def parm (ex : Rd) (outer : Bool) (st : St) : Option ((Nat × List Tok) × Ex × St) :=
  let t := pnumber 1 99 (want [60] st)
  let l := pnames (want [62] t.2)
  (ex outer (want [45, 62] l.2)).bind fun r => some ((t.1, l.1), r.1, r.2)

def armFollows (outer : Bool) (st : St) : Bool := st.is [59] && (!outer || (st.rest.tail.headD tok0).s == [60])

def parms (ex : Rd) (outer : Bool) : Nat → List (Nat × List Tok) → List Ex → St → Option (List (Nat × List Tok) × List Ex × St)
  | 0, _, _, _ => none
  | k + 1, l, es, st =>
    (parm ex outer st).bind fun r =>
      if armFollows outer r.2.2 then parms ex outer k (l ++ [r.1]) (es ++ [r.2.1]) r.2.2.adv else some (l ++ [r.1], es ++ [r.2.1], r.2.2)

def pcase (ex : Rd) (k : Nat) (outer : Bool) (st : St) : Option (Ex × St) :=
  (ex false st).bind fun r => (parms ex outer k [] [] (want sOf r.2)).bind fun q => some (mkCase r.1 q.1 q.2.1, q.2.2)

def pfun (ex : Rd) (outer : Bool) (st : St) : Option (Ex × St) :=
  let x := pname st
  let l := pnames x.2
  (ex outer (want [46] l.2)).bind fun r => some (mkFun (x.1 :: l.1) r.1, r.2)

def pbody (ex : Rd) (k : Nat) (outer : Bool) (st : St) : Option (Ex × St) :=
  if st.is sLet then plet ex k outer st.adv
  else if st.is sCase then pcase ex k outer st.adv
  else if st.is [92] then pfun ex outer st.adv
  else ptest ex k st

def pexpr : Nat → Rd
  | 0 => fun _ _ => none
  | n + 1 => pbody (pexpr n) n

structure Line where
  name : Tok
  params : List Tok
  e : Ex

def pline (ex : Rd) (st : St) : Option (Line × St) :=
  let x := pname st
  let l := pnames x.2
  (ex true (want [61] l.2)).bind fun r => some (⟨x.1, l.1, r.1⟩, want [59] r.2)

def plines (ex : Rd) : Nat → List Line → St → Option (List Line × St)
  | 0, _, _ => none
  | k + 1, acc, st =>
    if st.bad.isNone && st.hd.k != 0 then (pline ex st).bind fun r => plines ex k (acc ++ [r.1]) r.2 else some (acc, st)

/- THE NAMES. -/
def dups : List (List UInt8) → List Tok → List Nat
  | _, [] => []
  | seen, t :: r => (if seen.contains t.s then [t.at_] else []) ++ dups (seen ++ [t.s]) r

def texts (l : List Tok) : List (List UInt8) := l.map (·.s)

/-- What is wrong with binds: each name that stands there already, then what it stands for. -/
def wbinds (wr : Ex → List (List UInt8) → List Nat) (around : List (List UInt8)) : List (List UInt8) → List Tok → List Ex → List Nat
  | seen, t :: r, e :: es => ((if seen.contains t.s then [t.at_] else []) ++ wr e around) ++ wbinds wr around (seen ++ [t.s]) r es
  | _, _, _ => []

def warms (wr : Ex → List (List UInt8) → List Nat) (around : List (List UInt8)) : List (Nat × List Tok) → List Ex → List Nat
  | a :: r, e :: es => (dups [] a.2 ++ wr e (around ++ texts a.2)) ++ warms wr around r es
  | _, _ => []

def wrongs : Nat → Ex → List (List UInt8) → List Nat
  | 0, _, _ => []
  | n + 1, e, around =>
    if e.kind = 2 then (if around.contains e.tok.s then [] else [e.tok.at_])
    else if e.kind = 5 ∨ e.kind = 6 then wrongs n (e.kids.headD ex0) around ++ wrongs n (e.kids.tail.headD ex0) around
    else if e.kind = 4 then dups [] e.names ++ wrongs n (e.kids.headD ex0) (around ++ texts e.names)
    else if e.kind = 7 then wbinds (wrongs n) around [] e.names e.kids.tail ++ wrongs n (e.kids.headD ex0) (around ++ texts e.names)
    else if e.kind = 8 then wbinds (wrongs n) (around ++ texts e.names) [] e.names e.kids.tail ++ wrongs n (e.kids.headD ex0) (around ++ texts e.names)
    else if e.kind = 9 then wrongs n (e.kids.headD ex0) around ++ warms (wrongs n) around e.arms e.kids.tail
    else []

def fnames (l : List Line) : List (List UInt8) := l.map (·.name.s)

def wlines (n : Nat) (all : List (List UInt8)) : List (List UInt8) → List Line → List Nat
  | _, [] => []
  | seen, x :: r => (if seen.contains x.name.s then [x.name.at_] else []) ++ dups [] x.params ++ wrongs n x.e (all ++ texts x.params) ++ wlines n all (seen ++ [x.name.s]) r

def hasMain (l : List Line) : Bool := l.any fun x => x.name.s == sMain && x.params.isEmpty

/-- What Check answers: the error's number, and the place. -/
def check (s : List UInt8) : Nat × Nat :=
  if 600 < s.length then (1, 0)
  else match plines (pexpr (s.length + 9)) (s.length + 9) [] ⟨toks (s.length + 1) s 0, none⟩ with
    | none => (0, 0)
    | some r => match r.2.bad with
      | some p => (2, p)
      | none => match wlines (s.length + 9) (fnames r.1) [] r.1 with
        | p :: _ => (3, p)
        | [] => if hasMain r.1 then (0, 0) else (4, s.length)

end Go.Proofs.YtgahgkddaljmkaaGreatDoor.Th

namespace Go.Proofs.YtgahgkddaljmkaaGreatDoor
open Go.RowKit

theorem hide {p : Prop} (h : p) : Hid p := h
theorem unhide {p : Prop} (h : Hid p) : p := h.out

/-- Block b holds just these cells, none of them frozen. -/
def Blk (w : World) (b : Nat) (vs : List Value) (t : TypeId) : Prop := w.heap[b]? = some (.cells vs.toArray t (0, 0))

theorem Blk.lt {w : World} {b : Nat} {vs : List Value} {t : TypeId} (h : Blk w b vs t) : b < w.heap.size := by
  unfold Blk at h
  exact (Array.getElem?_eq_some_iff.1 h).1
theorem Blk.cell {w : World} {b : Nat} {vs : List Value} {t : TypeId} (h : Blk w b vs t) (j : Nat) : w.cell? ⟨b, j, none⟩ = vs[j]? := by
  unfold Blk at h
  simp [World.cell?, h]
theorem Blk.frozen {w : World} {b : Nat} {vs : List Value} {t : TypeId} (h : Blk w b vs t) (j : Nat) : w.frozen? ⟨b, j, none⟩ = false := by
  unfold Blk at h
  simp [World.frozen?, h]
theorem Blk.new (w : World) (vs : List Value) (t : TypeId) : Blk (w.alloc (.cells vs.toArray t)) w.heap.size vs t := by
  show (w.heap.push _)[w.heap.size]? = _
  simp
theorem Blk.alloc {w : World} {b : Nat} {vs : List Value} {t : TypeId} (h : Blk w b vs t) (o : Obj) : Blk (w.alloc o) b vs t := by
  have hl := h.lt
  unfold Blk at *
  rw [Below.heap_alloc _ _ _ hl, h]
theorem Blk.iter {w : World} {b : Nat} {vs : List Value} {t : TypeId} (h : Blk w b vs t) (s : ByteArray) (p : Nat) : Blk (w.iter s p) b vs t := h.alloc _
theorem Blk.drew {w : World} {b : Nat} {vs : List Value} {t : TypeId} (h : Blk w b vs t) : Blk w.drew b vs t := h
theorem Blk.below {w w' : World} {b B : Nat} {vs : List Value} {t : TypeId} (h : Blk w b vs t) (hb : Below B w w') (hl : b < B) : Blk w' b vs t := by
  unfold Blk at *
  rw [hb.block b hl, h]
theorem Blk.grown {w w' : World} {b : Nat} {row : Option Nat} {vs : List Value} {t : TypeId} (h : Blk w b vs t) (hg : w.grownBy w' row) (hr : some b ≠ row) : Blk w' b vs t := by
  have hl := h.lt
  unfold Blk at *
  rw [hg.block b hl hr, h]
theorem Blk.set {w : World} {b : Nat} {vs : List Value} {t : TypeId} (h : Blk w b vs t) (j : Nat) (v : Value) : Blk (w.setCell ⟨b, j, none⟩ v) b (vs.set j v) t := by
  have hl := h.lt
  unfold Blk at *
  simp [World.setCell, Array.getElem?_modify, h]
theorem Blk.other {w : World} {b : Nat} {vs : List Value} {t : TypeId} (h : Blk w b vs t) (a : Addr) (v : Value) (hne : b ≠ a.block) : Blk (w.setCell a v) b vs t := by
  unfold Blk at *
  rw [Below.heap_setCell _ _ _ _ hne, h]

/- 'grownBy': nothing that was there has turned, but (perhaps) one block. -/
theorem gb_refl (w : World) (r : Option Nat) : w.grownBy w r := ⟨rfl, rfl, rfl, Nat.le_refl _, fun _ _ _ => rfl⟩
theorem gb_trans {a b c : World} {r : Option Nat} (h : a.grownBy b r) (k : b.grownBy c r) : a.grownBy c r :=
  ⟨k.os.trans h.os, k.tape.trans h.tape, k.output.trans h.output, Nat.le_trans h.size k.size,
    fun i hi hr => (k.block i (Nat.lt_of_lt_of_le hi h.size) hr).trans (h.block i hi hr)⟩
theorem gb_below {a b : World} (r : Option Nat) (h : Below a.heap.size a b) : a.grownBy b r := ⟨h.os, h.tape, h.output, h.size, fun k hk _ => h.block k hk⟩
theorem below_gb {a b : World} (h : a.grownBy b none) : Below a.heap.size a b := ⟨h.os, h.tape, h.output, h.size, fun k hk => h.block k hk (by simp)⟩
theorem gb_alloc (w : World) (o : Obj) (r : Option Nat) : w.grownBy (w.alloc o) r := ⟨rfl, rfl, rfl, by simp, fun k hk _ => Below.heap_alloc _ _ _ hk⟩
theorem gb_iter (w : World) (s : ByteArray) (p : Nat) (r : Option Nat) : w.grownBy (w.iter s p) r := gb_alloc w _ r
theorem gb_drew (w : World) (r : Option Nat) : w.grownBy w.drew r := ⟨rfl, rfl, rfl, Nat.le_refl _, fun _ _ _ => rfl⟩
theorem gb_set (w : World) (b j : Nat) (v : Value) : w.grownBy (w.setCell ⟨b, j, none⟩ v) (some b) :=
  ⟨rfl, rfl, rfl, by simp [World.setCell], fun k _ hr => Below.heap_setCell _ _ _ _ (fun e => hr (by rw [e]))⟩
/-- A store into a block that is new since. -/
theorem gb_set_new {w w1 : World} {r : Option Nat} (h : w.grownBy w1 r) (a : Addr) (v : Value) (hn : w.heap.size ≤ a.block) : w.grownBy (w1.setCell a v) r :=
  ⟨h.os, h.tape, h.output, by simp [World.setCell]; exact h.size, fun k hk hr => by rw [Below.heap_setCell _ _ _ _ (by omega)]; exact h.block k hk hr⟩
theorem below_alloc (w : World) (o : Obj) : Below w.heap.size w (w.alloc o) := (Below.refl _ _).alloc (Nat.le_refl _) o

end Go.Proofs.YtgahgkddaljmkaaGreatDoor

namespace Go.Proofs.YtgahgkddaljmkaaGreatDoor
open Go.RowKit

theorem cell_lt {w : World} {b o : Nat} {v : Value} (h : w.cell? ⟨b, o, none⟩ = some v) : b < w.heap.size := by
  rcases Nat.lt_or_ge b w.heap.size with hb | hb
  · exact hb
  · have e : w.heap[b]? = none := Array.getElem?_eq_none hb
    simp [World.cell?, e] at h
theorem cell_gb {w w' : World} {r : Option Nat} (hg : w.grownBy w' r) {b o : Nat} {v : Value} (h : w.cell? ⟨b, o, none⟩ = some v) (hr : some b ≠ r) : w'.cell? ⟨b, o, none⟩ = some v := by
  rw [World.cell?_of_block (w := w) (hg.block b (cell_lt h) hr), h]

theorem fld_tok0 (a b c : Value) (w : World) : (Instr.field 135 (.agg #[a, b, c]) 0).run Tryz.prog w = .ok a w := by kernel_rfl
theorem fld_tok1 (a b c : Value) (w : World) : (Instr.field 135 (.agg #[a, b, c]) 1).run Tryz.prog w = .ok b w := by kernel_rfl
theorem fld_tok2 (a b c : Value) (w : World) : (Instr.field 135 (.agg #[a, b, c]) 2).run Tryz.prog w = .ok c w := by kernel_rfl

end Go.Proofs.YtgahgkddaljmkaaGreatDoor
