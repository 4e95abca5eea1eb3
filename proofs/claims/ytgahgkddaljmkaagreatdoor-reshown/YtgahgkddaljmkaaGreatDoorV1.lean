/- Spec .. Mach11 -/
import Derived.Test.YtgahgkddaljmkaaGreatDoorProg
import Derived.WalkSpells
import Derived.WalkLawsBesides
import Derived.Handy
import Derived.Deep.RegionHeld3
import Derived.Deep.DrawnRows
import Derived.Laws.CopyOwn
import Derived.BigQuiet
import Derived.Deep.LoopGhost
set_option maxRecDepth 100000
set_option maxHeartbeats 4000000
namespace Go.Proofs.YtgahgkddaljmkaaGreatDoor
open Tryz
abbrev kP:=@if_true
abbrev gM:=@World.size_alloc
abbrev nt:=@if_false
abbrev kt:=@World.ownsRow_nil
abbrev iR:=@ByteArray.size_append
abbrev mF:=@bodyPost_ret
abbrev nC:=@info_parts
abbrev kJ:=@beq_eq_false_iff_ne
abbrev kI:=@World.cell?_of_block
abbrev nE:=@rounds_succ
abbrev qz:=@congrArg
abbrev l7:=@List.mem_cons_of_mem
abbrev qT:=@or_false
abbrev nD:=@Value.slice.inj
abbrev oI:=@wp_loop_rounds
abbrev mG:=@ByteArray.toList_eq
abbrev uq:=@beq_iff_eq
abbrev qO:=@List.map_nil
abbrev qV:=@Calls.quiet_of
abbrev q7:=@List.length_map
abbrev uv:=@IntKind.wrap_i64
abbrev qQ:=@Calls.quiet_of_same
abbrev tY:=@decide_eq_true_eq
abbrev Ja:=@step_block
abbrev IM:=@results_none
abbrev uu:=@wp_region_held_drew
abbrev Jh:=@wpAnyH_done
abbrev Ko:=@step_seq
abbrev vW:=@List.mem_cons_self
abbrev Dr:=@results_cell_row
abbrev ID:=@Nat.lt_irrefl
abbrev Jz:=@setRow_other
abbrev J6:=@setRow_heap
abbrev Jg:=@callsIn_of_wp
abbrev JY:=@Steps.trans
abbrev Jy:=@results_tmp2
abbrev Jv:=@List.sum_nil
abbrev Jw:=@Nat.le_of_eq
abbrev Kd:=@Nat.sub_le
abbrev Jl:=@Int.natCast_one
abbrev Jc:=@Bool.not_eq_true
abbrev IQ:=@wpList_append_own
abbrev J9:=@Bool.true_and
abbrev Ka:=@StepsIn.trans
abbrev Jn:=@exists_eq_right
abbrev IP:=@List.getElem?_map
abbrev JN:=@AllReadyH.cons
abbrev Jd:=@List.drop_length
abbrev Je:=@List.map_reverse
abbrev IE:=@List.all_takeWhile
abbrev JO:=@List.tail_cons
abbrev Ke:=@List.map_map
abbrev Kf:=@Nat.add_comm
abbrev Im:=@Bool.or_eq_false_iff
abbrev Kg:=@Nat.ne_of_gt
abbrev Jq:=@trodAll_cons_mk
abbrev I5:=@Array.getElem?_modify
abbrev JI:=@Nat.eq_zero_or_pos
abbrev Jf:=@Nat.mul_le_mul_right
abbrev JJ:=@Option.isNone_none
abbrev II:=@List.length_pos_of_mem
abbrev I7:=@List.length_filter_le
abbrev Kb:=@List.sum_reverse
abbrev JS:=@List.flatMap_cons
abbrev IH:=@List.dropWhile_sublist
abbrev It:=@Option.isNone_iff_eq_none
abbrev JX:=@List.pairwise_map
abbrev JH:=@List.getElem_idxOf
abbrev I8:=@List.singleton_append
abbrev Ik:=@List.takeWhile_cons_of_pos
abbrev Ii:=@List.takeWhile_cons_of_neg
abbrev JU:=@List.flatten_cons
theorem qj{c:Prop}[Decidable c]{α}{a b:α}(h:¬c:=by omega):ite c a b=b:=if_neg h
theorem Ji{c:Prop}[Decidable c]{α}{a b:α}(h:c:=by omega):ite c a b=a:=if_pos h
abbrev kK:=@And.intro
abbrev pL:=@if_neg
abbrev nB:=@if_pos
abbrev Dq:=@List.getElem?_eq_some_iff
abbrev Iv:=@List.getElem?_eq_getElem
abbrev qP:=@Nat.le_refl
abbrev MV:=@List.setIfInBounds_toArray
abbrev IA:=@Option.some.injEq
abbrev JM:=@Option.bind_eq_some_iff
abbrev yM:=@Nat.le_trans
abbrev Kl:=@Nat.lt_of_lt_of_le
abbrev IJ:=@List.length_append
abbrev J8:=@Option.some.inj
abbrev Kw:=@List.getElem?_set
abbrev Nh:=@List.set_cons_succ
abbrev M9:=@Option.map_eq_some_iff
abbrev Nz:=@Array.getElem?_eq_some_iff
abbrev NK:=@List.set_cons_zero
abbrev Ng:=@List.length_singleton
abbrev ML:=@List.mem_of_getElem?
abbrev MO:=@Int.toNat_natCast
abbrev Om:=@List.getElem?_append_right
abbrev OO:=@List.length_reverse
abbrev Kc:=@Nat.zero_le
abbrev MH:=@List.length_set
abbrev MP:=@List.cons_append
abbrev Kh:=@List.length_cons
abbrev N8:=@List.take_of_length_le
abbrev Ki:=@List.map_cons
abbrev MQ:=@List.nil_append
abbrev Pq:=@List.getElem?_append_left
abbrev MW:=@List.sum_cons
abbrev NA:=@List.mem_singleton
abbrev NQ:=@List.length_take
abbrev zzg:=@Go.wp_at_succ
abbrev zzh:=@Go.wp_at_zero
abbrev Ni:=@List.mem_append
abbrev OQ:=@List.getElem?_append
abbrev Np:=@List.append_assoc
abbrev Pk:=@List.getElem?_cons_zero
abbrev My:=@List.length_nil
abbrev Pl:=@List.length_eq_zero_iff
abbrev Mz:=@List.mem_cons
abbrev Pr:=@Nat.mul_le_mul_left
abbrev OC:=@Int.natCast_add
abbrev O3:=@List.size_toArray
abbrev Q2:=@List.drop_eq_getElem_cons
abbrev Sc:=@List.eq_nil_of_length_eq_zero
abbrev Oo:=@List.length_drop
abbrev OR:=@Bool.and_eq_true
abbrev Ps:=@Bool.false_eq_true
abbrev Qe:=@List.getElem?_drop
abbrev Qf:=@List.getElem?_take
abbrev Q3:=@List.length_replicate
abbrev Qw:=@List.length_pos_iff
abbrev QX:=@Array.replicate_succ
abbrev QY:=@Array.replicate_zero
abbrev NW:=@Option.bind_some
abbrev QZ:=@List.append_toArray
abbrev TI:=@List.idxOf_lt_length_of_mem
abbrev On:=@Nat.zero_add
abbrev Q0:=@List.push_toArray
abbrev OP:=@Nat.mul_add
abbrev SQ:=@Int.cast_ofNat_Int
abbrev R5:=@List.getElem?_eq_none
abbrev O2:=@Prod.mk.injEq
abbrev Q1:=@Go.length_splice
abbrev R6:=@Int.natCast_nonneg
abbrev PU:=@Nat.add_zero
abbrev Qx:=@Option.map_some
abbrev VP:=@List.eq_of_mem_replicate
abbrev Rp:=@List.take_zero
abbrev Rq:=@List.append_nil
abbrev R7:=@List.getElem?_cons_succ
abbrev VQ:=@Nat.le_mul_of_pos_right
abbrev Sa:=@Nat.min_eq_left
abbrev U0:=@List.getD_eq_getElem?_getD
abbrev VR:=@Nat.le_mul_of_pos_left
abbrev Sb:=@List.drop_zero
abbrev PV:=@List.not_mem_nil
abbrev TG:=@Nat.le_add_right
abbrev Ro:=@List.mem_map
abbrev NV:=@List.foldl_cons
abbrev SO:=@List.map_append
abbrev VO:=@List.replicate_succ
abbrev TH:=@List.sum_append
abbrev XC:=@List.drop_eq_nil_of_le
abbrev UY:=@List.take_length
abbrev UZ:=@Nat.le_succ
abbrev Zr:=@Nat.pow_le_pow_right
abbrev SV:=@Bool.eq_iff_iff
abbrev T0:=@Except.ok.injEq
abbrev T6:=@Nat.le_add_left
abbrev T7:=@Nat.not_lt_zero
abbrev SX:=@Array.length_toList
abbrev U3:=@List.map_congr_left
abbrev Wn:=@Nat.mul_le_mul
abbrev XI:=@List.append_eq_nil_iff
abbrev U4:=@List.takeWhile_sublist
abbrev U5:=@List.take_append_drop
abbrev SY:=@Nat.le_of_lt
abbrev S0:=@Nat.sub_zero
abbrev T8:=@Bool.or_false
abbrev T9:=@List.take_add_one
abbrev XJ:=@List.getElem?_set_ne
abbrev XK:=@List.mem_of_mem_take
abbrev U6:=@List.take_take
abbrev Wo:=@Nat.le_max_right
abbrev Wp:=@Option.getD_some
abbrev S8:=@Nat.mul_one
abbrev Ua:=@Bool.or_true
abbrev Ub:=@Bool.true_or
abbrev Rs:=@Nat.lt_or_ge
abbrev Uc:=@Nat.sub_self
abbrev U7:=@Bool.or_eq_true
abbrev P2:=@Iff.rfl
abbrev Wl:=@List.nodup_cons
abbrev Wm:=@Nat.le_max_left
end Go.Proofs.YtgahgkddaljmkaaGreatDoor
namespace Go.Proofs.YtgahgkddaljmkaaGreatDoor.Th
open Tryz
def isLet (c:UInt8):Bool:=decide (97<=c.toNat) && decide (c.toNat<=122)
def Mg (c:UInt8):Bool:=decide (48<=c.toNat) && decide (c.toNat<=57)
def MY (c:UInt8):Bool:=isLet c||Mg c
def Mh (c:UInt8):Bool:=c == 32||c == 10
structure Tok where
 k:Nat
 s:List UInt8
 at_:Nat
def ON:Tok:=⟨0,[],0⟩
def Ol:List UInt8:=[108,101,116]
def Na:List UInt8:=[114,101,99]
def Mx:List UInt8:=[105,110]
def OK:List UInt8:=[99,97,115,101]
def Nt:List UInt8:=[111,102]
def Oy:List UInt8:=[109,97,105,110]
def SN (t:List UInt8):Bool:=t == Ol||t == Na||t == Mx||t == OK||t == Nt
def Xw:List UInt8:=[61,59,40,41,123,125,44,60,62,46,92,43,45,42,47]
def Ow (t:List UInt8):Nat:=
 if t.take 2 == [45,62]||t.take 2 == [61,61]then 2
 else match t with
  |[]=>0
  |c::_=>if Xw.contains c then 1 else 0
def word (t:List UInt8):Nat × List UInt8:=if SN t then(4,t)else(2,t)
def Pj (t:List UInt8):Nat × List UInt8:=if 9<t.length then(1,[])else(3,t)
def first(t:List UInt8):Nat × List UInt8:=
 match t with
 |[]=>(0,[])
 |c::_=>
  if isLet c then word (t.takeWhile MY)
  else if Mg c then Pj (t.takeWhile Mg)
  else if Ow t=0 then(1,[])else(4,t.take (Ow t))
def ME:Nat->List UInt8->Nat->List Tok
 |0,_,p=>[⟨0,[],p⟩]
 |n+1,t,p=>
  let b:=(t.takeWhile Mh).length
  let u:=t.drop b
  let x:=first u
  ⟨x.1,x.2,p+b⟩::(if x.1<=1 then[]else ME n (u.drop x.2.length) (p+b+x.2.length))
def val (t:List UInt8):Nat:=t.foldl (λa c=>10*a+(c.toNat-48)) 0
structure St where
 rest:List Tok
 bad:Option Nat
def St.hd (st:St):Tok:=st.rest.headD ON
def St.is (s:List UInt8) (st:St):Bool:=st.bad.isNone && st.hd.s == s
def St.kind (k:Nat) (st:St):Bool:=st.bad.isNone && st.hd.k == k
def St.fail (st:St):St:=if st.bad.isNone then⟨[],some st.hd.at_⟩else st
def St.qM (st:St):St:=⟨st.rest.tail,st.bad⟩
def want (s:List UInt8) (st:St):St:=if st.is s then st.qM else st.fail
def IG (st:St):Tok × St:=if st.kind 2 then(st.hd,st.qM)else(ON,st.fail)
def JR (st:St):List Tok × St:=
 if st.bad.isNone then(st.rest.takeWhile (λt=>t.k == 2),⟨st.rest.dropWhile (λt=>t.k == 2),none⟩)else([],st)
def Kv (lo hi:Nat) (st:St):Nat × St:=
 if st.kind 3 && decide (lo<=val st.hd.s) && decide (val st.hd.s<=hi)then(val st.hd.s,st.qM)else(0,st.fail)
structure Ex where
 kind:Nat
 tok:Tok
 n:Nat
 tag:Nat
 arity:Nat
 names:List Tok
 nA:List (Nat × List Tok)
 kids:List Ex
def Mw:Ex:=⟨0,ON,0,0,0,[],[],[]⟩
def mkNum (n:Nat):Ex:=⟨1,ON,n,0,0,[],[],[]⟩
def NY (t:Tok):Ex:=⟨2,t,0,0,0,[],[],[]⟩
def Oe (t a:Nat):Ex:=⟨3,ON,0,t,a,[],[],[]⟩
def mkFun (l:List Tok) (e:Ex):Ex:=⟨4,ON,0,0,0,l,[],[e]⟩
def M5 (f x:Ex):Ex:=⟨5,ON,0,0,0,[],[],[f,x]⟩
def JF (t:Tok) (a b:Ex):Ex:=⟨6,t,0,0,0,[],[],[a,b]⟩
def mkLet (r:Bool) (l:List Tok) (parts:List Ex) (e:Ex):Ex:=⟨if r then 8 else 7,ON,0,0,0,l,[],e::parts⟩
def mkCase (e:Ex) (l:List (Nat × List Tok)) (ag:List Ex):Ex:=⟨9,ON,0,0,0,[],l,e::ag⟩
abbrev Rd:=Bool->St->Option (Ex × St)
def NN (st:St):Bool:=st.kind 2||st.kind 3||st.is [123]||st.is [40]
def PN (st:St):Ex × St:=
 let a:=Kv 1 99 st
 let b:=Kv 0 9 (want [44] a.2)
 (Oe a.1 b.1,want [125] b.2)
def NZ (ex:Rd) (st:St):Option (Ex × St):=
 if st.kind 2 then some (NY st.hd,st.qM)
 else if st.kind 3 then some (mkNum (val st.hd.s),st.qM)
 else if st.is [123]then some (PN st.qM)
 else if st.is [40]then(ex false st.qM).bind λr=>some (r.1,want [41] r.2)
 else some (Mw,st.fail)
def Of (ex:Rd):Nat->Ex->St->Option (Ex × St)
 |0,_,_=>none
 |k+1,e,st=>if NN st then(NZ ex st).bind λr=>Of ex k (M5 e r.1) r.2 else some (e,st)
def OZ (ex:Rd) (k:Nat) (st:St):Option (Ex × St):=(NZ ex st).bind λr=>Of ex k r.1 r.2
def Nk (sub:St->Option (Ex × St)) (a b:List UInt8):Nat->Ex->St->Option (Ex × St)
 |0,_,_=>none
 |k+1,e,st=>if st.is a||st.is b then(sub st.qM).bind λr=>Nk sub a b k (JF st.hd e r.1) r.2 else some (e,st)
def Px (ex:Rd) (k:Nat) (st:St):Option (Ex × St):=(OZ ex k st).bind λr=>Nk (OZ ex k) [42] [47] k r.1 r.2
def PD (ex:Rd) (k:Nat) (st:St):Option (Ex × St):=(Px ex k st).bind λr=>Nk (Px ex k) [43] [45] k r.1 r.2
def Py (ex:Rd) (k:Nat) (st:St):Option (Ex × St):=
 (PD ex k st).bind λr=>if r.2.is [61,61]||r.2.is [60]then(PD ex k r.2.qM).bind λq=>some (JF r.2.hd r.1 q.1,q.2)else some r
def NH (ex:Rd):Nat->List Tok->List Ex->St->Option (List Tok × List Ex × St)
 |0,_,_,_=>none
 |k+1,l,es,st=>
  let x:=IG st
  (ex true (want [61] x.2)).bind λr=>if r.2.is [59]then NH ex k (l++[x.1]) (es++[r.1]) r.2.qM else some (l++[x.1],es++[r.1],r.2)
def Qv (ex:Rd) (k:Nat) (outer:Bool) (st:St):Option (Ex × St):=
 let rc:=st.is Na
 (NH ex k [] [] (if rc then st.qM else st)).bind λr=>
  (ex outer (want Mx r.2.2)).bind λq=>some (mkLet rc r.1 r.2.1 q.1,q.2)
def PC (ex:Rd) (outer:Bool) (st:St):Option ((Nat × List Tok) × Ex × St):=
 let t:=Kv 1 99 (want [60] st)
 let l:=JR (want [62] t.2)
 (ex outer (want [45,62] l.2)).bind λr=>some ((t.1,l.1),r.1,r.2)
def NL (outer:Bool) (st:St):Bool:=st.is [59] && (!outer||(st.rest.tail.headD ON).s == [60])
def NI (ex:Rd) (outer:Bool):Nat->List (Nat × List Tok)->List Ex->St->Option (List (Nat × List Tok) × List Ex × St)
 |0,_,_,_=>none
 |k+1,l,es,st=>
  (PC ex outer st).bind λr=>if NL outer r.2.2 then NI ex outer k (l++[r.1]) (es++[r.2.1]) r.2.2.qM else some (l++[r.1],es++[r.2.1],r.2.2)
def Qr (ex:Rd) (k:Nat) (outer:Bool) (st:St):Option (Ex × St):=
 (ex false st).bind λr=>(NI ex outer k [] [] (want Nt r.2)).bind λq=>some (mkCase r.1 q.1 q.2.1,q.2.2)
def Qu (ex:Rd) (outer:Bool) (st:St):Option (Ex × St):=
 let x:=IG st
 let l:=JR x.2
 (ex outer (want [46] l.2)).bind λr=>some (mkFun (x.1::l.1) r.1,r.2)
def NU (ex:Rd) (k:Nat) (outer:Bool) (st:St):Option (Ex × St):=
 if st.is Ol then Qv ex k outer st.qM
 else if st.is OK then Qr ex k outer st.qM
 else if st.is [92]then Qu ex outer st.qM
 else Py ex k st
def Mn:Nat->Rd
 |0=>λ_ _=>none
 |n+1=>NU (Mn n) n
structure By where
 name:Tok
 params:List Tok
 e:Ex
def Qs (ex:Rd) (st:St):Option (By × St):=
 let x:=IG st
 let l:=JR x.2
 (ex true (want [61] l.2)).bind λr=>some (⟨x.1,l.1,r.1⟩,want [59] r.2)
def N7 (ex:Rd):Nat->List By->St->Option (List By × St)
 |0,_,_=>none
 |k+1,acc,st=>if st.bad.isNone && st.hd.k != 0 then(Qs ex st).bind λr=>N7 ex k (acc++[r.1]) r.2 else some (acc,st)
def N0:List (List UInt8)->List Tok->List Nat
 |_,[]=>[]
 |seen,t::r=>(if seen.contains t.s then[t.at_]else[])++N0 (seen++[t.s]) r
def texts (l:List Tok):List (List UInt8):=l.map (·.s)
def Nc (wr:Ex->List (List UInt8)->List Nat) (ae:List (List UInt8)):List (List UInt8)->List Tok->List Ex->List Nat
 |seen,t::r,e::es=>((if seen.contains t.s then[t.at_]else[])++wr e ae)++Nc wr ae (seen++[t.s]) r es
 |_,_,_=>[]
def Oi (wr:Ex->List (List UInt8)->List Nat) (ae:List (List UInt8)):List (Nat × List Tok)->List Ex->List Nat
 |a::r,e::es=>(N0 [] a.2++wr e (ae++texts a.2))++Oi wr ae r es
 |_,_=>[]
def JL:Nat->Ex->List (List UInt8)->List Nat
 |0,_,_=>[]
 |n+1,e,ae=>
  if e.kind=2 then(if ae.contains e.tok.s then[]else[e.tok.at_])
  else if e.kind=5\/e.kind=6 then JL n (e.kids.headD Mw) ae++JL n (e.kids.tail.headD Mw) ae
  else if e.kind=4 then N0 [] e.names++JL n (e.kids.headD Mw) (ae++texts e.names)
  else if e.kind=7 then Nc (JL n) ae [] e.names e.kids.tail++JL n (e.kids.headD Mw) (ae++texts e.names)
  else if e.kind=8 then Nc (JL n) (ae++texts e.names) [] e.names e.kids.tail++JL n (e.kids.headD Mw) (ae++texts e.names)
  else if e.kind=9 then JL n (e.kids.headD Mw) ae++Oi (JL n) ae e.nA e.kids.tail
  else[]
def JE (l:List By):List (List UInt8):=l.map (·.name.s)
def NM (n:Nat) (all:List (List UInt8)):List (List UInt8)->List By->List Nat
 |_,[]=>[]
 |seen,x::r=>(if seen.contains x.name.s then[x.name.at_]else[])++N0 [] x.params++JL n x.e (all++texts x.params)++NM n all (seen++[x.name.s]) r
end Go.Proofs.YtgahgkddaljmkaaGreatDoor.Th
variable {p:Prop}
theorem Go.RowKit.Hid.o(h:Go.RowKit.Hid p):p:=h
namespace Go.Proofs.YtgahgkddaljmkaaGreatDoor
open Tryz
open Go.RowKit
theorem eu(h:p):Hid p:=h
theorem zaa(h:Hid p):p:=h.out
def oH (w:World) (b:Nat) (vs:List Value) (t:TypeId):Prop:=w.heap[b]?=some (.cells vs.toArray t (0,0))
variable {w:World}{vs:List Value}{t:TypeId}
theorem oH.lt{b:Nat}(h:oH w b vs t):b<w.heap.size:=by unfold oH at h;exact(Nz.1 h).1
theorem oH.cell{w:World}{b:Nat}{vs:List Value}{t:TypeId}(h:oH w b vs t)(j:Nat):w.cell? ⟨b,j,none⟩=vs[j]?:=by unfold oH at h;simp[World.cell?,h]
abbrev al:=@oH.cell
theorem oH.frozen{w:World}{b:Nat}{vs:List Value}{t:TypeId}(h:oH w b vs t)(j:Nat):w.frozen? ⟨b,j,none⟩=false:=by unfold oH at h;simp[World.frozen?,h]
abbrev ku:=@oH.frozen
theorem oH.new(w:World)(vs:List Value)(t:TypeId):oH (w.alloc (.cells vs.toArray t)) w.heap.size vs t:=by show(w.heap.push _)[w.heap.size]?=_;simp
abbrev gH:=@oH.new
theorem oH.alloc{w:World}{b:Nat}{vs:List Value}{t:TypeId}(h:oH w b vs t)(o:Obj):oH (w.alloc o) b vs t:=by have hl:=h.lt;unfold oH at *;rw[Below.heap_alloc _ _ _ hl,h]
abbrev mr:=@oH.alloc
theorem oH.drew{w:World}{b:Nat}{vs:List Value}{t:TypeId}(h:oH w b vs t):oH w.drew b vs t:=h
abbrev IC:=@oH.drew
variable {w':World}
theorem oH.below{b B:Nat}(h:oH w b vs t)(hb:Below B w w')(hl:b<B):oH w' b vs t:=by unfold oH at *;rw[hb.block b hl,h]
theorem oH.grown{b:Nat}{row:Option Nat}(h:oH w b vs t)(hg:w.grownBy w' row)(hr:some b≠row):oH w' b vs t:=by have hl:=h.lt;unfold oH at *;rw[hg.block b hl hr,h]
abbrev IN:=@oH.grown
theorem oH.set{w:World}{b:Nat}{vs:List Value}{t:TypeId}(h:oH w b vs t)(j:Nat)(v:Value):oH (w.setCell ⟨b,j,none⟩ v) b (vs.set j v) t:=by have hl:=h.lt;unfold oH at *;simp[World.setCell,I5,h]
abbrev xN:=@oH.set
theorem oH.other{b:Nat}(h:oH w b vs t)(a:Addr)(v:Value)(aH:b≠a.block):oH (w.setCell a v) b vs t:=by unfold oH at *;rw[Below.heap_setCell _ _ _ _ aH,h]
theorem QT(w:World)(r:Option Nat):w.grownBy w r:=⟨rfl,rfl,rfl,qP _,λ_ _ _=>rfl⟩
variable {a b:World}{r:Option Nat}
theorem qN{c:World}(h:a.grownBy b r)(k:b.grownBy c r):a.grownBy c r:=
 ⟨k.os.trans h.os,k.tape.trans h.tape,k.output.trans h.output,yM h.size k.size,
  λi hi hr=>(k.block i (Kl hi h.size) hr).trans (h.block i hi hr)⟩
theorem Bj(r:Option Nat)(h:Below a.heap.size a b):a.grownBy b r:=⟨h.os,h.tape,h.output,h.size,λk hk _=>h.block k hk⟩
theorem Pw(h:a.grownBy b none):Below a.heap.size a b:=⟨h.os,h.tape,h.output,h.size,λk hk=>h.block k hk (by simp)⟩
theorem IS(w:World)(o:Obj)(r:Option Nat):w.grownBy (w.alloc o) r:=⟨rfl,rfl,rfl,by simp,λk hk _=>Below.heap_alloc _ _ _ hk⟩
theorem Po(w:World)(r:Option Nat):w.grownBy w.drew r:=⟨rfl,rfl,rfl,qP _,λ_ _ _=>rfl⟩
theorem MF(w:World)(b j:Nat)(v:Value):w.grownBy (w.setCell ⟨b,j,none⟩ v) (some b):=
 ⟨rfl,rfl,rfl,by simp[World.setCell],λk _ hr=>Below.heap_setCell _ _ _ _ (λe=>hr (by rw[e]))⟩
theorem Nv{w1:World}(h:w.grownBy w1 r)(a:Addr)(v:Value)(hn:w.heap.size<=a.block):w.grownBy (w1.setCell a v) r:=
 ⟨h.os,h.tape,h.output,by simp[World.setCell];exact h.size,λk hk hr=>by rw[Below.heap_setCell _ _ _ _ (by omega)];exact h.block k hk hr⟩
theorem Mi(w:World)(o:Obj):Below w.heap.size w (w.alloc o):=(Below.refl _ _).alloc (qP _) o
theorem Ju{P:Program}{fn:Func}{R:Ending->World->Prop}{a:Act}(h:fn.results=#[])(hd:a.defers=[])(hR:R (.returned (.tuple #[])) w):bodyPost P fn R .ret a w:=mF (IM h _ _ _) hd hR
end Go.Proofs.YtgahgkddaljmkaaGreatDoor
namespace Go.Proofs.YtgahgkddaljmkaaGreatDoor
open Tryz
open Go.RowKit
variable {w:World}
theorem Tp{b o:Nat}{v:Value}(h:w.cell? ⟨b,o,none⟩=some v):b<w.heap.size:=by
 rcases Rs b w.heap.size with hb|hb
 .exact hb
 .have e:w.heap[b]?=none:=Array.getElem?_eq_none hb;simp[World.cell?,e]at h
variable {w':World}{r:Option Nat}
theorem Qt(hg:w.grownBy w' r){b o:Nat}{v:Value}(h:w.cell? ⟨b,o,none⟩=some v)(hr:some b≠r:=by simp):w'.cell? ⟨b,o,none⟩=some v:=by rw[kI (w:=w) (hg.block b (Tp h) hr),h]
theorem zcZ(a b c:Value)(w:World):(Instr.field 135 (.agg #[a,b,c]) 0).run prog w=.ok a w:=by kernel_rfl
theorem zc0(a b c:Value)(w:World):(Instr.field 135 (.agg #[a,b,c]) 1).run prog w=.ok b w:=by kernel_rfl
theorem zc1(a b c:Value)(w:World):(Instr.field 135 (.agg #[a,b,c]) 2).run prog w=.ok c w:=by kernel_rfl
theorem P9(n:Int)(h₀:0<=n)(h₁:n<2 ^ 63):IntKind.i64.wrap n=n:=by rw[uv];omega
variable {x:Int}
theorem zyg(h0:0<=x)(h1:x<9223372036854775808):bits .and .i64 x 15=x%16:=bits_mask .i64 63 (by decide) P9 4 (by decide) x h0 h1
theorem zu5(h0:0<=x)(h1:x<9223372036854775808):bits .and .i64 x 4095=x%4096:=bits_mask .i64 63 (by decide) P9 12 (by decide) x h0 h1
theorem and_3(h0:0<=x)(h1:x<9223372036854775808):bits .and .i64 x 3=x%4:=bits_mask .i64 63 (by decide) P9 2 (by decide) x h0 h1
theorem zpE(i:Nat){y:Int}(hx₀:0<=x)(hx:x%2 ^ i=0)(hx₁:x<9223372036854775808)(hy₀:0<=y)(hy:y<2 ^ i)(hy₁:y<9223372036854775808:=by omega):bits .or .i64 x y=x+y:=
 bits_join .i64 63 (by decide) P9 i x y hx₀ hx hx₁ hy₀ hy hy₁
theorem zl5(h1:-9223372036854775808<=x)(h2:x<9223372036854775808:=by omega):bits .xor .i64 (-1) x=-x-1:=by
 have e:BitVec.ofInt 64 (-1)=BitVec.allOnes 64:=by decide
 show IntKind.i64.wrap ((BitVec.ofInt 64 (-1) ^^^ BitVec.ofInt 64 x).toNat)=_;rw[e,BitVec.allOnes_xor,BitVec.toNat_not,BitVec.toNat_ofInt,uv];omega
def Hd (k a c:Nat):Int:=(a:Int)*65536+(c:Int)*16+(k:Int)
def Mk (k a:Nat):Int:=-((a:Int)*4+(k:Int))-1
theorem Tr{a b:Int}(h:a=b):Ending.returned (.int .i64 a)=.returned (.int .i64 b):=by rw[h]
theorem QM(h:Int)(w:World)(h0:0<=h)(h1:h<9223372036854775808:=by omega):
  Calls prog 83 #[.int .i64 h] w λe w'=>e=.returned (.int .i64 (h%16))/\w'=w:=by
 go_enter func83,ntmps83;go_wp2;go_ret;exact⟨Tr (zyg h0 h1),rfl⟩
theorem Sq(h:Int)(w:World)(h0:0<=h)(h1:h<9223372036854775808):
  Calls prog 85 #[.int .i64 h] w λe w'=>e=.returned (.int .i64 (h/16%4096))/\w'=w:=by
 go_enter func85,ntmps85;go_wp2;go_ret;exact⟨Tr (zu5 (by omega) (by omega)),rfl⟩
theorem RL(h:Int)(w:World)(_h0:0<=h)(_h1:h<9223372036854775808):
  Calls prog 84 #[.int .i64 h] w λe w'=>e=.returned (.int .i64 (h/65536))/\w'=w:=by
 go_enter func84,ntmps84;go_wp2;go_ret;exact⟨Tr rfl,rfl⟩
theorem Rg(k a c:Nat)(w:World)(h1:k<16)(h3:c<4096)(h5:a<=1000000000:=by omega):
  Calls prog 75 #[.int .i64 k,.int .i64 a,.int .i64 c] w λe w'=>e=.returned (.int .i64 (Hd k a c))/\w'=w:=by
 have iB:(k:Int)<16:=by omega
 have uA:(c:Int)<4096:=by omega
 have DN:(a:Int)<=1000000000:=by omega
 go_enter func75,ntmps75;go_wp2;go_ret;refine⟨Tr ?_,rfl⟩;have e1:bits .or .i64 ((a:Int)*65536) ((c:Int)*16)=(a:Int)*65536+(c:Int)*16:=zpE 16 (by omega) (by omega) (by omega) (by omega) (by omega);rw[e1,zpE 4 (by omega) (by omega) (by omega) (by omega) (by omega)];rfl
theorem YP(k a:Nat)(w:World)(h1:k<4)(h5:a<=1000000000:=by omega):
  Calls prog 138 #[.int .i64 k,.int .i64 a] w λe w'=>e=.returned (.int .i64 (Mk k a))/\w'=w:=by
 have iB:(k:Int)<4:=by omega
 have DN:(a:Int)<=1000000000:=by omega
 go_enter func138,ntmps138;go_wp2_with fail
 all_goals
  go_ret;refine⟨Tr ?_,rfl⟩;rw[zpE 2 (by omega) (by omega) (by omega) (by omega) (by omega),zl5 (by omega)];rfl
theorem zoV(k a:Nat)(w:World)(h1:k<4)(h5:a<=1000000000):
  Calls prog 202 #[.int .i64 (Mk k a)] w λe w'=>e=.returned (.int .i64 k)/\w'=w:=by
 obtain⟨x,hx⟩:∃x,Mk k a=x:=⟨_,rfl⟩;rw[hx];have ee:-10000000000<=x:=by rw[<-hx,Mk];omega
 have tE:x<0:=by rw[<-hx,Mk];omega
 have HX:=eu hx;clear hx;go_enter func202,ntmps202;go_wp2_with fail
 all_goals
  go_ret;refine⟨Tr ?_,rfl⟩;rw[zl5 (by omega),and_3 (by omega) (by omega)];have:=HX.o;rw[Mk]at this;omega
theorem znd(k a:Nat)(w:World)(h1:k<4)(h5:a<=1000000000):
  Calls prog 204 #[.int .i64 (Mk k a)] w λe w'=>e=.returned (.int .i64 a)/\w'=w:=by
 obtain⟨x,hx⟩:∃x,Mk k a=x:=⟨_,rfl⟩;rw[hx];have ee:-10000000000<=x:=by rw[<-hx,Mk];omega
 have tE:x<0:=by rw[<-hx,Mk];omega
 have HX:=eu hx;clear hx;go_enter func204,ntmps204;go_wp2_with fail
 all_goals
  go_ret;refine⟨Tr ?_,rfl⟩;rw[zl5 (by omega)];have:=HX.o;rw[Mk]at this;omega
theorem zlQ(h:Int)(w:World)(h0:0<=h)(h1:h<9223372036854775808):
  Calls prog 200 #[.int .i64 h] w λe w'=>e=.returned (.int .i64 (if h%16=0 then 2 else 1+h/16%4096))/\w'=w:=by
 by_cases hk:h%16=0
 .rw[nB hk];have hb:(h%16 == 0)=true:=beq_iff_eq.2 hk;clear hk;go_enter func200,ntmps200;go_wp2_with (first|(go_at_call 83;refine(QM _ _ h0 h1).mono ?_;rintro e w'⟨rfl,rfl⟩)|(go_at_call 85;refine(Sq _ _ h0 h1).mono ?_;rintro e w'⟨rfl,rfl⟩));go_ret;exact⟨rfl,rfl⟩
 .rw[pL hk];have hb:(h%16 == 0)=false:=beq_eq_false_iff_ne.2 hk;have pU:0<=h/16%4096:=by omega
  have bH:h/16%4096<4096:=by omega
  clear hk;go_enter func200,ntmps200;go_wp2_with (first|(go_at_call 83;refine(QM _ _ h0 h1).mono ?_;rintro e w'⟨rfl,rfl⟩)|(go_at_call 85;refine(Sq _ _ h0 h1).mono ?_;rintro e w'⟨rfl,rfl⟩));go_ret;exact⟨rfl,rfl⟩
variable {k c:Nat}
theorem Pg{a:Nat}(h1:k<16:=by omega):Hd k a c%16=k:=by unfold Hd;omega
theorem UE{a:Nat}(h1:k<16)(h2:c<4096):Hd k a c/16%4096=c:=by unfold Hd;omega
theorem RP{a:Nat}(h1:k<16)(h2:c<4096:=by omega):Hd k a c/65536=a:=by unfold Hd;omega
theorem Tm(k:Int)(w:World):
  Calls prog 126 #[.int .i64 k] w λe w'=>e=.panicked [{ v:=.iface 82 (.int .i64 k),recovered:=false }]/\w'=w:=by
 go_enter func126,ntmps126;go_wp2_with fail;exact⟨rfl,rfl,rfl⟩
end Go.Proofs.YtgahgkddaljmkaaGreatDoor
namespace Go.Proofs.YtgahgkddaljmkaaGreatDoor
open Tryz
open Go.RowKit
attribute [local go_sem ↓] Go.wp_at_zero Go.wp_at_succ
structure nG where
 ws:List Int
 half:Nat
 low:Nat
 free:Nat
 top:Nat
def MG (ws:List Int):List Value:=ws.map (λx=>.int .i64 x)
def UP (wb:Nat) (s:nG):List Value:=[.slice (some ⟨wb,0,none⟩) s.ws.length s.ws.length,.int .i64 s.half,.int .i64 s.low,.int .i64 s.free,.int .i64 s.top]
structure qS (w:World) (mb wb:Nat) (tl:List Value) (s:nG):Prop where
 blk:oH w mb (UP wb s++tl) 81
 MX:oH w wb (MG s.ws) 2
 ne:mb≠wb
 len:s.ws.length<=1000000
 half:s.half<=1000000
 low:s.low<=1000000
 free:s.free<=1000000
 top:s.top<=1000000
theorem YD(ws:List Int)(i:Nat):(MG ws)[i]?=(ws[i]?).map (λx=>.int .i64 x):=by simp[MG]
theorem Rb(ws:List Int):(MG ws).length=ws.length:=by simp[MG]
variable {w:World}{mb wb:Nat}{tl:List Value}{s:nG}{i:Nat}{x:Int}
theorem qS.word(h:qS w mb wb tl s)(hx:s.ws[i]?=some x):w.cell? ⟨wb,i,none⟩=some (.int .i64 x):=by rw[h.MX.cell,YD,hx];rfl
structure Fr (K:Nat->Prop) (a b:World):Prop where
 os:b.os=a.os
 tape:b.tape=a.tape
 output:b.output=a.output
 size:a.heap.size<=b.heap.size
 block:∀k,k<a.heap.size->¬K k->b.heap[k]?=a.heap[k]?
theorem Fr.refl(K:Nat->Prop)(w:World):Fr K w w:=⟨rfl,rfl,rfl,qP _,λ_ _ _=>rfl⟩
abbrev eU:=@Fr.refl
theorem Fr.trans{K:Nat->Prop}{a b c:World}(h:Fr K a b)(k:Fr K b c):Fr K a c:=
 ⟨k.os.trans h.os,k.tape.trans h.tape,k.output.trans h.output,yM h.size k.size,λi hi hK=>(k.block i (Kl hi h.size) hK).trans (h.block i hi hK)⟩
variable {K:Nat->Prop}{a b:World}
theorem Fr.mono{L:Nat->Prop}(h:Fr K a b)(hk:∀i,K i->L i):Fr L a b:=⟨h.os,h.tape,h.output,h.size,λi hi hL=>h.block i hi (λx=>hL (hk i x))⟩
theorem Fr.below(h:Below a.heap.size a b):Fr K a b:=⟨h.os,h.tape,h.output,h.size,λk hk _=>h.block k hk⟩
abbrev oq:=@Fr.below
theorem Fr.set(h:Fr K a b)(p:Addr)(v:Value)(hp:K p.block\/a.heap.size<=p.block):Fr K a (b.setCell p v):=
 ⟨h.os,h.tape,h.output,by simp[World.setCell];exact h.size,λk hk hK=>by rw[Below.heap_setCell _ _ _ _ (by rintro rfl;rcases hp with hp|hp;exact hK hp;omega)];exact h.block k hk hK⟩
abbrev IL:=@Fr.set
theorem Fr.drew{K:Nat->Prop}{a b:World}(h:Fr K a b):Fr K a b.drew:=⟨h.os,h.tape,h.output,h.size,h.block⟩
theorem Fr.alloc{K:Nat->Prop}{a b:World}(h:Fr K a b)(o:Obj):Fr K a (b.alloc o):=h.trans (oq (Mi b o))
variable {k:Nat}{vs:List Value}{t:TypeId}
theorem Fr.blk(h:oH a k vs t)(f:Fr K a b)(hk:¬K k:=by simp):oH b k vs t:=by have hl:=h.lt;unfold oH at *;rw[f.block k hl hk,h]
abbrev gd:=@Fr.blk
def M2 (mb wb:Nat):Nat->Prop:=λk=>k=mb\/k=wb
theorem zoe{ws:List Int}(h:ws.length=s.ws.length):UP wb { s with ws:=ws }=UP wb s:=by simp[UP,h]
theorem qS.VE(h:qS w mb wb tl s)(v:Nat)(hv:v<=1000000:=by omega):qS (w.setCell ⟨mb,4,none⟩ (.int .i64 v)) mb wb tl { s with top:=v }:=
 ⟨h.blk.set 4 (.int .i64 v),h.MX.other _ _ h.ne.symm,h.ne,h.len,h.half,h.low,h.free,hv⟩
theorem qS.Xr(h:qS w mb wb tl s)(v:Nat)(hv:v<=1000000:=by omega):qS (w.setCell ⟨mb,3,none⟩ (.int .i64 v)) mb wb tl { s with free:=v }:=
 ⟨h.blk.set 3 (.int .i64 v),h.MX.other _ _ h.ne.symm,h.ne,h.len,h.half,h.low,hv,h.top⟩
theorem qS.zyw(h:qS w mb wb tl s)(v:Nat)(hv:v<=1000000):qS (w.setCell ⟨mb,2,none⟩ (.int .i64 v)) mb wb tl { s with low:=v }:=
 ⟨h.blk.set 2 (.int .i64 v),h.MX.other _ _ h.ne.symm,h.ne,h.len,h.half,hv,h.free,h.top⟩
theorem qS.QC(h:qS w mb wb tl s)(i:Nat)(x:Int):qS (w.setCell ⟨wb,i,none⟩ (.int .i64 x)) mb wb tl { s with ws:=s.ws.set i x }:=by
 refine⟨?_,?_,h.ne,by simp;exact h.len,h.half,h.low,h.free,h.top⟩
 .rw[zoe (by simp)];exact h.blk.other _ _ h.ne
 .have:=h.MX.set i (.int .i64 x);rw[show(MG s.ws).set i (.int .i64 x)=MG (s.ws.set i x)from by simp[MG,List.map_set]]at this;exact this
theorem qS.drew{w:World}{mb wb:Nat}{tl:List Value}{s:nG}(h:qS w mb wb tl s):qS w.drew mb wb tl s:=⟨h.blk.drew,h.MX.drew,h.ne,h.len,h.half,h.low,h.free,h.top⟩
variable {w':World}
theorem qS.fr(h:qS w mb wb tl s)(f:Fr K w w')(h1:¬K mb)(h2:¬K wb):qS w' mb wb tl s:=⟨gd h.blk f h1,gd h.MX f h2,h.ne,h.len,h.half,h.low,h.free,h.top⟩
theorem qS.below{w w':World}{mb wb:Nat}{tl:List Value}{s:nG}(h:qS w mb wb tl s)(f:Below w.heap.size w w'):qS w' mb wb tl s:=h.fr (K:=λ_=>False) (oq f) (by simp) (by simp)
theorem qS.c0(h:qS w mb wb tl s):w.cell? ⟨mb,0,none⟩=some (.slice (some ⟨wb,0,none⟩) s.ws.length s.ws.length):=h.blk.cell 0
theorem qS.c1(h:qS w mb wb tl s):w.cell? ⟨mb,1,none⟩=some (.int .i64 s.half):=h.blk.cell 1
theorem qS.c2(h:qS w mb wb tl s):w.cell? ⟨mb,2,none⟩=some (.int .i64 s.low):=h.blk.cell 2
theorem qS.c3(h:qS w mb wb tl s):w.cell? ⟨mb,3,none⟩=some (.int .i64 s.free):=h.blk.cell 3
theorem qS.c4(h:qS w mb wb tl s):w.cell? ⟨mb,4,none⟩=some (.int .i64 s.top):=h.blk.cell 4
theorem qS.Rl(h:qS w mb wb tl s)(hi:i<s.ws.length):w.cell? ⟨wb,i,none⟩=some (.int .i64 s.ws[i]):=h.word (Iv hi)
theorem QU{a b:Nat}(h:a≠b):∀(W:World)(o j:Nat)(v:Value),(W.setCell ⟨b,j,none⟩ v).cell? ⟨a,o,none⟩=W.cell? ⟨a,o,none⟩:=
 λW _o _j _v=>kI (w:=W) (Below.heap_setCell _ _ _ _ h)
theorem zb5(h:qS w mb wb tl s)(x:Int)(h1:1<=s.top)(h2:s.top<=s.ws.length):
  Calls prog 76 #[.pointer (some ⟨mb,0,none⟩),.int .i64 x] w λe w'=>e=.returned (.tuple #[])/\qS w' mb wb tl { s with top:=s.top-1,ws:=s.ws.set (s.top-1) x }/\Fr (M2 mb wb) w w':=by
 obtain⟨i,hi⟩:∃i,s.top=i+1:=⟨s.top-1,by omega⟩;have hlen:=h.len;have br:i<s.ws.length:=by omega
 have H1:=eu (h.VE i);have c4:w.cell? ⟨mb,4,none⟩=some (.int .i64 ((i:Int)+1)):=by rw[h.c4,hi];rfl
 have f4:=h.blk.frozen 4;have HP:Hid (Fr (M2 mb wb) w (w.setCell ⟨mb,4,none⟩ (.int .i64 i))):=eu ((eU _ _).set _ _ (.inl (.inl rfl)));have HI:Hid (s.top-1=i):=eu (by omega);have fP:=QU h.ne;clear h hi h1 h2;go_enter func76,ntmps76;go_wp2_with fail;generalize w.setCell ⟨mb,4,none⟩ (.int .i64 i)=w1 at H1 HP;have d0:=H1.o.c0;have d4:=H1.o.c4;have di:=H1.o.Rl (i:=i) br;have fi:=H1.o.MX.frozen i;have aA:(i:Int)<(s.ws.length:Int):=by omega
 have aw:(0:Int)<=(i:Int):=by omega
 simp only at d0 d4 di;clear c4 f4
 go_region_held3 (λW=>W.cell? ⟨mb,0,none⟩=some (.slice (some ⟨wb,0,none⟩) s.ws.length s.ws.length)/\W.cell? ⟨mb,4,none⟩=some (.int .i64 i)) (go_keep) (fail)
 all_goals
  go_wp2;go_end0
  refine⟨rfl,?_,?_⟩
  .have:=H1.o.drew.QC i x;rw[HI.o];exact this
  .exact HP.o.drew.set _ _ (.inl (.inr rfl))
theorem PI{α:Type}(L:List α)(o:Nat)(cs:List α)(h:o+cs.length<=L.length):(splice L o cs).length=L.length:=length_splice L o cs h
theorem zpA(ws xs:List Int)(o:Nat):MG (splice ws o xs)=splice (MG ws) o (MG xs):=by simp[MG,splice,List.map_take,List.map_drop]
theorem qS.splice{w:World}{mb wb:Nat}{tl:List Value}{s:nG}(h:qS w mb wb tl s)(o:Nat)(xs:List Int)(hf:o+xs.length<=s.ws.length):qS (w.setRow wb ((MG s.ws).take o++(MG xs++(MG s.ws).drop (o+(MG xs).length))).toArray) mb wb tl { s with ws:=Go.splice s.ws o xs }:=by
 refine⟨?_,?_,h.ne,by rw[PI _ _ _ hf];exact h.len,h.half,h.low,h.free,h.top⟩
 .rw[zoe (PI _ _ _ hf)];have:=h.blk;unfold oH at *;rw[Jz w wb mb _ h.ne];exact this
 .have:=h.MX;unfold oH at *;rw[zpA];exact J6 w wb _ _ 2 _ this
theorem Fr.setRow{K:Nat->Prop}{a b:World}(h:Fr K a b)(g:Nat)(cs:Array Value)(hg:K g):Fr K a (b.setRow g cs):=
 ⟨h.os,h.tape,h.output,by simp[World.setRow];exact h.size,λk hk hK=>by rw[Jz b g k cs (by rintro rfl;exact hK hg)];exact h.block k hk hK⟩
theorem zmo(xs:List Int):∀v∈MG xs,v.oneCell'=true:=by intro v hv;simp only[MG,Ro]at hv;obtain⟨x,_,rfl⟩:=hv;rfl
theorem YW:(prog.info? 2).map (·.size)=some 1:=by kernel_rfl
theorem Tg{ops:Array Oper}{o:Oper}{a:Act}{K:Act->World->Prop}{Q:Exit->Act->World->Prop}{E:Prop}(oY:o.guard=none)(d sr:Operand)(ho:o.op=.call { callee:=.builtin .copy,args:=#[d,sr],argTypes:=#[76,76] })(h:qS w mb wb tl s)(off eF gi eJ gz:Nat)(sp:Option Addr)(hd:a.eval d=.slice (some ⟨wb,off,none⟩) eF gi)(hs:a.eval sr=.slice sp eJ gz)(xs:List Int)(hn:xs.length=Nat.min eJ eF)(dX:0<xs.length->∃ad,sp=some ad/\∀(j:Nat)x,xs[j]?=some x->w.cell? (ad.add j)=some (.int .i64 x))(aJ:off+xs.length<=s.ws.length)(hk:∀w',qS w' mb wb tl { s with ws:=Go.splice s.ws off xs }->Fr (M2 mb wb) w w'->K (a.put o.dst (goInt xs.length)) w'):if Region.wanted o (yielded ops a.tmps)=true then Oper.wp prog o a w K Q else E:=by
 have hw:Region.wanted o (yielded ops a.tmps)=true:=by simp[Region.wanted,oY]
 rw[nB hw];by_cases h0:xs.length=0
 .have dI:=run_copy_none (P:=prog) w 76 76 o.type 2 (some ⟨wb,off,none⟩) sp eF gi eJ gz underlying76 YW (by rw[<-hn];exact h0);unfold Oper.wp;simp[execOp,ho,resolve,invoke,builtin,hd,hs,dI,Result.andThen];have e:Go.splice s.ws off xs=s.ws:=by rw[Sc h0];simp[Go.splice]
  have:=hk w (by rw[e];exact h) (eU _ _);rw[h0]at this;exact this
 .obtain⟨ad,rfl,hc⟩:=dX (by omega);have dI:=run_copy_row (P:=prog) w 76 76 o.type 2 wb off eF gi ad eJ gz (MG s.ws).toArray 2 (MG xs) underlying76 YW h.MX (by rw[Rb];exact hn) (λj v hj=>by
   rw[YD]at hj;obtain⟨x,hx,rfl⟩:=M9.1 hj;exact hc j x hx) (by simp[Rb];exact aJ) (zmo xs)
  unfold Oper.wp;simp[execOp,ho,resolve,invoke,builtin,hd,hs,dI,Result.andThen];have:=hk _ (h.splice off xs aJ) ((eU _ _).setRow wb _ (.inr rfl));simp only[Rb]at this|-;exact this
theorem Vy(h:qS w mb wb tl s):
  Calls prog 78 #[.pointer (some ⟨mb,0,none⟩)] w λe w'=>e=.returned (.int .i64 ((s.low+s.half:Nat):Int))/\∃n,w'=w.drewN n:=by
 have c1:=h.c1;have c2:=h.c2;have b1:=h.half;have b2:=h.low;clear h;go_enter func78,ntmps78;go_wp2_with fail
 go_quiet (fail)
 go_wp2;go_ret;exact⟨by simp,_,rfl⟩
theorem zms(h:qS w mb wb tl s):
  Calls prog 124 #[.pointer (some ⟨mb,0,none⟩)] w λe w'=>e=.returned (.int .i64 ((s.top:Int)-s.free))/\∃n,w'=w.drewN n:=by
 have c1:=h.c3;have c2:=h.c4;have b1:=h.free;have b2:=h.top;clear h;go_enter func124,ntmps124;go_wp2_with fail
 go_quiet (fail)
 go_wp2;go_ret;exact⟨by simp,_,rfl⟩
theorem Yf(h:qS w mb wb tl s)(c:Nat)(hc:s.top+c<=1000000):
  Calls prog 137 #[.pointer (some ⟨mb,0,none⟩),.int .i64 c] w λe w'=>e=.returned (.tuple #[])/\qS w' mb wb tl { s with top:=s.top+c }/\Fr (M2 mb wb) w w':=by
 have c4:=h.c4;have f4:=h.blk.frozen 4;have HH:=eu h;clear h;go_enter func137,ntmps137;go_wp2;go_end0
 refine⟨rfl,?_,(eU _ _).set _ _ (.inl (.inl rfl))⟩;have:=HH.o.VE (s.top+c) hc;simpa using this
theorem P6(h:qS w mb wb tl s)(d:Nat)(x:Int)(hx:s.ws[s.top+d]?=some x):
  Calls prog 82 #[.pointer (some ⟨mb,0,none⟩),.int .i64 d] w λe w'=>e=.returned (.int .i64 x)/\∃n,w'=w.drewN n:=by
 have c0:=h.c0;have c4:=h.c4;have cw:=h.word hx;have hl:s.top+d<s.ws.length:=(Dq.1 hx).1;have hlen:=h.len;have aA:(s.top:Int)+(d:Int)<(s.ws.length:Int):=by omega
 clear h hx;go_enter func82,ntmps82;go_wp2_with fail
 go_quiet (fail)
 go_wp2;go_ret;exact⟨by simp,_,rfl⟩
def cutAt (len lo:Nat):Nat:=if len=lo then 0 else lo
theorem QQ{len lo:Nat}(h:lo<len:=by omega):cutAt len lo=lo:=by unfold cutAt;rw[qj]
theorem Xf(h:qS w mb wb tl s)(c:Nat)(hc:s.top+c<=s.ws.length):
  Calls prog 136 #[.pointer (some ⟨mb,0,none⟩),.int .i64 c] w λe w'=>e=.returned (.slice (some ⟨wb,cutAt s.ws.length s.top,none⟩) c (s.ws.length-s.top))/\∃n,w'=w.drewN n:=by
 have c0:=h.c0;have c4:=h.c4;have hlen:=h.len;have aA:(s.top:Int)+(c:Int)<=(s.ws.length:Int):=by omega
 clear h;go_enter func136,ntmps136;go_wp2_with fail
 go_quiet (fail)
 go_wp2_with fail
 all_goals
  go_ret;refine⟨?_,_,rfl⟩;simp[cutAt, *]
theorem Vg(h:qS w mb wb tl s)(a:Nat)(x:Int)(hx:s.ws[a]?=some x)(h0:0<=x)(h1:x<9223372036854775808)(hc:a+1+(x/16%4096).toNat<=s.ws.length):
  Calls prog 135 #[.pointer (some ⟨mb,0,none⟩),.int .i64 a] w λe w'=>e=.returned (.slice (some ⟨wb,cutAt s.ws.length (a+1),none⟩) (x/16%4096).toNat (s.ws.length-(a+1)))/\∃n,w'=w.drewN n:=by
 have c0:=h.c0;have cw:=h.word hx;have hlen:=h.len;have hl:(a:Int)<(s.ws.length:Int):=by have:=(Dq.1 hx).1;omega
 obtain⟨c,ic⟩:∃c:Nat,(x/16%4096)=(c:Int):=⟨(x/16%4096).toNat,by omega⟩;have iG:(x/16%4096).toNat=c:=by omega
 rw[iG]at hc|-;have aA:(a:Int)+1+(c:Int)<=(s.ws.length:Int):=by omega
 have HC:=eu (λW:World=>Sq x W h0 h1);rw[ic]at HC;clear h hx ic iG h0 h1;go_enter func135,ntmps135;go_wp2_with fail
 go_quiet ((go_at_call 85;exact qQ (HC.o _)))
 go_wp2_with fail
 all_goals
  go_ret;refine⟨?_,_,rfl⟩;simp[cutAt, *]
theorem zpK(h:qS w mb wb tl s)(xs:List Int)(sp:Option Addr)(cp:Nat)(dX:0<xs.length->∃ad,sp=some ad/\∀(W:World),qS W mb wb tl { s with top:=s.top-xs.length }->Fr (M2 mb wb) w W->∀(j:Nat)x,xs[j]?=some x->W.cell? (ad.add j)=some (.int .i64 x))(h1:xs.length<=s.top)(h2:s.top<=s.ws.length):
  Calls prog 201 #[.pointer (some ⟨mb,0,none⟩),.slice sp xs.length cp] w λe w'=>e=.returned (.tuple #[])/\qS w' mb wb tl { s with top:=s.top-xs.length,ws:=Go.splice s.ws (s.top-xs.length) xs }/\Fr (M2 mb wb) w w':=by
 obtain⟨i,hi⟩:∃i,s.top=i+xs.length:=⟨s.top-xs.length,by omega⟩;have l9:s.top-xs.length=i:=by omega
 rw[l9]at dX|-;have hlen:=h.len;have H1:=eu (h.VE i);have c4:w.cell? ⟨mb,4,none⟩=some (.int .i64 ((i:Int)+(xs.length:Int))):=by rw[h.c4,hi];rfl
 have f4:=h.blk.frozen 4;have HP:Hid (Fr (M2 mb wb) w (w.setCell ⟨mb,4,none⟩ (.int .i64 i))):=eu ((eU _ _).set _ _ (.inl (.inl rfl)));have HS:=eu dX;have br:i+xs.length<=s.ws.length:=by omega
 have aA:(i:Int)<=(s.ws.length:Int):=by omega
 have aw:(0:Int)<=(i:Int):=by omega
 have bD:(i:Int)+(xs.length:Int)<=1000000:=by omega
 clear h hi h1 h2 l9 dX;go_enter func201,ntmps201;go_wp2_with fail;generalize w.setCell ⟨mb,4,none⟩ (.int .i64 i)=w1 at H1 HP;have d0:=H1.o.c0;have d4:=H1.o.c4;simp only at d0 d4;have pJ:Hid (0<xs.length->∃ad,sp=some ad/\∀(j:Nat)x,xs[j]?=some x->w1.drew.cell? (ad.add j)=some (.int .i64 x)):=eu (λh0=>by obtain⟨ad,h1,h2⟩:=HS.o h0;exact⟨ad,h1,λj x hj=>h2 w1.drew H1.o.drew HP.o.drew j x hj⟩)
 clear c4 f4 HS;by_cases hr:s.ws.length=i
 .have hx:xs=[]:=Sc (by omega);subst hx
  go_region_held3 (λW=>W.cell? ⟨mb,0,none⟩=some (.slice (some ⟨wb,0,none⟩) s.ws.length s.ws.length)/\W.cell? ⟨mb,4,none⟩=some (.int .i64 i)) (first|go_keep|(refine⟨?_,?_⟩<;>assumption)) (first
   |(refine Tg (by rfl) _ _ (by rfl) H1.o.drew _ _ _ _ _ _ (by rfl) (by rfl) [] (by simp) (λh=>absurd h (by simp)) (by simp) ?_;intro w3 h3 f3;have H3:=eu h3;have F3:=eu f3;have e0:=h3.c0;have e4:=h3.c4;simp only[splice,Rp,MQ,Sb,My,PU]at e0 e4;clear h3 f3))
  all_goals
   go_wp2;go_end0
   refine⟨rfl,?_,HP.o.trans ((eU _ _).drew.trans F3.o)⟩;have:=H3.o;simpa[splice]using this
 .have aj:i<s.ws.length:=by omega
  go_region_held3 (λW=>W.cell? ⟨mb,0,none⟩=some (.slice (some ⟨wb,0,none⟩) s.ws.length s.ws.length)/\W.cell? ⟨mb,4,none⟩=some (.int .i64 i)) (first|go_keep|(refine⟨?_,?_⟩<;>assumption)) (first
   |(refine Tg (by rfl) _ _ (by rfl) H1.o.drew i _ _ _ _ _ (by rfl) (by rfl) xs (by simp[Nat.min_def];omega) pJ.o br ?_;intro w3 h3 f3;have H3:=eu h3;have F3:=eu f3;have e0:=h3.c0;have e4:=h3.c4;simp only[PI _ _ _ br]at e0 e4;clear h3 f3))
  all_goals
   go_wp2;go_end0
   exact⟨rfl,H3.o,HP.o.trans ((eU _ _).drew.trans F3.o)⟩
theorem YM(h:qS w mb wb tl s)(ty:TypeId)(off eF gi eJ gz:Nat)(sp:Option Addr)(xs:List Int)(hn:xs.length=Nat.min eJ eF)(dX:0<xs.length->∃ad,sp=some ad/\∀(j:Nat)x,xs[j]?=some x->w.cell? (ad.add j)=some (.int .i64 x))(aJ:off+xs.length<=s.ws.length):
  ∃w',(Builtin.copy_ #[76,76] ty #[.slice (some ⟨wb,off,none⟩) eF gi,.slice sp eJ gz]).run prog w=.ok (goInt xs.length) w'/\qS w' mb wb tl { s with ws:=Go.splice s.ws off xs }/\Fr (M2 mb wb) w w':=by
 by_cases h0:xs.length=0
 .have dI:=run_copy_none (P:=prog) w 76 76 ty 2 (some ⟨wb,off,none⟩) sp eF gi eJ gz underlying76 YW (by rw[<-hn];exact h0);have e:Go.splice s.ws off xs=s.ws:=by rw[Sc h0];simp[Go.splice]
  exact⟨w,by rw[dI,h0];rfl,by rw[e];exact h,eU _ _⟩
 .obtain⟨ad,rfl,hc⟩:=dX (by omega);have dI:=run_copy_row (P:=prog) w 76 76 ty 2 wb off eF gi ad eJ gz (MG s.ws).toArray 2 (MG xs) underlying76 YW h.MX (by rw[Rb];exact hn) (λj v hj=>by
   rw[YD]at hj;obtain⟨x,hx,rfl⟩:=M9.1 hj;exact hc j x hx) (by simp[Rb];exact aJ) (zmo xs)
  refine⟨_,?_,h.splice off xs aJ,(eU _ _).setRow wb _ (.inr rfl)⟩;rw[dI,Rb];simp[]
theorem UG(h:qS w mb wb tl s)(hd:Int)(xs:List Int)(sp:Option Addr)(cp:Nat)(hf:s.free+1+xs.length<=s.ws.length)(dX:0<xs.length->∃ad,sp=some ad/\∀(W:World),qS W mb wb tl { s with ws:=s.ws.set s.free hd }->Fr (M2 mb wb) w W->∀(j:Nat)x,xs[j]?=some x->W.cell? (ad.add j)=some (.int .i64 x)):
  Calls prog 74 #[.pointer (some ⟨mb,0,none⟩),.int .i64 hd,.slice sp xs.length cp] w λe w'=>e=.returned (.int .i64 s.free)/\qS w' mb wb tl { s with free:=s.free+1+xs.length,ws:=Go.splice (s.ws.set s.free hd) (s.free+1) xs }/\Fr (M2 mb wb) w w':=by
 obtain⟨ws,hh,lo,a,tp⟩:=s;simp only at hf dX|-;have hlen:ws.length<=1000000:=h.len;have aU:a<ws.length:=by omega
 have H1:=eu (h.QC a hd);have c0:w.cell? ⟨mb,0,none⟩=some (.slice (some ⟨wb,0,none⟩) ws.length ws.length):=h.c0;have c3:w.cell? ⟨mb,3,none⟩=some (.int .i64 a):=h.c3;have ca:w.cell? ⟨wb,a,none⟩=some (.int .i64 ws[a]):=h.Rl (i:=a) aU;have fa:=h.MX.frozen a;have HP:Hid (Fr (M2 mb wb) w (w.setCell ⟨wb,a,none⟩ (.int .i64 hd))):=eu ((eU _ _).set _ _ (.inl (.inr rfl)));have HS:=eu dX;have fP:=QU h.ne;have aA:(a:Int)+1<=(ws.length:Int):=by omega
 have aw:(0:Int)<=(a:Int):=by omega
 have bD:(a:Int)+1+(xs.length:Int)<=1000000:=by omega
 clear h dX;by_cases hr:ws.length=a+1
 .have hx:xs=[]:=Sc (by omega);subst hx;obtain⟨w2,dI,h2,f2⟩:=YM H1.o 3 0 0 0 0 cp sp [] (by simp) (λh=>absurd h (by simp)) (by simp);have H2:=eu h2;have F2:=eu (HP.o.trans f2);have e3:=h2.c3;have g3:=h2.blk.frozen 3;simp only at e3;clear h2 f2 HS;go_enter func74,ntmps74;go_wp2;go_ret;refine⟨rfl,?_,F2.o.set _ _ (.inl (.inl rfl))⟩;have:=H2.o.Xr (a+1);simpa[splice]using this
 .obtain⟨w2,dI,h2,f2⟩:=YM H1.o 3 (a+1) (ws.length-(a+1)) (ws.length-(a+1)) xs.length cp sp xs (by simp[Nat.min_def];omega) (λh0=>by
   obtain⟨ad,q1,q2⟩:=HS.o h0;exact⟨ad,q1,q2 _ H1.o HP.o⟩) (by simp;omega)
  have H2:=eu h2;have F2:=eu (HP.o.trans f2);have e3:=h2.c3;have g3:=h2.blk.frozen 3;simp only at e3;clear h2 f2 HS;go_enter func74,ntmps74;go_wp2;go_ret;refine⟨rfl,?_,F2.o.set _ _ (.inl (.inl rfl))⟩;have:=H2.o.Xr (a+1+xs.length);rw[show((a+1+xs.length:Nat):Int)=(a:Int)+(1+(xs.length:Int)) by omega]at this;exact this
theorem Pf(b o j:Nat):(⟨b,o,none⟩:Addr).add j=⟨b,o+j,none⟩:=by simp[Addr.add]
def nG.OU (s:nG):nG:=
 let n:=s.low+s.half-s.top
 let t:=s.half-s.low+s.half-n
 { s with low:=s.half-s.low,free:=s.half-s.low,top:=t,ws:=splice s.ws t ((s.ws.drop s.top).take n) }
theorem zwy(h:qS w mb wb tl s)(h1:s.low<=s.half)(h2:2*s.half<=s.ws.length)(h3:s.low<=s.top)(h4:s.top<=s.low+s.half):
  Calls prog 198 #[.pointer (some ⟨mb,0,none⟩)] w λe w'=>e=.returned (.tuple #[])/\qS w' mb wb tl s.OU/\Fr (M2 mb wb) w w':=by
 obtain⟨ws,hf,lo,fr,tp⟩:=s;simp only at h1 h2 h3 h4;have hlen:ws.length<=1000000:=h.len;have c0:w.cell? ⟨mb,0,none⟩=some (.slice (some ⟨wb,0,none⟩) ws.length ws.length):=h.c0;have c1:w.cell? ⟨mb,1,none⟩=some (.int .i64 hf):=h.c1;have c2:w.cell? ⟨mb,2,none⟩=some (.int .i64 lo):=h.c2;have c4:w.cell? ⟨mb,4,none⟩=some (.int .i64 tp):=h.c4;have f2:=h.blk.frozen 2;have CE:=eu (λ(n:Nat)=>Vy (s:=⟨ws,hf,lo,fr,tp⟩) (w:=w.drewN n) ⟨h.blk,h.MX,h.ne,h.len,h.half,h.low,h.free,h.top⟩);simp only[OC]at CE;have HH:=eu h;have aA:(lo:Int)<=(hf:Int):=by omega
 have aw:(tp:Int)<=(lo:Int)+(hf:Int):=by omega
 have bD:(lo:Int)+(hf:Int)<=(ws.length:Int):=by omega
 clear h;go_enter func198,ntmps198;go_wp2_with fail
 go_quiet ((go_at_call 78;exact qV (CE.o _)))
 obtain⟨oa,o7⟩:∃oa,(if ws.length=tp then some (⟨wb,0,none⟩:Addr)else some ⟨wb,tp,none⟩)=oa:=⟨_,rfl⟩;rw[o7];have Co:=eu o7;have pE:Hid (Fr (M2 mb wb) w (w.drewN nq)):=eu ⟨rfl,rfl,rfl,qP _,λ_ _ _=>rfl⟩;have H0:Hid (qS (w.drewN nq) mb wb tl ⟨ws,hf,lo,fr,tp⟩):=eu ⟨HH.o.blk,HH.o.MX,HH.o.ne,HH.o.len,HH.o.half,HH.o.low,HH.o.free,HH.o.top⟩;clear o7 CE HH c0 c1 c2 c4 f2;generalize w.drewN nq=w0 at pE H0;have c1:w0.cell? ⟨mb,1,none⟩=some (.int .i64 hf):=H0.o.c1;have c2:w0.cell? ⟨mb,2,none⟩=some (.int .i64 lo):=H0.o.c2;have f2:=H0.o.blk.frozen 2;obtain⟨l2,aC⟩:∃l2:Nat,hf-lo=l2:=⟨_,rfl⟩;obtain⟨n,hn⟩:∃n:Nat,lo+hf-tp=n:=⟨_,rfl⟩;obtain⟨t,mi⟩:∃t:Nat,l2+hf-n=t:=⟨_,rfl⟩;rw[hn];have HL:Hid (IntKind.i64.wrap ((hf:Int)-(lo:Int))=(l2:Int)):=eu (by rw[P9 _ (by omega) (by omega)];omega);have iJ:n<=hf:=by omega
 have C5:Hid ((l2:Int)+(hf:Int)-(n:Int)=(t:Int)):=eu (by omega);have tj:t+n=l2+hf:=by omega
 have EN:l2<=hf:=by omega
 have aJ:t+n<=ws.length:=by omega
 have HT:Hid ((⟨ws,hf,lo,fr,tp⟩:nG).OU=⟨splice ws t ((ws.drop tp).take n),hf,l2,l2,t⟩):=eu (by unfold nG.OU;simp only[aC,hn,mi])
 have dk:((ws.drop tp).take n).length=n:=by rw[NQ,Oo];omega
 have kG:Hid (0<n->oa=some ⟨wb,tp,none⟩):=eu (λh0=>by rw[<-Co.o,qj]);have Fh:tp+n<=ws.length:=by omega
 clear aC hn mi;go_wp2_with fail
 go_region_with (fail)
 all_goals
  rw[HL.o];have H1:=eu ((H0.o.zyw l2 (by omega)).drew);have F1:=eu ((pE.o.set ⟨mb,2,none⟩ (.int .i64 l2) (.inl (.inl rfl))).drew);generalize(w0.setCell ⟨mb,2,none⟩ (.int .i64 l2)).drew=w1 at H1 F1;clear c1 c2 f2;have c2:w1.cell? ⟨mb,2,none⟩=some (.int .i64 l2):=H1.o.c2;have c3:w1.cell? ⟨mb,3,none⟩=some (.int .i64 fr):=H1.o.c3;have f3:=H1.o.blk.frozen 3;have H2:=eu (H1.o.Xr l2);have F2:=eu (F1.o.set ⟨mb,3,none⟩ (.int .i64 l2) (.inl (.inl rfl)));have CE:=eu (Vy H2.o);go_wp2_with fail;refine CE.o.mono ?_;rintro e w3⟨rfl,k3,bL⟩;have H3:Hid (qS w3 mb wb tl ⟨ws,hf,l2,l2,tp⟩):=eu (by rw[bL];exact⟨H2.o.blk,H2.o.MX,H2.o.ne,H2.o.len,H2.o.half,H2.o.low,H2.o.free,H2.o.top⟩);have F3:Hid (Fr (M2 mb wb) w w3):=eu (by rw[bL];exact⟨F2.o.os,F2.o.tape,F2.o.output,F2.o.size,F2.o.block⟩);clear bL c2 c3 f3 CE;have c4:w3.cell? ⟨mb,4,none⟩=some (.int .i64 tp):=H3.o.c4;have f4:=H3.o.blk.frozen 4;simp only[OC];go_wp2_with fail;rw[C5.o];have H4:=eu (H3.o.VE t);have F4:=eu (F3.o.set ⟨mb,4,none⟩ (.int .i64 t) (.inl (.inl rfl)));generalize w3.setCell ⟨mb,4,none⟩ (.int .i64 t)=w4 at H4 F4;clear c4 f4;have d0:w4.cell? ⟨mb,0,none⟩=some (.slice (some ⟨wb,0,none⟩) ws.length ws.length):=H4.o.c0;have d4:w4.cell? ⟨mb,4,none⟩=some (.int .i64 t):=H4.o.c4;have od:(t:Int)<=(ws.length:Int):=by omega
  have mg:(0:Int)<=(t:Int):=by omega
  have pJ:Hid (0<((ws.drop tp).take n).length->∃ad,oa=some ad/\∀(j:Nat)x,((ws.drop tp).take n)[j]?=some x->w4.drew.cell? (ad.add j)=some (.int .i64 x)):=eu (λh0=>by
   rw[dk]at h0;refine⟨_,kG.o h0,λj x hj=>?_⟩;have sA:j<n:=by have:=(Dq.1 hj).1;omega
   have hx:ws[tp+j]?=some x:=by rw[Qf,nB sA,Qe]at hj;exact hj
   rw[Pf];exact H4.o.drew.word hx)
  generalize(ws.drop tp).take n=xs at pJ HT dk;subst dk;by_cases hr:ws.length=t
  .have hx:xs=[]:=Sc (by omega);subst hx
   go_region_held3 (λW=>W.cell? ⟨mb,0,none⟩=some (.slice (some ⟨wb,0,none⟩) ws.length ws.length)/\W.cell? ⟨mb,4,none⟩=some (.int .i64 t)) (first|go_keep|(refine⟨?_,?_⟩<;>assumption)) (first
    |(refine Tg (by rfl) _ _ (by rfl) H4.o.drew _ _ _ _ _ _ (by rfl) (by rfl) [] (by simp) (λh=>absurd h (by simp)) (by simp) ?_;intro w5 h5 f5;have H5:=eu h5;have F5:=eu f5;have e0:=h5.c0;have e4:=h5.c4;simp only[splice,Rp,MQ,Sb,My,PU]at e0 e4;clear h5 f5))
   all_goals
    go_wp2;go_end0
    refine⟨rfl,?_,F4.o.trans ((eU _ _).drew.trans F5.o)⟩;rw[HT.o];have:=H5.o;simpa[splice]using this
  .have aj:t<ws.length:=by omega
   go_region_held3 (λW=>W.cell? ⟨mb,0,none⟩=some (.slice (some ⟨wb,0,none⟩) ws.length ws.length)/\W.cell? ⟨mb,4,none⟩=some (.int .i64 t)) (first|go_keep|(refine⟨?_,?_⟩<;>assumption)) (first
    |(refine Tg (by rfl) _ _ (by rfl) H4.o.drew t _ _ _ _ _ (by rfl) (by rfl) xs (by simp[Nat.min_def];omega) pJ.o aJ ?_;intro w5 h5 f5;have H5:=eu h5;have F5:=eu f5;have e0:=h5.c0;have e4:=h5.c4;simp only[PI _ _ _ aJ]at e0 e4;clear h5 f5))
   all_goals
    go_wp2;go_end0
    refine⟨rfl,?_,F4.o.trans ((eU _ _).drew.trans F5.o)⟩;rw[HT.o];exact H5.o
theorem qS.drewN{w:World}{mb wb:Nat}{tl:List Value}{s:nG}(h:qS w mb wb tl s)(n:Nat):qS (w.drewN n) mb wb tl s:=⟨h.blk,h.MX,h.ne,h.len,h.half,h.low,h.free,h.top⟩
theorem Fr.drewN{K:Nat->Prop}{a b:World}(h:Fr K a b)(n:Nat):Fr K a (b.drewN n):=⟨h.os,h.tape,h.output,h.size,h.block⟩
def behind (y:Int):Nat:=if y%16=0 then 1 else(y/16%4096).toNat
theorem zrl(h:qS w mb wb tl s)(a b:Nat)(x y:Int)(hx:s.ws[a]?=some x)(cX:0<=x)(ee:x<9223372036854775808)(hb:(b:Int)=if x%16=4 then x/65536 else a)(hy:s.ws[b]?=some y)(aT:0<=y)(bE:y<9223372036854775808)(hf:y%16=5):
  Calls prog 254 #[.pointer (some ⟨mb,0,none⟩),.int .i64 a] w λe w'=>e=.returned (.int .i64 (y/65536))/\qS w' mb wb tl s/\Fr (M2 mb wb) w w':=by
 have c0:=h.c0;have ca:=h.word hx;have cb:=h.word hy;have ha:(a:Int)<(s.ws.length:Int):=by have:=(Dq.1 hx).1;omega
 have cV:(b:Int)<(s.ws.length:Int):=by have:=(Dq.1 hy).1;omega
 have Fy:(y%16 == 5)=true:=beq_iff_eq.2 hf;have K1:=eu (λW:World=>QM x W cX ee);have K2:=eu (λW:World=>QM y W aT bE);have W1:=eu (λW:World=>RL x W cX ee);have W2:=eu (λW:World=>RL y W aT bE);have HH:=eu h;clear h hx hy hf;by_cases hm:x%16=4
 .rw[nB hm]at hb;have tF:(x%16 == 4)=true:=beq_iff_eq.2 hm;rw[<-hb]at W1;clear hm hb;go_enter func254,ntmps254;go_wp2_with fail;refine(K1.o _).mono ?_;rintro e w1⟨rfl,rfl⟩;go_wp2_with fail;refine(W1.o _).mono ?_;rintro e w1⟨rfl,rfl⟩;go_wp2_with fail;refine(K2.o _).mono ?_;rintro e w1⟨rfl,rfl⟩;go_wp2_with fail;refine(W2.o _).mono ?_;rintro e w1⟨rfl,rfl⟩;go_wp2;go_ret;exact⟨rfl,HH.o,eU _ _⟩
 .rw[pL hm]at hb;have tF:(x%16 == 4)=false:=beq_eq_false_iff_ne.2 hm;obtain rfl:b=a:=by omega
  have yk:x=y:=by have:=ca.symm.trans cb;simpa using this
  subst yk;clear hm hb;go_enter func254,ntmps254;go_wp2_with fail;refine(K1.o _).mono ?_;rintro e w1⟨rfl,rfl⟩;go_wp2_with fail;refine(K2.o _).mono ?_;rintro e w1⟨rfl,rfl⟩;go_wp2_with fail;refine(W2.o _).mono ?_;rintro e w1⟨rfl,rfl⟩;go_wp2;go_ret;exact⟨rfl,HH.o,eU _ _⟩
theorem zrm(h:qS w mb wb tl s)(a b:Nat)(x y:Int)(hx:s.ws[a]?=some x)(cX:0<=x)(ee:x<9223372036854775808)(hb:(b:Int)=if x%16=4 then x/65536 else a)(hy:s.ws[b]?=some y)(aT:0<=y)(bE:y<9223372036854775808)(hf:y%16≠5)(hn:b+1+behind y<=s.ws.length)(ak:s.free+1+behind y<=s.ws.length)(hd:s.free<b+1\/b+1+behind y<=s.free):
  Calls prog 254 #[.pointer (some ⟨mb,0,none⟩),.int .i64 a] w λe w'=>e=.returned (.int .i64 s.free) /\
   qS w' mb wb tl { s with free:=s.free+1+behind y,ws:=(splice (s.ws.set s.free y) (s.free+1) ((s.ws.drop (b+1)).take (behind y))).set b (Hd 5 s.free 0) }/\Fr (M2 mb wb) w w':=by
 obtain⟨ws,uJ,lo,fr,tp⟩:=s;simp only at hx hy hn ak hd|-;have hlen:ws.length<=1000000:=h.len;have c0:w.cell? ⟨mb,0,none⟩=some (.slice (some ⟨wb,0,none⟩) ws.length ws.length):=h.c0;have ca:w.cell? ⟨wb,a,none⟩=some (.int .i64 x):=h.word hx;have cb:w.cell? ⟨wb,b,none⟩=some (.int .i64 y):=h.word hy;have ha:(a:Int)<(ws.length:Int):=by have:=(Dq.1 hx).1;omega
 have cV:(b:Int)<(ws.length:Int):=by omega
 have Fy:(y%16 == 5)=false:=beq_eq_false_iff_ne.2 hf;have K1:=eu (λW:World=>QM x W cX ee);have K2:=eu (λW:World=>QM y W aT bE);have W1:=eu (λW:World=>RL x W cX ee);have SZ:=eu (λW:World=>zlQ y W aT bE);obtain⟨n,iZ⟩:∃n,behind y=n:=⟨_,rfl⟩;rw[show(if y%16=0 then 2 else 1+y/16%4096)=((n+1:Nat):Int) by rw[<-iZ,behind];split<;>omega]at SZ;simp only[OC,Jl]at SZ;rw[iZ]at hn ak hd|-;have dk:((ws.drop (b+1)).take n).length=n:=by rw[NQ,Oo];omega
 have HD:=eu (λW:World=>Rg 5 fr 0 W (by omega) (by omega));have CN:Hid (∀W:World,qS W mb wb tl ⟨ws,uJ,lo,fr,tp⟩->Fr (M2 mb wb) w W->Calls prog 74 #[.pointer (some ⟨mb,0,none⟩),.int .i64 y,.slice (if ws.length=b+1 then some ⟨wb,0,none⟩else some ⟨wb,b+1,none⟩) n (ws.length-(b+1))] W λe w'=>e=.returned (.int .i64 fr)/\qS w' mb wb tl ⟨splice (ws.set fr y) (fr+1) ((ws.drop (b+1)).take n),uJ,lo,fr+1+n,tp⟩/\Fr (M2 mb wb) W w'):=eu (λW hW _=>by
  have:=UG hW y ((ws.drop (b+1)).take n) (if ws.length=b+1 then some ⟨wb,0,none⟩else some ⟨wb,b+1,none⟩) (ws.length-(b+1)) (by rw[dk];exact ak) (λh0=>by
   rw[dk]at h0;refine⟨_,qj,λW2 h2 _ j x hj=>?_⟩;have sA:j<n:=by have:=(Dq.1 hj).1;omega
   rw[Qf,nB sA,Qe]at hj;rw[Pf];refine h2.word ?_;show(ws.set fr y)[b+1+j]?=some x;rw[XJ (by omega)];exact hj)
  simp only[dk]at this;exact this)
 have aJ:fr+1+((ws.drop (b+1)).take n).length<=(ws.set fr y).length:=by rw[dk,MH];exact ak
 have HH:=eu h;have fP:=QU h.ne;have sR:(0:Int)<=(b:Int)+1:=by omega
 have cF:(b:Int)+1<=(b:Int)+((n:Int)+1):=by omega
 have bC:(b:Int)+((n:Int)+1)<=(ws.length:Int):=by omega
 have aD:IntKind.i64.wrap ((b:Int)+1)=(b:Int)+1:=P9 _ (by omega) (by omega);have aB:IntKind.i64.wrap ((b:Int)+((n:Int)+1))=(b:Int)+((n:Int)+1):=P9 _ (by omega) (by omega);obtain⟨oa,o7⟩:∃oa,(if ws.length=b+1 then some (⟨wb,0,none⟩:Addr)else some ⟨wb,b+1,none⟩)=oa:=⟨_,rfl⟩;have py:∀W:World,(Instr.slice 76 (.slice (some ⟨wb,0,none⟩) ws.length ws.length) (some (.int .i64 ((b:Int)+1))) (some (.int .i64 ((b:Int)+((n:Int)+1)))) none).run prog W=.ok (.slice oa n (ws.length-(b+1))) W:=by
  intro W;rw[run_slice_lh W 76 _ _ _ underlying76 .i64 .i64 _ _ sR cF bC,<-o7];have e1:((b:Int)+1).toNat=b+1:=by omega
  have e2:((b:Int)+((n:Int)+1)).toNat=b+(n+1):=by omega
  have e3:prog.elem 76=2:=by kernel_rfl
  rw[e3,sizeOf2];simp only[Result.andThen,sliced,e1,e2,S8,Qx,Pf,On];rw[show b+(n+1)-(b+1)=n by omega]
 rw[o7]at CN;clear o7;have kf:(0:Int)<=(b:Int):=by omega
 generalize(ws.drop (b+1)).take n=xs at CN aJ dk;clear h hx hy hf iZ hn hd dk;by_cases hm:x%16=4
 .rw[nB hm]at hb;have tF:(x%16 == 4)=true:=beq_iff_eq.2 hm;rw[<-hb]at W1;clear hm hb;go_enter func254,ntmps254;go_wp2_with fail;refine(K1.o _).mono ?_;rintro e w1⟨rfl,rfl⟩;go_wp2_with fail;refine(W1.o _).mono ?_;rintro e w1⟨rfl,rfl⟩;go_wp2_with fail;refine(K2.o _).mono ?_;rintro e w1⟨rfl,rfl⟩;go_wp2_with fail
  go_region_held3 (λW=>W.cell? ⟨mb,0,none⟩=some (.slice (some ⟨wb,0,none⟩) ws.length ws.length)) (first|go_keep|assumption) (first
   |(go_at_call 200;refine(SZ.o _).mono ?_;rintro e w1⟨rfl,rfl⟩)
   |(go_at_call 74;refine(CN.o _ HH.o.drew (eU _ _).drew).mono ?_;rintro e w3⟨rfl,h3,f3⟩;have H3:=eu h3;have F3:=eu ((eU _ _).drew.trans f3);have e0:=h3.c0;simp only[PI _ _ _ aJ,MH]at e0;clear h3 f3))
  all_goals
   go_wp2_with fail;have e1:=H3.o.Rl (i:=b) (by rw[PI _ _ _ aJ,MH];omega);have g1:=H3.o.MX.frozen b;clear c0 ca cb
   go_region_held3 (λW=>W.cell? ⟨mb,0,none⟩=some (.slice (some ⟨wb,0,none⟩) ws.length ws.length)) (first|go_keep|assumption) (first
    |(go_at_call 75;refine(HD.o _).mono ?_;rintro e w4⟨rfl,rfl⟩))
   all_goals
    go_wp2;go_ret;exact⟨rfl,H3.o.drew.QC b _,F3.o.drew.set _ _ (.inl (.inr rfl))⟩
 .rw[pL hm]at hb;have tF:(x%16 == 4)=false:=beq_eq_false_iff_ne.2 hm;obtain rfl:b=a:=by omega
  have yk:x=y:=by have:=ca.symm.trans cb;simpa using this
  subst yk;clear hm hb;go_enter func254,ntmps254;go_wp2_with fail;refine(K1.o _).mono ?_;rintro e w1⟨rfl,rfl⟩;go_wp2_with fail;refine(K2.o _).mono ?_;rintro e w1⟨rfl,rfl⟩;go_wp2_with fail
  go_region_held3 (λW=>W.cell? ⟨mb,0,none⟩=some (.slice (some ⟨wb,0,none⟩) ws.length ws.length)) (first|go_keep|assumption) (first
   |(go_at_call 200;refine(SZ.o _).mono ?_;rintro e w1⟨rfl,rfl⟩)
   |(go_at_call 74;refine(CN.o _ HH.o.drew (eU _ _).drew).mono ?_;rintro e w3⟨rfl,h3,f3⟩;have H3:=eu h3;have F3:=eu ((eU _ _).drew.trans f3);have e0:=h3.c0;simp only[PI _ _ _ aJ,MH]at e0;clear h3 f3))
  all_goals
   go_wp2_with fail;have e1:=H3.o.Rl (i:=b) (by rw[PI _ _ _ aJ,MH];omega);have g1:=H3.o.MX.frozen b;clear c0 ca cb
   go_region_held3 (λW=>W.cell? ⟨mb,0,none⟩=some (.slice (some ⟨wb,0,none⟩) ws.length ws.length)) (first|go_keep|assumption) (first
    |(go_at_call 75;refine(HD.o _).mono ?_;rintro e w4⟨rfl,rfl⟩))
   all_goals
    go_wp2;go_ret;exact⟨rfl,H3.o.drew.QC b _,F3.o.drew.set _ _ (.inl (.inr rfl))⟩
def nG.SH (s:nG) (a:Nat):Option (Nat × nG):=
 match s.ws[a]? with
 |none=>none
 |some x=>
  if x<0\/9223372036854775808<=x then none else
  match s.ws[if x%16=4 then(x/65536).toNat else a]? with
  |none=>none
  |some y=>
   if y<0\/9223372036854775808<=y then none
   else if y%16=5 then some ((y/65536).toNat,s)
   else if(if x%16=4 then(x/65536).toNat else a)+1+behind y<=s.ws.length/\s.free+1+behind y<=s.ws.length/\(s.free<(if x%16=4 then(x/65536).toNat else a)+1\/(if x%16=4 then(x/65536).toNat else a)+1+behind y<=s.free)then
    some (s.free,{ s with free:=s.free+1+behind y,ws:=(splice (s.ws.set s.free y) (s.free+1) ((s.ws.drop ((if x%16=4 then(x/65536).toNat else a)+1)).take (behind y))).set (if x%16=4 then(x/65536).toNat else a) (Hd 5 s.free 0) })
   else none
variable {s':nG}
theorem Yu{a r:Nat}(hc:s.SH a=some (r,s')):∃(x y:Int)(b:Nat),s.ws[a]?=some x/\0<=x/\x<9223372036854775808/\((b:Int)=if x%16=4 then x/65536 else a)/\s.ws[b]?=some y/\0<=y/\y<9223372036854775808 /\
  ((y%16=5/\(r:Int)=y/65536/\s'=s)\/(y%16≠5/\b+1+behind y<=s.ws.length/\s.free+1+behind y<=s.ws.length/\(s.free<b+1\/b+1+behind y<=s.free)/\r=s.free /\
   s'={ s with free:=s.free+1+behind y,ws:=(splice (s.ws.set s.free y) (s.free+1) ((s.ws.drop (b+1)).take (behind y))).set b (Hd 5 s.free 0) })):=by
 unfold nG.SH at hc;split at hc
 .cases hc
 .next x hx=>
  split at hc
  .cases hc
  .next cX=>
   obtain⟨b,hb⟩:∃b,(if x%16=4 then(x/65536).toNat else a)=b:=⟨_,rfl⟩;rw[hb]at hc;have pR:(b:Int)=if x%16=4 then x/65536 else a:=by rw[<-hb];split<;>omega
   split at hc
   .cases hc
   .next y hy=>
    split at hc
    .cases hc
    .next aT=>
     refine⟨x,y,b,hx,by omega,by omega,pR,hy,by omega,by omega,?_⟩;split at hc
     .next hf=>simp only[IA,O2]at hc;exact .inl ⟨hf,by omega,hc.2.symm⟩
     .next hf=>
      split at hc
      .next hg=>simp only[IA,O2]at hc;exact .inr ⟨hf,hg.1,hg.2.1,hg.2.2,hc.1.symm,hc.2.symm⟩
      .cases hc
theorem zlk(h:qS w mb wb tl s){a r:Nat}(hc:s.SH a=some (r,s')):
  Calls prog 254 #[.pointer (some ⟨mb,0,none⟩),.int .i64 a] w λe w'=>e=.returned (.int .i64 r)/\qS w' mb wb tl s'/\Fr (M2 mb wb) w w':=by
 obtain⟨x,y,b,hx,cX,ee,hb,hy,aT,bE,⟨hf,hr,rfl⟩|⟨hf,g1,g2,g3,rfl,rfl⟩⟩:=Yu hc
 .rw[hr];exact zrl h a b x y hx cX ee hb hy aT bE hf
 .exact zrm h a b x y hx cX ee hb hy aT bE hf g1 g2 g3
theorem zhI{a r:Nat}(hc:s.SH a=some (r,s')):s'.ws.length=s.ws.length:=by
 obtain⟨x,y,b,hx,cX,ee,hb,hy,aT,bE,⟨hf,hr,rfl⟩|⟨hf,g1,g2,g3,rfl,rfl⟩⟩:=Yu hc
 .rfl
 .rw[MH,PI,MH];rw[MH,NQ];omega
def nG.PO (s:nG) (o:Nat):Nat->Option nG
 |0=>some s
 |n+1=>
  match s.ws[o]? with
  |none=>none
  |some x=>if x<0 then nG.PO s (o+1) n else
   match s.SH x.toNat with
   |none=>none
   |some (r,s1)=>nG.PO { s1 with ws:=s1.ws.set o r } (o+1) n
theorem zi5(h:qS w mb wb tl s){o n cp:Nat}{sp:Option Addr}(hb:s.PO o n=some s')(eB:0<n->sp=some ⟨wb,o,none⟩)(xT:o+n<=s.ws.length):
  Calls prog 199 #[.pointer (some ⟨mb,0,none⟩),.slice sp n cp] w λe w'=>e=.returned (.tuple #[])/\qS w' mb wb tl s'/\Fr (M2 mb wb) w w':=by
 have hlen:=h.len;rcases JI n with hn|hn
 .subst hn;simp only[nG.PO,IA]at hb;subst hb;have HH:=eu h;clear h eB;go_enter func199,ntmps199;go_wp2_with fail;refine oI 1 ?_;rw[nE];go_wp2;go_end0
  exact⟨rfl,HH.o,eU _ _⟩
 .obtain rfl:=eB hn;have HH:=eu h;have HB:=eu hb;obtain⟨L,hL⟩:∃L,s.ws.length=L:=⟨_,rfl⟩;rw[hL]at xT hlen;have HL:=eu hL;clear h hb eB hn hL;go_enter func199,ntmps199;go_wp2_with fail
  go_loopg [8] n (λgk iv wr=>∃(i:Nat)(s1:nG),iv=.int .i64 i/\i<=n/\n-i<=gk/\qS wr mb wb tl s1/\s1.ws.length=L/\s1.PO (o+i) (n-i)=some s'/\Fr (M2 mb wb) w wr)
  case atStart=>exact⟨0,s,rfl,Kc _,by omega,HH.o,HL.o,HB.o,eU _ _⟩
  case round=>
   obtain⟨i,s1,rfl,hi,jm,h1,aL,aA,l8⟩:=hrel;have H1:=eu h1;have HF:=eu l8;by_cases aj:i<n
   .obtain⟨m,hm⟩:∃m,n-i=m+1:=⟨n-i-1,by omega⟩;rw[hm,nG.PO]at aA;have br:o+i<s1.ws.length:=by omega
    rw[Iv br]at aA;simp only at aA;obtain⟨x,hx⟩:∃x,s1.ws[o+i]=x:=⟨_,rfl⟩;rw[hx]at aA;have cx:wr.cell? ⟨wb,o+i,none⟩=some (.int .i64 x):=by rw[<-hx];exact h1.Rl br
    have aw:(0:Int)<=(i:Int):=by omega
    have bD:(i:Int)<(n:Int):=by omega
    by_cases dV:x<0
    .rw[nB dV]at aA;have cB:=eu aA;have Cm:=eu aL;clear h1 l8 aA aL hx;go_wp2
     go_roundg (n-(i+1))
     case measure=>omega
     case rel=>exact⟨i+1,s1,by go_num,by omega,qP _,H1.o,Cm.o,by rw[show n-(i+1)=m by omega];exact cB.o,HF.o⟩
    .rw[pL dV]at aA;split at aA
     .cases aA
     .next r s2 hc=>
      have CC:=zlk h1 hc;rw[show((x.toNat:Nat):Int)=x by omega]at CC;have HC:=eu CC;have kC:=eu ((zhI hc).trans aL);have cB:=eu aA;have bp:¬x<0:=dV;clear CC h1 l8 aA aL hx hc dV;go_wp2_with fail;refine HC.o.mono ?_;rintro e w2⟨rfl,h2,f2⟩;have H2:=eu h2;have F2:=eu (HF.o.trans f2);have e1:=h2.Rl (i:=o+i) (by rw[kC.o];omega);have g1:=h2.MX.frozen (o+i);clear h2 f2 cx;go_wp2
      go_roundg (n-(i+1))
      case measure=>omega
      case rel=>exact⟨i+1,_,by go_num,by omega,qP _,H2.o.QC (o+i) r,by rw[MH];exact kC.o,by rw[show n-(i+1)=m by omega];exact cB.o,F2.o.set _ _ (.inl (.inr rfl))⟩
   .have IU:i=n:=by omega
    have cB:Hid (s1=s'):=eu (by rw[IU,Uc,nG.PO]at aA;exact J8 aA)
    clear h1 l8 aA aL IU;go_wp2;go_end0
    exact⟨rfl,by rw[<-cB.o];exact H1.o,HF.o⟩
def M3 (mb wb fb:Nat):Nat->Prop:=λk=>k=mb\/k=wb\/k=fb
theorem Fr.to3(h:Fr (M2 mb wb) a b)(fb:Nat):Fr (M3 mb wb fb) a b:=h.mono (λi hi=>by rcases hi with rfl|rfl;exact .inl rfl;exact .inr (.inl rfl))
def QI (w:World) (mb wb fb:Nat) (fns:List Int) (sp:List Value):Prop:=oH w fb (MG fns++sp) 2/\fb≠mb/\fb≠wb
variable {fb:Nat}{fns:List Int}{sp:List Value}
theorem QI.fr(h:QI w mb wb fb fns sp)(f:Fr (M2 mb wb) w w'):QI w' mb wb fb fns sp:=
 ⟨gd h.1 f (by intro k;rcases k with k|k;exact h.2.1 k;exact h.2.2 k),h.2⟩
theorem QI.word(h:QI w mb wb fb fns sp)(hx:fns[i]?=some x):w.cell? ⟨fb,i,none⟩=some (.int .i64 x):=by have hl:i<fns.length:=(Dq.1 hx).1;rw[h.1.cell,Pq (by rw[Rb];exact hl),YD,hx];rfl
theorem QI.set{w:World}{mb wb fb:Nat}{fns:List Int}{sp:List Value}(h:QI w mb wb fb fns sp){i:Nat}(hi:i<fns.length)(x:Int):QI (w.setCell ⟨fb,i,none⟩ (.int .i64 x)) mb wb fb (fns.set i x) sp:=by refine⟨?_,h.2⟩;have:=h.1.set i (.int .i64 x);rw[List.set_append_left _ _ (by rw[Rb];exact hi),show(MG fns).set i (.int .i64 x)=MG (fns.set i x)from by simp[MG,List.map_set]]at this;exact this
theorem qS.other{w:World}{mb wb:Nat}{tl:List Value}{s:nG}(h:qS w mb wb tl s){fb:Nat}(h1:fb≠mb)(h2:fb≠wb)(i:Nat)(v:Value):qS (w.setCell ⟨fb,i,none⟩ v) mb wb tl s:=
 ⟨h.blk.other _ _ h1.symm,h.MX.other _ _ h2.symm,h.ne,h.len,h.half,h.low,h.free,h.top⟩
def nG.QF (s:nG):List Int->Option (List Int × nG)
 |[]=>some ([],s)
 |x::r=>if x<0 then none else
  match s.SH x.toNat with
  |none=>none
  |some (y,s1)=>
   match nG.QF s1 r with
   |none=>none
   |some (l,s2)=>some ((y:Int)::l,s2)
variable {cI:List Int}
theorem zrd(h:qS w mb wb tl s)(hf:QI w mb wb fb fns sp){cp:Nat}(hb:s.QF fns=some (cI,s'))(bZ:fns.length<=1000000):
  Calls prog 199 #[.pointer (some ⟨mb,0,none⟩),.slice (some ⟨fb,0,none⟩) fns.length cp] w λe w'=>e=.returned (.tuple #[])/\qS w' mb wb tl s'/\QI w' mb wb fb cI sp/\Fr (M3 mb wb fb) w w':=by
 have HH:=eu h;have pE:=eu hf;have HB:=eu hb;have Es:=hf.2.1;have gr:=hf.2.2;obtain⟨n,hn⟩:∃n,fns.length=n:=⟨_,rfl⟩;rw[hn]at bZ|-;have HN:=eu hn;clear h hb hf hn;go_enter func199,ntmps199;go_wp2_with fail
 go_loopg [8] n (λgk iv wr=>∃(i:Nat)(s1:nG)(d r l:List Int),iv=.int .i64 i/\i<=n/\n-i<=gk/\qS wr mb wb tl s1/\d.length=i/\r.length=n-i/\QI wr mb wb fb (d++r) sp/\s1.QF r=some (l,s')/\cI=d++l/\Fr (M3 mb wb fb) w wr)
 case atStart=>exact⟨0,s,[],fns,cI,rfl,Kc _,by omega,HH.o,rfl,HN.o,pE.o,HB.o,rfl,eU _ _⟩
 case round=>
  obtain⟨i,s1,d,r,l,rfl,hi,jm,h1,hd,hr,l8,aA,hl,ak⟩:=hrel;have H1:=eu h1;have HF:=eu ak;have ub:=eu l8;by_cases aj:i<n
  .cases r with
   |nil=>simp at hr;omega
   |cons x r=>
    rw[nG.QF]at aA;split at aA
    .cases aA
    .next dV=>
     split at aA
     .cases aA
     .next y s2 hc=>
      split at aA
      .cases aA
      .next l2 s3 fR=>
       simp only[IA,O2]at aA;obtain⟨rfl,rfl⟩:=aA;have cx:wr.cell? ⟨fb,i,none⟩=some (.int .i64 x):=l8.word (by rw[Om (by omega),hd];simp);have CC:=zlk h1 hc;rw[show((x.toNat:Nat):Int)=x by omega]at CC;have HC:=eu CC;have HR:=eu fR;have HL:=eu hl;have HD:=eu hd;have CJ:Hid (r.length=n-(i+1)):=eu (by simp at hr;omega);have aw:(0:Int)<=(i:Int):=by omega
       have bD:(i:Int)<(n:Int):=by omega
       have HI:Hid (i<(d++x::r).length):=eu (by simp;omega);clear CC h1 ak fR hl hd hr l8 hc;go_wp2_with fail;refine HC.o.mono ?_;rintro e w2⟨rfl,h2,f2⟩;have H2:=eu h2;have vl:=eu (ub.o.fr f2);have F2:=eu (HF.o.trans (f2.to3 fb));have e1:=vl.o.word (i:=i) (x:=x) (by rw[Om (by rw[HD.o];exact qP _),HD.o];simp);have g1:=vl.o.1.frozen i;clear h2 f2 cx;go_wp2
       go_roundg (n-(i+1))
       case measure=>omega
       case rel=>
        have cS:(d++x::r).set i (y:Int)=(d++[(y:Int)])++r:=by rw[List.set_append_right _ _ (by rw[HD.o];exact qP _),HD.o];simp
        refine⟨i+1,s2,d++[(y:Int)],r,l2,by go_num,by omega,qP _,H2.o.other Es gr i _,by simp;exact HD.o,CJ.o,?_,HR.o,by rw[HL.o];simp,F2.o.set _ _ (.inl (.inr (.inr rfl)))⟩;have:=vl.o.set HI.o y;rw[cS]at this;exact this
  .have IU:i=n:=by omega
   have cB:Hid (s1=s'/\cI=d++r):=eu (by have fQ:r=[]:=Sc (by omega);subst fQ;simp only[nG.QF,IA,O2]at aA;exact⟨aA.2,by rw[hl,<-aA.1]⟩)
   clear h1 ak aA IU hd hr l8 hl;go_wp2;go_end0
   exact⟨rfl,by rw[<-cB.o.1];exact H1.o,by rw[cB.o.2];exact ub.o,HF.o⟩
structure SR where
 pb:Value
 nf:Int
 main:Int
 fuel:Nat
 next:Int
 below:Int
def MU (o:SR) (fv:Value):List Value:=[o.pb,.int .i64 o.nf,.int .i64 o.main,fv,.int .i64 o.fuel,.int .i64 o.next,.int .i64 o.below]
def PR (w:World) (mb wb:Nat) (fns:List Int) (fv:Value):Prop:=(fv=.slice none 0 0/\fns=[])\/∃fb cap sp,fv=.slice (some ⟨fb,0,none⟩) fns.length cap/\QI w mb wb fb fns sp/\fns.length+sp.length=cap/\cap<=maxLen
def MB (mb wb:Nat) (fv:Value):Nat->Prop:=λk=>k=mb\/k=wb\/fv.ownBlock=some k
theorem Fr.MD(h:Fr (M2 mb wb) a b)(fv:Value):Fr (MB mb wb fv) a b:=h.mono (λi hi=>by rcases hi with rfl|rfl;exact .inl rfl;exact .inr (.inl rfl))
theorem PR.fr{w w':World}{mb wb:Nat}{fns:List Int}{fv:Value}(h:PR w mb wb fns fv)(f:Fr (M2 mb wb) w w'):PR w' mb wb fns fv:=by
 rcases h with h|⟨fb,cap,sp,h1,h2,h3⟩
 .exact .inl h
 .exact .inr ⟨fb,cap,sp,h1,h2.fr f,h3⟩
def nG.scan (s:nG) (at_:Nat):Nat->Option nG
 |0=>none
 |k+1=>if at_<s.free then
   match s.ws[at_]? with
   |none=>none
   |some x=>if x<0\/9223372036854775808<=x\/s.ws.length<at_+1+(x/16%4096).toNat then none else
    match s.PO (at_+1) (x/16%4096).toNat with
    |none=>none
    |some s1=>
     match s1.ws[at_]? with
     |none=>none
     |some y=>if y<0\/9223372036854775808<=y then none else nG.scan s1 (at_+1+behind y) k
  else some s
def nG.collect (s:nG) (fns:List Int):Option (List Int × nG):=
 if s.low<=s.half/\2*s.half<=s.ws.length/\s.low<=s.top/\s.top<=s.low+s.half then
  match s.OU.PO s.OU.top (s.OU.low+s.OU.half-s.OU.top)with
  |none=>none
  |some s1=>
   match s1.QF fns with
   |none=>none
   |some (cI,s2)=>
    match s2.scan s2.low (s2.ws.length+1)with
    |none=>none
    |some s3=>some (cI,s3)
 else none
theorem Yz :∀{n o:Nat},s.PO o n=some s'->s'.ws.length=s.ws.length/\s'.low=s.low/\s'.half=s.half/\s'.top=s.top:=by
 intro n
 induction n generalizing s with
 |zero=>intro o h;simp only[nG.PO,IA]at h;subst h;exact⟨rfl,rfl,rfl,rfl⟩
 |succ n ih=>
  intro o h;rw[nG.PO]at h;split at h
  .cases h
  .split at h
   .exact ih h
   .split at h
    .cases h
    .next r s1 hc=>
     have h1:=ih h;have h2:=zhI hc;simp only[MH]at h1;obtain⟨x,y,b,_,_,_,_,_,_,_,⟨_,_,rfl⟩|⟨_,_,_,_,_,rfl⟩⟩:=Yu hc
     .exact h1
     .exact⟨h1.1.trans h2,h1.2⟩
theorem WU :∀{fns:List Int}{s:nG}{l:List Int},s.QF fns=some (l,s')->s'.ws.length=s.ws.length/\s'.low=s.low/\s'.half=s.half/\s'.top=s.top/\l.length=fns.length:=by
 intro fns
 induction fns with
 |nil=>intro s l h;simp only[nG.QF,IA,O2]at h;obtain⟨rfl,rfl⟩:=h;exact⟨rfl,rfl,rfl,rfl,rfl⟩
 |cons x r ih=>
  intro s l h;rw[nG.QF]at h;split at h
  .cases h
  .split at h
   .cases h
   .next y s1 hc=>
    split at h
    .cases h
    .next l2 s2 hr=>
     simp only[IA,O2]at h;obtain⟨rfl,rfl⟩:=h;have h1:=ih hr;have h2:=zhI hc;obtain⟨x,y,b,_,_,_,_,_,_,_,⟨_,_,rfl⟩|⟨_,_,_,_,_,rfl⟩⟩:=Yu hc
     .exact⟨h1.1,h1.2.1,h1.2.2.1,h1.2.2.2.1,by simp[h1.2.2.2.2]⟩
     .exact⟨h1.1.trans h2,h1.2.1,h1.2.2.1,h1.2.2.2.1,by simp[h1.2.2.2.2]⟩
variable {o:SR}{fv:Value}
theorem zpf(h:qS w mb wb (MU o fv) s)(hf:PR w mb wb fns fv)(hb:s.QF fns=some (cI,s'))(bZ:fns.length<=1000000):
  Calls prog 199 #[.pointer (some ⟨mb,0,none⟩),fv] w λe w'=>e=.returned (.tuple #[])/\qS w' mb wb (MU o fv) s'/\PR w' mb wb cI fv/\Fr (MB mb wb fv) w w':=by
 rcases hf with⟨rfl,rfl⟩|⟨fb,cap,sp,rfl,hf,kS⟩
 .simp only[nG.QF,IA,O2]at hb;obtain⟨rfl,rfl⟩:=hb;exact(zi5 (o:=0) (n:=0) (sp:=none) (cp:=0) h rfl (λh=>absurd h (by omega)) (by omega)).mono λe w'⟨h1,h2,h3⟩=>⟨h1,h2,.inl ⟨rfl,rfl⟩,h3.MD _⟩
 .exact(zrd h hf hb bZ).mono λe w'⟨h1,h2,h3,h4⟩=>⟨h1,h2,.inr ⟨fb,cap,sp,by rw[(WU hb).2.2.2.2],h3,by rw[(WU hb).2.2.2.2];exact kS⟩,h4.mono (λk hk=>by rcases hk with rfl|rfl|rfl;exact .inl rfl;exact .inr (.inl rfl);exact .inr (.inr rfl))⟩
theorem zxg{L lo hi:Nat}{l h:Int}(hl:l=lo)(hh:h=hi)(h1:lo<=hi)(h2:hi<=L):∀W:World,(Instr.slice 76 (.slice (some ⟨wb,0,none⟩) L L) (some (.int .i64 l)) (some (.int .i64 h)) none).run prog W=.ok (.slice (some ⟨wb,cutAt L lo,none⟩) (hi-lo) (L-lo)) W:=by
 intro W;subst hl hh;rw[run_slice_lh W 76 _ _ _ underlying76 .i64 .i64 _ _ (by omega) (by omega) (by omega)];have e3:prog.elem 76=2:=by kernel_rfl
 rw[e3,sizeOf2];simp only[Result.andThen,sliced,MO,S8,Qx,Pf,On,cutAt];congr 2;split<;>rfl
theorem qS.c8(h:qS w mb wb (MU o fv) s):w.cell? ⟨mb,8,none⟩=some fv:=h.blk.cell 8
theorem zpi(h:qS w mb wb (MU o fv) s)(hf:PR w mb wb fns fv)(hc:s.collect fns=some (cI,s'))(bZ:fns.length<=1000000):
  Calls prog 125 #[.pointer (some ⟨mb,0,none⟩)] w λe w'=>e=.returned (.tuple #[])/\qS w' mb wb (MU o fv) s'/\PR w' mb wb cI fv/\Fr (MB mb wb fv) w w':=by
 unfold nG.collect at hc;split at hc
 .next hg=>
  split at hc
  .cases hc
  .next s1 aA=>
   split at hc
   .cases hc
   .next gj s2 aw=>
    split at hc
    .cases hc
    .next s3 bD=>
     simp only[IA,O2]at hc;obtain⟨rfl,rfl⟩:=hc;have CT:=eu (zwy h hg.1 hg.2.1 hg.2.2.1 hg.2.2.2);have aL:=Yz aA;have aC:=WU aw;have HF:=eu hf;have hlen:=h.len;have od:s.OU.low+s.OU.half<=s.ws.length/\s.OU.top<=s.OU.low+s.OU.half/\s.OU.ws.length=s.ws.length:=by unfold nG.OU;refine⟨by simp only;omega,by simp only;omega,?_⟩;simp only;rw[PI];rw[NQ,Oo];omega
     obtain⟨t,mi⟩:∃t,s.OU=t:=⟨_,rfl⟩;rw[mi]at aA CT od aL;obtain⟨L,hL⟩:∃L,s.ws.length=L:=⟨_,rfl⟩;rw[hL]at od hlen;have cB:=eu aA;have gA:=eu aw;have mw:=eu bD;have HL:=eu (kK aL aC);have pf:s1.ws.length=L:=by rw[aL.1];exact od.2.2
     have sZ:s2.ws.length=L:=by rw[aC.1];exact pf
     have uj:=eu pf;have mB:=eu sZ;have mC:=eu od.2.2;have p9:=od.1;have AP:=od.2.1;have dY:s1.top=t.top:=aL.2.2.2;have pK:=eu dY;clear h hf hg aL aC od mi hL aA aw bD pf sZ dY;go_enter func125,ntmps125;go_wp2_with fail;refine CT.o.mono ?_;rintro e w1⟨rfl,h1,f1⟩;have H1:=eu h1;have F1:=eu (f1.MD fv);have B9:=eu (HF.o.fr f1);have c0:w1.cell? ⟨mb,0,none⟩=some (.slice (some ⟨wb,0,none⟩) L L):=by rw[h1.c0,mC.o]
     have c4:=h1.c4;have py:=zxg (wb:=wb) (L:=L) (lo:=t.top) (hi:=t.low+t.half) (l:=(t.top:Int)) (h:=(t.low:Int)+(t.half:Int)) rfl (by omega) AP p9;have CE:=eu (λn:Nat=>Vy (h1.drewN n));simp only[OC]at CE;clear CT h1 f1 HF;go_wp2_with fail
     go_region_held3 (λW=>W.cell? ⟨mb,0,none⟩=some (.slice (some ⟨wb,0,none⟩) L L)/\W.cell? ⟨mb,4,none⟩=some (.int .i64 t.top)) (first|go_keep|(refine⟨?_,?_⟩<;>assumption)) (first
      |(go_at_call 78;refine(CE.o 1).mono ?_;rintro e w2⟨rfl,k2,aB⟩;have H2:Hid (qS w2 mb wb (MU o fv) t):=eu (by rw[aB];exact(H1.o.drewN 1).drewN k2);have F2:Hid (Fr (M2 mb wb) w1 w2):=eu (by rw[aB];exact((eU _ _).drewN 1).drewN k2);have e0:w2.cell? ⟨mb,0,none⟩=some (.slice (some ⟨wb,0,none⟩) L L):=(by rw[H2.o.c0,mC.o]);have e4:=H2.o.c4;clear aB)
      |(go_at_call 199;refine(zi5 H2.o cB.o (λhp=>by rw[QQ]) (by rw[mC.o];omega)).mono ?_;rintro e w3⟨rfl,h3,f3⟩;have H3:=eu h3;have F3:=eu (F2.o.trans f3);have d0:w3.cell? ⟨mb,0,none⟩=some (.slice (some ⟨wb,0,none⟩) L L):=(by rw[h3.c0,uj.o]);have d4:w3.cell? ⟨mb,4,none⟩=some (.int .i64 t.top):=(by rw[h3.c4,pK.o]);clear h3 f3))
     all_goals
      have c8:=H3.o.c8;have CB:=eu (zpf H3.o (B9.o.fr F3.o) gA.o bZ);have Bu:=eu (F1.o.trans (F3.o.MD fv));clear c0 c4 d0 d4 py;go_wp2_with fail;refine CB.o.mono ?_;rintro e w4⟨rfl,h4,Ak,f4⟩;have H4:=eu h4;have pF:=eu Ak;have F4:=eu (Bu.o.trans f4);have c2:=h4.c2;clear h4 Ak f4 c8;go_wp2_with fail
      go_loopg [2] L (λgk av wr=>∃(a:Nat)(q:nG),av=.int .i64 a/\qS wr mb wb (MU o fv) q/\q.ws.length=L/\q.scan a (gk+1)=some s3/\PR wr mb wb gj fv/\Fr (MB mb wb fv) w wr)
      case atStart=>exact⟨s2.low,s2,rfl,H4.o,mB.o,by have:=mw.o;rw[mB.o]at this;exact this,pF.o,F4.o⟩
      case round=>
       obtain⟨a,q,rfl,hq,sV,ig,xz,oX⟩:=hrel;have HQ:=eu hq;have yT:=eu xz;have cY:=eu oX;have vQ:=eu sV;have c3:=hq.c3;rw[nG.scan]at ig;by_cases aj:a<q.free
       .rw[nB aj]at ig;split at ig
        .cases ig
        .next x hx=>
         split at ig
         .cases ig
         .next hg=>
          split at ig
          .cases ig
          .next q1 pT=>
           split at ig
           .cases ig
           .next y hy=>
            split at ig
            .cases ig
            .next Fz=>
             have aN:(a:Int)<(q.free:Int):=by omega
             have cX:0<=x:=by omega
             have ee:x<9223372036854775808:=by omega
             have aT:0<=y:=by omega
             have bE:y<9223372036854775808:=by omega
             obtain⟨g,jm⟩:∃g,gk=g+1:=by
              cases gk with
              |zero=>simp[nG.scan]at ig
              |succ g=>exact⟨g,rfl⟩
             obtain⟨n,hn⟩:∃n,(x/16%4096).toNat=n:=⟨_,rfl⟩;rw[hn]at hg pT;have aJ:a+1+n<=L:=by omega
             have yH:=eu (Vg hq a x hx cX ee (by rw[hn];omega));rw[hn,sV]at yH;have cF:=Yz pT;have qD:Hid (q1.ws.length=L):=eu (by rw[cF.1];exact sV);have BD:=eu pT;have uk:=eu ig;have HY:=eu hy;have SZ:=eu (λW:World=>zlQ y W aT bE);rw[show(if y%16=0 then 2 else 1+y/16%4096)=((behind y+1:Nat):Int) by rw[behind];split<;>omega]at SZ;have aU:(a:Int)<(L:Int):=by omega
             have xl:behind y<=4096:=by rw[behind];split<;>omega
             generalize behind y=by_ at SZ uk xl;simp only[OC,Jl]at SZ;clear hq xz oX sV ig hx hg pT hy Fz aj cF hn;go_wp2_with fail;refine yH.o.mono ?_;rintro e w5⟨rfl,k5,dK⟩;have H5:Hid (qS w5 mb wb (MU o fv) q):=eu (by rw[dK];exact HQ.o.drewN k5);have F5:Hid (Fr (M2 mb wb) wr w5):=eu (by rw[dK];exact(eU _ _).drewN k5);have Bo:=eu (zi5 (cp:=L-(a+1)) (sp:=some ⟨wb,cutAt L (a+1),none⟩) H5.o BD.o (λhp=>by rw[QQ]) (by rw[vQ.o];exact aJ));clear dK c3;go_wp2_with fail;refine Bo.o.mono ?_;rintro e w6⟨rfl,h6,f6⟩;have H6:=eu h6;have F6:=eu (F5.o.trans f6);have d0:w6.cell? ⟨mb,0,none⟩=some (.slice (some ⟨wb,0,none⟩) L L):=by rw[h6.c0,qD.o]
             have dy:=h6.word HY.o;clear h6 f6;go_wp2_with fail;refine(SZ.o _).mono ?_;rintro e w7⟨rfl,rfl⟩;go_wp2
             go_roundg g
             case measure=>omega
             case rel=>exact⟨a+1+by_,q1,by go_num,H6.o,qD.o,by have:=uk.o;rw[jm]at this;exact this,yT.o.fr F6.o,cY.o.trans (F6.o.MD fv)⟩
       .rw[pL aj]at ig;have uk:Hid (q=s3):=eu (J8 ig);have aN:¬(a:Int)<(q.free:Int):=by omega
        clear hq xz oX sV ig;go_wp2;go_end0
        exact⟨rfl,by rw[<-uk.o];exact HQ.o,yT.o,cY.o⟩
 .cases hc
structure l0 where
 s:nG
 o:SR
 fns:List Int
structure qW (w:World) (mb wb:Nat) (fv:Value) (m:l0):Prop where
 sat:qS w mb wb (MU m.o fv) m.s
 OS:PR w mb wb m.fns fv
 fl:m.fns.length<=1000000
 fuel:m.o.fuel<=1000000000
variable {m:l0}
theorem qW.O6(h:qW w mb wb fv m)(hs:qS w' mb wb (MU m.o fv) s')(f:Fr (M2 mb wb) w w'):qW w' mb wb fv { m with s:=s' }:=⟨hs,h.OS.fr f,h.fl,h.fuel⟩
theorem qW.drewN{w:World}{mb wb:Nat}{fv:Value}{m:l0}(h:qW w mb wb fv m)(n:Nat):qW (w.drewN n) mb wb fv m:=⟨h.sat.drewN n,h.OS.fr ((eU _ _).drewN n),h.fl,h.fuel⟩
def up (k:Nat):Ending:=.panicked [{ v:=.iface 82 (.int .i64 k),recovered:=false }]
def Ends (w:World) (mb wb:Nat) (fv:Value) (r:Except Nat l0) (e:Ending) (w':World):Prop:=
 Fr (MB mb wb fv) w w'/\match r with
 |.ok m'=>e=.returned (.tuple #[])/\qW w' mb wb fv m'
 |.error k=>e=up k/\∃m',qW w' mb wb fv m'
def l0.M8 (m:l0) (c:Nat):Option (Except Nat l0):=
 if(c:Int)<=(m.s.top:Int)-(m.s.free:Int)then some (.ok m)else
 match m.s.collect m.fns with
 |none=>none
 |some (cI,s')=>if(s'.top:Int)-(s'.free:Int)<(c:Int)then some (.error 4)else some (.ok { m with s:=s',fns:=cI })
theorem zlh(hc:s.collect fns=some (cI,s')):cI.length=fns.length:=by
 unfold nG.collect at hc;split at hc
 .split at hc
  .cases hc
  .split at hc
   .cases hc
   .next gj s2 aw=>
    split at hc
    .cases hc
    .simp only[IA,O2]at hc;rw[<-hc.1];exact(WU aw).2.2.2.2
 .cases hc
variable {c:Nat}
theorem Pd{r:Except Nat l0}(h:qW w mb wb fv m)(hc:m.M8 c=some r):
  Calls prog 73 #[.pointer (some ⟨mb,0,none⟩),.int .i64 c] w λe w'=>Ends w mb wb fv r e w':=by
 unfold l0.M8 at hc;have CL:=eu (zms h.sat);by_cases h1:(c:Int)<=(m.s.top:Int)-(m.s.free:Int)
 .rw[nB h1]at hc;obtain rfl:=J8 hc;have HH:=eu h;clear h hc;go_enter func73,ntmps73;go_wp2_with fail;refine CL.o.mono ?_;rintro e w1⟨rfl,k1,aD⟩;have H1:Hid (qW w1 mb wb fv m):=eu (by rw[aD];exact HH.o.drewN k1);have F1:Hid (Fr (MB mb wb fv) w w1):=eu (by rw[aD];exact(eU _ _).drewN k1);clear aD;go_wp2
  first|go_end0|refine Ju rfl rfl ?_
  exact⟨F1.o,rfl,H1.o⟩
 .rw[pL h1]at hc;split at hc
  .cases hc
  .next gj s2 jW=>
   have HH:=eu h;have CC:=eu (λk:Nat=>zpi (h.drewN k).sat (h.drewN k).OS jW h.fl);have pG:Hid (gj.length<=1000000):=eu (by rw[zlh jW];exact h.fl);have yV:=eu h.fuel;by_cases h2:(s2.top:Int)-(s2.free:Int)<(c:Int)
   .rw[nB h2]at hc;obtain rfl:=J8 hc;clear h hc jW;go_enter func73,ntmps73;go_wp2_with fail;refine CL.o.mono ?_;rintro e w1⟨rfl,k1,rfl⟩;go_wp2_with fail;refine(CC.o k1).mono ?_;rintro e w2⟨rfl,pA,re,O6⟩;have H2:Hid (qW w2 mb wb fv ⟨s2,m.o,gj⟩):=eu ⟨pA,re,pG.o,yV.o⟩;have F2:Hid (Fr (MB mb wb fv) w w2):=eu (((eU _ _).drewN k1).trans O6);have vk:=eu (zms pA);clear pA re O6;go_wp2_with fail;refine vk.o.mono ?_;rintro e w3⟨rfl,k3,bL⟩;have H3:Hid (qW w3 mb wb fv ⟨s2,m.o,gj⟩):=eu (by rw[bL];exact H2.o.drewN k3);have F3:Hid (Fr (MB mb wb fv) w w3):=eu (by rw[bL];exact F2.o.drewN k3);clear bL;go_wp2_with fail;refine(Tm 4 _).mono ?_;rintro e w4⟨rfl,rfl⟩;exact⟨rfl,F3.o,rfl,_,H3.o⟩
   .rw[pL h2]at hc;obtain rfl:=J8 hc;clear h hc jW;go_enter func73,ntmps73;go_wp2_with fail;refine CL.o.mono ?_;rintro e w1⟨rfl,k1,rfl⟩;go_wp2_with fail;refine(CC.o k1).mono ?_;rintro e w2⟨rfl,pA,re,O6⟩;have H2:Hid (qW w2 mb wb fv ⟨s2,m.o,gj⟩):=eu ⟨pA,re,pG.o,yV.o⟩;have F2:Hid (Fr (MB mb wb fv) w w2):=eu (((eU _ _).drewN k1).trans O6);have vk:=eu (zms pA);clear pA re O6;go_wp2_with fail;refine vk.o.mono ?_;rintro e w3⟨rfl,k3,bL⟩;have H3:Hid (qW w3 mb wb fv ⟨s2,m.o,gj⟩):=eu (by rw[bL];exact H2.o.drewN k3);have F3:Hid (Fr (MB mb wb fv) w w3):=eu (by rw[bL];exact F2.o.drewN k3);clear bL;go_wp2
    first|go_end0|refine Ju rfl rfl ?_
    exact⟨F3.o,rfl,H3.o⟩
def l0.SM (m:l0):Except Nat l0:=if m.o.fuel=0 then .error 5 else .ok { m with o:={ m.o with fuel:=m.o.fuel-1 } }
theorem qS.c9(h:qS w mb wb (MU o fv) s):w.cell? ⟨mb,9,none⟩=some (.int .i64 o.fuel):=h.blk.cell 9
theorem qS.zxL(h:qS w mb wb (MU o fv) s)(v:Nat):qS (w.setCell ⟨mb,9,none⟩ (.int .i64 v)) mb wb (MU { o with fuel:=v } fv) s:=
 ⟨h.blk.set 9 (.int .i64 v),h.MX.other _ _ h.ne.symm,h.ne,h.len,h.half,h.low,h.free,h.top⟩
theorem qS.Vw(h:qS w mb wb (MU o fv) s)(v:Int):qS (w.setCell ⟨mb,10,none⟩ (.int .i64 v)) mb wb (MU { o with next:=v } fv) s:=
 ⟨h.blk.set 10 (.int .i64 v),h.MX.other _ _ h.ne.symm,h.ne,h.len,h.half,h.low,h.free,h.top⟩
theorem qS.zv5(h:qS w mb wb (MU o fv) s)(v:Int):qS (w.setCell ⟨mb,11,none⟩ (.int .i64 v)) mb wb (MU { o with below:=v } fv) s:=
 ⟨h.blk.set 11 (.int .i64 v),h.MX.other _ _ h.ne.symm,h.ne,h.len,h.half,h.low,h.free,h.top⟩
theorem zl7(h:qW w mb wb fv m):
  Calls prog 80 #[.pointer (some ⟨mb,0,none⟩)] w λe w'=>Ends w mb wb fv m.SM e w':=by
 have c9:=h.sat.c9;have f9:=h.sat.blk.frozen 9;unfold l0.SM;by_cases h0:m.o.fuel=0
 .rw[nB h0];rw[h0]at c9;have HH:=eu h;clear h h0;go_enter func80,ntmps80;go_wp2_with fail;refine(Tm 5 _).mono ?_;rintro e w4⟨rfl,rfl⟩;exact⟨rfl,eU _ _,rfl,_,HH.o⟩
 .rw[pL h0];obtain⟨k,hk⟩:∃k,m.o.fuel=k+1:=⟨m.o.fuel-1,by omega⟩;have lj:(k:Int)+1<=1000000000:=by have:=h.fuel;omega
  rw[hk]at c9;have HB:Hid (qS (w.setCell ⟨mb,9,none⟩ (.int .i64 k)) mb wb (MU { m.o with fuel:=k } fv) m.s):=eu (h.sat.zxL k);have HE:Hid (m.o.fuel-1=k):=eu (by omega);have HF:=eu h.OS;have pG:=eu h.fl;have aH:(((k:Int)+1) == 0)=false:=by rw[kJ];omega
  simp only[OC,Jl]at c9;clear h h0 hk;go_enter func80,ntmps80;go_wp2
  first|go_end0|refine Ju rfl rfl ?_
  have fr:Fr (M2 mb wb) w (w.setCell ⟨mb,9,none⟩ (.int .i64 k)):=(eU _ _).set _ _ (.inl (.inl rfl));refine⟨fr.MD fv,rfl,?_⟩;rw[HE.o];exact⟨HB.o,HF.o.fr fr,pG.o,by show k<=1000000000;omega⟩
end Go.Proofs.YtgahgkddaljmkaaGreatDoor
