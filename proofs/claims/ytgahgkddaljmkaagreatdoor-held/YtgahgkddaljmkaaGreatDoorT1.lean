/- Spec .. Mach11 -/
import Derived.Test.YtgahgkddaljmkaaGreatDoorProg
import Derived.WalkSpells
import Derived.WalkLawsBesides
import Derived.Handy
import Derived.Deep.RegionHeld3
import Derived.Deep.DrawnRows
import Derived.Laws.CopyOwn
import Derived.BigQuiet
import Derived.Deep.LoopGhost
set_option maxRecDepth 100000
set_option maxHeartbeats 4000000
namespace Go.Proofs.YtgahgkddaljmkaaGreatDoor
open Tryz
abbrev zyL:=@List.getElem?_eq_some_iff
abbrev zyM:=@List.getElem?_eq_getElem
abbrev zyN:=@Nat.le_refl
abbrev zyO:=@List.setIfInBounds_toArray
abbrev zyP:=@Option.some.injEq
abbrev zyQ:=@Option.bind_eq_some_iff
abbrev zyR:=@Nat.le_trans
abbrev zyS:=@Nat.lt_of_lt_of_le
abbrev zyT:=@List.length_append
abbrev zyU:=@Option.some.inj
abbrev zyV:=@List.getElem?_set
abbrev zyW:=@List.set_cons_succ
abbrev zyX:=@Option.map_eq_some_iff
abbrev zyY:=@Array.getElem?_eq_some_iff
abbrev zyZ:=@List.set_cons_zero
abbrev zy0:=@List.length_singleton
abbrev zy1:=@List.mem_of_getElem?
abbrev zy2:=@Int.toNat_natCast
abbrev zy3:=@List.getElem?_append_right
abbrev zy4:=@List.length_reverse
abbrev zy5:=@Nat.zero_le
abbrev zy6:=@List.length_set
abbrev zy7:=@List.cons_append
abbrev zy8:=@List.length_cons
abbrev zy9:=@List.take_of_length_le
abbrev zza:=@List.map_cons
abbrev zzb:=@List.nil_append
abbrev zzc:=@List.getElem?_append_left
abbrev zzd:=@List.sum_cons
abbrev zze:=@List.mem_singleton
abbrev zzf:=@List.length_take
abbrev zzg:=@Go.wp_at_succ
abbrev zzh:=@Go.wp_at_zero
abbrev zzi:=@List.mem_append
abbrev zzj:=@List.getElem?_append
abbrev zzk:=@List.append_assoc
abbrev zzl:=@List.getElem?_cons_zero
abbrev zzm:=@List.length_nil
abbrev zzn:=@List.length_eq_zero_iff
abbrev zzo:=@List.mem_cons
abbrev zzp:=@Nat.mul_le_mul_left
abbrev zzq:=@Int.natCast_add
abbrev zzr:=@List.size_toArray
abbrev zzs:=@List.drop_eq_getElem_cons
abbrev zzt:=@List.eq_nil_of_length_eq_zero
abbrev zzu:=@List.length_drop
abbrev zzv:=@Bool.and_eq_true
abbrev zzw:=@Bool.false_eq_true
abbrev zzx:=@List.getElem?_drop
abbrev zzy:=@List.getElem?_take
abbrev zzz:=@List.length_replicate
abbrev zzA:=@List.length_pos_iff
abbrev zzB:=@Array.replicate_succ
abbrev zzC:=@Array.replicate_zero
abbrev zzD:=@Option.bind_some
abbrev zzE:=@List.append_toArray
abbrev zzF:=@List.idxOf_lt_length_of_mem
abbrev zzG:=@Nat.zero_add
abbrev zzH:=@List.push_toArray
abbrev zzI:=@Nat.mul_add
abbrev zzJ:=@Int.cast_ofNat_Int
abbrev zzK:=@List.getElem?_eq_none
abbrev zzL:=@Prod.mk.injEq
abbrev zzM:=@Go.length_splice
abbrev zzN:=@Int.natCast_nonneg
abbrev zzO:=@Nat.add_zero
abbrev zzP:=@Option.map_some
abbrev zzQ:=@List.eq_of_mem_replicate
abbrev zzR:=@List.take_zero
abbrev zzS:=@List.append_nil
abbrev zzT:=@List.getElem?_cons_succ
abbrev zzU:=@Nat.le_mul_of_pos_right
abbrev zzV:=@Nat.min_eq_left
abbrev zzW:=@List.getD_eq_getElem?_getD
abbrev zzX:=@Nat.le_mul_of_pos_left
abbrev zzY:=@List.drop_zero
abbrev zzZ:=@List.not_mem_nil
abbrev zz0:=@Nat.le_add_right
abbrev zz1:=@List.mem_map
abbrev zz2:=@List.foldl_cons
abbrev zz3:=@List.map_append
abbrev zz4:=@List.replicate_succ
abbrev zz5:=@List.sum_append
abbrev zz6:=@List.drop_eq_nil_of_le
abbrev zz7:=@List.take_length
abbrev zz8:=@Nat.le_succ
abbrev zz9:=@Nat.pow_le_pow_right
abbrev zAa:=@Bool.eq_iff_iff
abbrev zAb:=@Except.ok.injEq
abbrev zAc:=@Nat.le_add_left
abbrev zAd:=@Nat.not_lt_zero
abbrev zAe:=@Array.length_toList
abbrev zAf:=@List.map_congr_left
abbrev zAg:=@Nat.mul_le_mul
abbrev zAh:=@List.append_eq_nil_iff
abbrev zAi:=@List.takeWhile_sublist
abbrev zAj:=@List.take_append_drop
abbrev zAk:=@Nat.le_of_lt
abbrev zAl:=@Nat.sub_zero
abbrev zAm:=@Bool.or_false
abbrev zAn:=@List.take_add_one
abbrev zAo:=@List.getElem?_set_ne
abbrev zAp:=@List.mem_of_mem_take
abbrev zAq:=@List.take_take
abbrev zAr:=@Nat.le_max_right
abbrev zAs:=@Option.getD_some
abbrev zAt:=@Nat.mul_one
abbrev zAu:=@Bool.or_true
abbrev zAv:=@Bool.true_or
abbrev zAw:=@Nat.lt_or_ge
abbrev zAx:=@Nat.sub_self
abbrev zAy:=@Bool.or_eq_true
abbrev zAz:=@Iff.rfl
abbrev zAA:=@List.nodup_cons
abbrev zAB:=@Nat.le_max_left
end Go.Proofs.YtgahgkddaljmkaaGreatDoor
namespace Go.Proofs.YtgahgkddaljmkaaGreatDoor.Th
open Tryz
def isLet (c:UInt8):Bool:=decide (97<=c.toNat) && decide (c.toNat<=122)
def zba (c:UInt8):Bool:=decide (48<=c.toNat) && decide (c.toNat<=57)
def zlx (c:UInt8):Bool:=isLet c||zba c
def zda (c:UInt8):Bool:=c == 32||c == 10
structure Tok where
 k:Nat
 s:List UInt8
 at_:Nat
def znj:Tok:=⟨0,[],0⟩
def zqP:List UInt8:=[108,101,116]
def zo8:List UInt8:=[114,101,99]
def sIn:List UInt8:=[105,110]
def zjO:List UInt8:=[99,97,115,101]
def sOf:List UInt8:=[111,102]
def zcO:List UInt8:=[109,97,105,110]
def zxv (t:List UInt8):Bool:=t == zqP||t == zo8||t == sIn||t == zjO||t == sOf
def zpP:List UInt8:=[61,59,40,41,123,125,44,60,62,46,92,43,45,42,47]
def zbH (t:List UInt8):Nat:=
 if t.take 2 == [45,62]||t.take 2 == [61,61] then 2
 else match t with
  |[]=>0
  |c::_=>if zpP.contains c then 1 else 0
def word (t:List UInt8):Nat × List UInt8:=if zxv t then (4,t) else (2,t)
def zo7 (t:List UInt8):Nat × List UInt8:=if 9<t.length then (1,[]) else (3,t)
def first (t:List UInt8):Nat × List UInt8:=
 match t with
 |[]=>(0,[])
 |c::_=>
  if isLet c then word (t.takeWhile zlx)
  else if zba c then zo7 (t.takeWhile zba)
  else if zbH t=0 then (1,[]) else (4,t.take (zbH t))
def zdN:Nat->List UInt8->Nat->List Tok
 |0,_,p=>[⟨0,[],p⟩]
 |n+1,t,p=>
  let b:=(t.takeWhile zda).length
  let u:=t.drop b
  let x:=first u
  ⟨x.1,x.2,p+b⟩::(if x.1<=1 then [] else zdN n (u.drop x.2.length) (p+b+x.2.length))
def val (t:List UInt8):Nat:=t.foldl (fun a c=>10*a+(c.toNat-48)) 0
structure St where
 rest:List Tok
 bad:Option Nat
def St.hd (st:St):Tok:=st.rest.headD znj
def St.is (s:List UInt8) (st:St):Bool:=st.bad.isNone && st.hd.s == s
def St.kind (k:Nat) (st:St):Bool:=st.bad.isNone && st.hd.k == k
def St.fail (st:St):St:=if st.bad.isNone then ⟨[],some st.hd.at_⟩ else st
def St.adv (st:St):St:=⟨st.rest.tail,st.bad⟩
def want (s:List UInt8) (st:St):St:=if st.is s then st.adv else st.fail
def zaL (st:St):Tok × St:=if st.kind 2 then (st.hd,st.adv) else (znj,st.fail)
def zax (st:St):List Tok × St:=
 if st.bad.isNone then (st.rest.takeWhile (fun t=>t.k == 2),⟨st.rest.dropWhile (fun t=>t.k == 2),none⟩) else ([],st)
def zaB (lo hi:Nat) (st:St):Nat × St:=
 if st.kind 3 && decide (lo<=val st.hd.s) && decide (val st.hd.s<=hi) then (val st.hd.s,st.adv) else (0,st.fail)
structure Ex where
 kind:Nat
 tok:Tok
 n:Nat
 tag:Nat
 arity:Nat
 names:List Tok
 zao:List (Nat × List Tok)
 kids:List Ex
def ex0:Ex:=⟨0,znj,0,0,0,[],[],[]⟩
def mkNum (n:Nat):Ex:=⟨1,znj,n,0,0,[],[],[]⟩
def zbW (t:Tok):Ex:=⟨2,t,0,0,0,[],[],[]⟩
def zcU (t a:Nat):Ex:=⟨3,znj,0,t,a,[],[],[]⟩
def mkFun (l:List Tok) (e:Ex):Ex:=⟨4,znj,0,0,0,l,[],[e]⟩
def zch (f x:Ex):Ex:=⟨5,znj,0,0,0,[],[],[f,x]⟩
def ziR (t:Tok) (a b:Ex):Ex:=⟨6,t,0,0,0,[],[],[a,b]⟩
def mkLet (r:Bool) (l:List Tok) (parts:List Ex) (e:Ex):Ex:=⟨if r then 8 else 7,znj,0,0,0,l,[],e::parts⟩
def mkCase (e:Ex) (l:List (Nat × List Tok)) (ag:List Ex):Ex:=⟨9,znj,0,0,0,[],l,e::ag⟩
abbrev Rd:=Bool->St->Option (Ex × St)
def zcI (st:St):Bool:=st.kind 2||st.kind 3||st.is [123]||st.is [40]
def zdj (st:St):Ex × St:=
 let a:=zaB 1 99 st
 let b:=zaB 0 9 (want [44] a.2)
 (zcU a.1 b.1,want [125] b.2)
def zeU (ex:Rd) (st:St):Option (Ex × St):=
 if st.kind 2 then some (zbW st.hd,st.adv)
 else if st.kind 3 then some (mkNum (val st.hd.s),st.adv)
 else if st.is [123] then some (zdj st.adv)
 else if st.is [40] then (ex false st.adv).bind fun r=>some (r.1,want [41] r.2)
 else some (ex0,st.fail)
def zcV (ex:Rd):Nat->Ex->St->Option (Ex × St)
 |0,_,_=>none
 |k+1,e,st=>if zcI st then (zeU ex st).bind fun r=>zcV ex k (zch e r.1) r.2 else some (e,st)
def zhP (ex:Rd) (k:Nat) (st:St):Option (Ex × St):=(zeU ex st).bind fun r=>zcV ex k r.1 r.2
def zku (sub:St->Option (Ex × St)) (a b:List UInt8):Nat->Ex->St->Option (Ex × St)
 |0,_,_=>none
 |k+1,e,st=>if st.is a||st.is b then (sub st.adv).bind fun r=>zku sub a b k (ziR st.hd e r.1) r.2 else some (e,st)
def zcG (ex:Rd) (k:Nat) (st:St):Option (Ex × St):=(zhP ex k st).bind fun r=>zku (zhP ex k) [42] [47] k r.1 r.2
def zu0 (ex:Rd) (k:Nat) (st:St):Option (Ex × St):=(zcG ex k st).bind fun r=>zku (zcG ex k) [43] [45] k r.1 r.2
def zjD (ex:Rd) (k:Nat) (st:St):Option (Ex × St):=
 (zu0 ex k st).bind fun r=>
  if r.2.is [61,61]||r.2.is [60] then (zu0 ex k r.2.adv).bind fun q=>some (ziR r.2.hd r.1 q.1,q.2) else some r
def zcu (ex:Rd):Nat->List Tok->List Ex->St->Option (List Tok × List Ex × St)
 |0,_,_,_=>none
 |k+1,l,es,st=>
  let x:=zaL st
  (ex true (want [61] x.2)).bind fun r=>
   if r.2.is [59] then zcu ex k (l++[x.1]) (es++[r.1]) r.2.adv else some (l++[x.1],es++[r.1],r.2)
def ztQ (ex:Rd) (k:Nat) (outer:Bool) (st:St):Option (Ex × St):=
 let rc:=st.is zo8
 (zcu ex k [] [] (if rc then st.adv else st)).bind fun r=>
  (ex outer (want sIn r.2.2)).bind fun q=>some (mkLet rc r.1 r.2.1 q.1,q.2)
def ztN (ex:Rd) (outer:Bool) (st:St):Option ((Nat × List Tok) × Ex × St):=
 let t:=zaB 1 99 (want [60] st)
 let l:=zax (want [62] t.2)
 (ex outer (want [45,62] l.2)).bind fun r=>some ((t.1,l.1),r.1,r.2)
def za8 (outer:Bool) (st:St):Bool:=st.is [59] && (!outer||(st.rest.tail.headD znj).s == [60])
def zeD (ex:Rd) (outer:Bool):Nat->List (Nat × List Tok)->List Ex->St->Option (List (Nat × List Tok) × List Ex × St)
 |0,_,_,_=>none
 |k+1,l,es,st=>
  (ztN ex outer st).bind fun r=>
   if za8 outer r.2.2 then zeD ex outer k (l++[r.1]) (es++[r.2.1]) r.2.2.adv else some (l++[r.1],es++[r.2.1],r.2.2)
def zjy (ex:Rd) (k:Nat) (outer:Bool) (st:St):Option (Ex × St):=
 (ex false st).bind fun r=>(zeD ex outer k [] [] (want sOf r.2)).bind fun q=>some (mkCase r.1 q.1 q.2.1,q.2.2)
def ztO (ex:Rd) (outer:Bool) (st:St):Option (Ex × St):=
 let x:=zaL st
 let l:=zax x.2
 (ex outer (want [46] l.2)).bind fun r=>some (mkFun (x.1::l.1) r.1,r.2)
def zg7 (ex:Rd) (k:Nat) (outer:Bool) (st:St):Option (Ex × St):=
 if st.is zqP then ztQ ex k outer st.adv
 else if st.is zjO then zjy ex k outer st.adv
 else if st.is [92] then ztO ex outer st.adv
 else zjD ex k st
def zdJ:Nat->Rd
 |0=>fun _ _=>none
 |n+1=>zg7 (zdJ n) n
structure zbr where
 name:Tok
 params:List Tok
 e:Ex
def zmE (ex:Rd) (st:St):Option (zbr × St):=
 let x:=zaL st
 let l:=zax x.2
 (ex true (want [61] l.2)).bind fun r=>some (⟨x.1,l.1,r.1⟩,want [59] r.2)
def zcn (ex:Rd):Nat->List zbr->St->Option (List zbr × St)
 |0,_,_=>none
 |k+1,acc,st=>
  if st.bad.isNone && st.hd.k != 0 then (zmE ex st).bind fun r=>zcn ex k (acc++[r.1]) r.2 else some (acc,st)
def zjc:List (List UInt8)->List Tok->List Nat
 |_,[]=>[]
 |seen,t::r=>(if seen.contains t.s then [t.at_] else [])++zjc (seen++[t.s]) r
def texts (l:List Tok):List (List UInt8):=l.map (·.s)
def zbq (wr:Ex->List (List UInt8)->List Nat) (ae:List (List UInt8)):List (List UInt8)->List Tok->List Ex->List Nat
 |seen,t::r,e::es=>((if seen.contains t.s then [t.at_] else [])++wr e ae)++zbq wr ae (seen++[t.s]) r es
 |_,_,_=>[]
def zeG (wr:Ex->List (List UInt8)->List Nat) (ae:List (List UInt8)):List (Nat × List Tok)->List Ex->List Nat
 |a::r,e::es=>(zjc [] a.2++wr e (ae++texts a.2))++zeG wr ae r es
 |_,_=>[]
def zar:Nat->Ex->List (List UInt8)->List Nat
 |0,_,_=>[]
 |n+1,e,ae=>
  if e.kind=2 then (if ae.contains e.tok.s then [] else [e.tok.at_])
  else if e.kind=5\/e.kind=6 then zar n (e.kids.headD ex0) ae++zar n (e.kids.tail.headD ex0) ae
  else if e.kind=4 then zjc [] e.names++zar n (e.kids.headD ex0) (ae++texts e.names)
  else if e.kind=7 then zbq (zar n) ae [] e.names e.kids.tail++zar n (e.kids.headD ex0) (ae++texts e.names)
  else if e.kind=8 then zbq (zar n) (ae++texts e.names) [] e.names e.kids.tail++zar n (e.kids.headD ex0) (ae++texts e.names)
  else if e.kind=9 then zar n (e.kids.headD ex0) ae++zeG (zar n) ae e.zao e.kids.tail
  else []
def zaq (l:List zbr):List (List UInt8):=l.map (·.name.s)
def zbL (n:Nat) (all:List (List UInt8)):List (List UInt8)->List zbr->List Nat
 |_,[]=>[]
 |seen,x::r=>(if seen.contains x.name.s then [x.name.at_] else [])++zjc [] x.params++zar n x.e (all++texts x.params)++zbL n all (seen++[x.name.s]) r
end Go.Proofs.YtgahgkddaljmkaaGreatDoor.Th
variable {p:Prop}
theorem Go.RowKit.Hid.o(h:Go.RowKit.Hid p):p:=h
namespace Go.Proofs.YtgahgkddaljmkaaGreatDoor
open Tryz
open Go.RowKit
theorem zab(h:p):Hid p:=h
theorem zaa(h:Hid p):p:=h.out
def Blk (w:World) (b:Nat) (vs:List Value) (t:TypeId):Prop:=w.heap[b]?=some (.cells vs.toArray t (0,0))
variable {w:World}{vs:List Value}{t:TypeId}
theorem Blk.lt{b:Nat}(h:Blk w b vs t):b<w.heap.size:=by
 unfold Blk at h;exact (zyY.1 h).1
theorem Blk.cell{w:World}{b:Nat}{vs:List Value}{t:TypeId}(h:Blk w b vs t)(j:Nat):w.cell? ⟨b,j,none⟩=vs[j]?:=by
 unfold Blk at h;simp[World.cell?,h]
theorem Blk.frozen{w:World}{b:Nat}{vs:List Value}{t:TypeId}(h:Blk w b vs t)(j:Nat):w.frozen? ⟨b,j,none⟩=false:=by
 unfold Blk at h;simp[World.frozen?,h]
theorem Blk.new(w:World)(vs:List Value)(t:TypeId):Blk (w.alloc (.cells vs.toArray t)) w.heap.size vs t:=by
 show (w.heap.push _)[w.heap.size]?=_;simp
theorem Blk.alloc{w:World}{b:Nat}{vs:List Value}{t:TypeId}(h:Blk w b vs t)(o:Obj):Blk (w.alloc o) b vs t:=by
 have hl:=h.lt;unfold Blk at *;rw[Below.heap_alloc _ _ _ hl,h]
theorem Blk.drew{w:World}{b:Nat}{vs:List Value}{t:TypeId}(h:Blk w b vs t):Blk w.drew b vs t:=h
variable {w':World}
theorem Blk.below{b B:Nat}(h:Blk w b vs t)(hb:Below B w w')(hl:b<B):Blk w' b vs t:=by
 unfold Blk at *;rw[hb.block b hl,h]
theorem Blk.grown{b:Nat}{row:Option Nat}(h:Blk w b vs t)(hg:w.grownBy w' row)(hr:some b≠row):Blk w' b vs t:=by
 have hl:=h.lt;unfold Blk at *;rw[hg.block b hl hr,h]
theorem Blk.set{w:World}{b:Nat}{vs:List Value}{t:TypeId}(h:Blk w b vs t)(j:Nat)(v:Value):Blk (w.setCell ⟨b,j,none⟩ v) b (vs.set j v) t:=by
 have hl:=h.lt;unfold Blk at *;simp[World.setCell,Array.getElem?_modify,h]
theorem Blk.other{b:Nat}(h:Blk w b vs t)(a:Addr)(v:Value)(aH:b≠a.block):Blk (w.setCell a v) b vs t:=by
 unfold Blk at *;rw[Below.heap_setCell _ _ _ _ aH,h]
theorem zcT(w:World)(r:Option Nat):w.grownBy w r:=⟨rfl,rfl,rfl,zyN _,fun _ _ _=>rfl⟩
variable {a b:World}{r:Option Nat}
theorem zad{c:World}(h:a.grownBy b r)(k:b.grownBy c r):a.grownBy c r:=
 ⟨k.os.trans h.os,k.tape.trans h.tape,k.output.trans h.output,zyR h.size k.size,
  fun i hi hr=>(k.block i (zyS hi h.size) hr).trans (h.block i hi hr)⟩
theorem zaf(r:Option Nat)(h:Below a.heap.size a b):a.grownBy b r:=⟨h.os,h.tape,h.output,h.size,fun k hk _=>h.block k hk⟩
theorem zbk(h:a.grownBy b none):Below a.heap.size a b:=⟨h.os,h.tape,h.output,h.size,fun k hk=>h.block k hk (by simp)⟩
theorem zag(w:World)(o:Obj)(r:Option Nat):w.grownBy (w.alloc o) r:=⟨rfl,rfl,rfl,by simp,fun k hk _=>Below.heap_alloc _ _ _ hk⟩
theorem zbO(w:World)(r:Option Nat):w.grownBy w.drew r:=⟨rfl,rfl,rfl,zyN _,fun _ _ _=>rfl⟩
theorem zaT(w:World)(b j:Nat)(v:Value):w.grownBy (w.setCell ⟨b,j,none⟩ v) (some b):=
 ⟨rfl,rfl,rfl,by simp[World.setCell],fun k _ hr=>Below.heap_setCell _ _ _ _ (fun e=>hr (by rw[e]))⟩
theorem zap{w1:World}(h:w.grownBy w1 r)(a:Addr)(v:Value)(hn:w.heap.size<=a.block):w.grownBy (w1.setCell a v) r:=
 ⟨h.os,h.tape,h.output,by simp[World.setCell];exact h.size,fun k hk hr=>by rw[Below.heap_setCell _ _ _ _ (by omega)];exact h.block k hk hr⟩
theorem zam(w:World)(o:Obj):Below w.heap.size w (w.alloc o):=(Below.refl _ _).alloc (zyN _) o
end Go.Proofs.YtgahgkddaljmkaaGreatDoor
namespace Go.Proofs.YtgahgkddaljmkaaGreatDoor
open Tryz
open Go.RowKit
variable {w:World}
theorem zeK{b o:Nat}{v:Value}(h:w.cell? ⟨b,o,none⟩=some v):b<w.heap.size:=by
 rcases zAw b w.heap.size with hb|hb
 ·exact hb
 ·have e:w.heap[b]?=none:=Array.getElem?_eq_none hb;simp[World.cell?,e]at h
variable {w':World}{r:Option Nat}
theorem zma(hg:w.grownBy w' r){b o:Nat}{v:Value}(h:w.cell? ⟨b,o,none⟩=some v)(hr:some b≠r):w'.cell? ⟨b,o,none⟩=some v:=by
 rw[World.cell?_of_block (w:=w) (hg.block b (zeK h) hr),h]
theorem zcZ(a b c:Value)(w:World):(Instr.field 135 (.agg #[a,b,c]) 0).run prog w=.ok a w:=by kernel_rfl
theorem zc0(a b c:Value)(w:World):(Instr.field 135 (.agg #[a,b,c]) 1).run prog w=.ok b w:=by kernel_rfl
theorem zc1(a b c:Value)(w:World):(Instr.field 135 (.agg #[a,b,c]) 2).run prog w=.ok c w:=by kernel_rfl
theorem zbc(n:Int)(h₀:0<=n)(h₁:n<2 ^ 63):IntKind.i64.wrap n=n:=by rw[IntKind.wrap_i64];omega
variable {x:Int}
theorem zyg(h0:0<=x)(h1:x<9223372036854775808):bits .and .i64 x 15=x%16:=bits_mask .i64 63 (by decide) zbc 4 (by decide) x h0 h1
theorem zu5(h0:0<=x)(h1:x<9223372036854775808):bits .and .i64 x 4095=x%4096:=bits_mask .i64 63 (by decide) zbc 12 (by decide) x h0 h1
theorem and_3(h0:0<=x)(h1:x<9223372036854775808):bits .and .i64 x 3=x%4:=bits_mask .i64 63 (by decide) zbc 2 (by decide) x h0 h1
theorem zpE(i:Nat){y:Int}(hx₀:0<=x)(hx:x%2 ^ i=0)(hx₁:x<9223372036854775808)(hy₀:0<=y)(hy:y<2 ^ i)(hy₁:y<9223372036854775808):bits .or .i64 x y=x+y:=
 bits_join .i64 63 (by decide) zbc i x y hx₀ hx hx₁ hy₀ hy hy₁
theorem zl5(h1:-9223372036854775808<=x)(h2:x<9223372036854775808):bits .xor .i64 (-1) x=-x-1:=by
 have e:BitVec.ofInt 64 (-1)=BitVec.allOnes 64:=by decide
 show IntKind.i64.wrap ((BitVec.ofInt 64 (-1) ^^^ BitVec.ofInt 64 x).toNat)=_;rw[e,BitVec.allOnes_xor,BitVec.toNat_not,BitVec.toNat_ofInt,IntKind.wrap_i64];omega
def Hd (k a c:Nat):Int:=(a:Int)*65536+(c:Int)*16+(k:Int)
def Mk (k a:Nat):Int:=-((a:Int)*4+(k:Int))-1
theorem zeW{a b:Int}(h:a=b):Ending.returned (.int .i64 a)=.returned (.int .i64 b):=by rw[h]
theorem za4(h:Int)(w:World)(h0:0<=h)(h1:h<9223372036854775808):
  Calls prog 83 #[.int .i64 h] w fun e w'=>e=.returned (.int .i64 (h%16))/\w'=w:=by
 go_enter func83,ntmps83
 go_wp2_with fail
 go_ret
 exact ⟨zeW (zyg h0 h1),rfl⟩
theorem za3(h:Int)(w:World)(h0:0<=h)(h1:h<9223372036854775808):
  Calls prog 85 #[.int .i64 h] w fun e w'=>e=.returned (.int .i64 (h/16%4096))/\w'=w:=by
 go_enter func85,ntmps85
 go_wp2_with fail
 go_ret
 exact ⟨zeW (zu5 (by omega) (by omega)),rfl⟩
theorem zbw(h:Int)(w:World)(_h0:0<=h)(_h1:h<9223372036854775808):
  Calls prog 84 #[.int .i64 h] w fun e w'=>e=.returned (.int .i64 (h/65536))/\w'=w:=by
 go_enter func84,ntmps84
 go_wp2_with fail
 go_ret
 exact ⟨zeW rfl,rfl⟩
theorem zbt(k a c:Nat)(w:World)(h1:k<16)(h3:c<4096)(h5:a<=1000000000):
  Calls prog 75 #[.int .i64 k,.int .i64 a,.int .i64 c] w fun e w'=>e=.returned (.int .i64 (Hd k a c))/\w'=w:=by
 have iB:(k:Int)<16:=by omega
 have uA:(c:Int)<4096:=by omega
 have DN:(a:Int)<=1000000000:=by omega
 go_enter func75,ntmps75
 go_wp2_with fail
 go_ret
 refine ⟨zeW ?_,rfl⟩;have e1:bits .or .i64 ((a:Int)*65536) ((c:Int)*16)=(a:Int)*65536+(c:Int)*16:=zpE 16 (by omega) (by omega) (by omega) (by omega) (by omega) (by omega);rw[e1,zpE 4 (by omega) (by omega) (by omega) (by omega) (by omega) (by omega)];rfl
theorem ziQ(k a:Nat)(w:World)(h1:k<4)(h5:a<=1000000000):
  Calls prog 138 #[.int .i64 k,.int .i64 a] w fun e w'=>e=.returned (.int .i64 (Mk k a))/\w'=w:=by
 have iB:(k:Int)<4:=by omega
 have DN:(a:Int)<=1000000000:=by omega
 go_enter func138,ntmps138
 go_wp2_with fail
 all_goals
  go_ret
  refine ⟨zeW ?_,rfl⟩;rw[zpE 2 (by omega) (by omega) (by omega) (by omega) (by omega) (by omega),zl5 (by omega) (by omega)];rfl
theorem zoV(k a:Nat)(w:World)(h1:k<4)(h5:a<=1000000000):
  Calls prog 202 #[.int .i64 (Mk k a)] w fun e w'=>e=.returned (.int .i64 k)/\w'=w:=by
 obtain ⟨x,hx⟩:∃ x,Mk k a=x:=⟨_,rfl⟩;rw[hx];have ee:-10000000000<=x:=by rw[<-hx,Mk];omega
 have tE:x<0:=by rw[<-hx,Mk];omega
 have HX:=zab hx;clear hx;go_enter func202,ntmps202
 go_wp2_with fail
 all_goals
  go_ret
  refine ⟨zeW ?_,rfl⟩;rw[zl5 (by omega) (by omega),and_3 (by omega) (by omega)];have:=HX.o;rw[Mk]at this;omega
theorem znd(k a:Nat)(w:World)(h1:k<4)(h5:a<=1000000000):
  Calls prog 204 #[.int .i64 (Mk k a)] w fun e w'=>e=.returned (.int .i64 a)/\w'=w:=by
 obtain ⟨x,hx⟩:∃ x,Mk k a=x:=⟨_,rfl⟩;rw[hx];have ee:-10000000000<=x:=by rw[<-hx,Mk];omega
 have tE:x<0:=by rw[<-hx,Mk];omega
 have HX:=zab hx;clear hx;go_enter func204,ntmps204
 go_wp2_with fail
 all_goals
  go_ret
  refine ⟨zeW ?_,rfl⟩;rw[zl5 (by omega) (by omega)];have:=HX.o;rw[Mk]at this;omega
theorem zlQ(h:Int)(w:World)(h0:0<=h)(h1:h<9223372036854775808):
  Calls prog 200 #[.int .i64 h] w fun e w'=>e=.returned (.int .i64 (if h%16=0 then 2 else 1+h/16%4096))/\w'=w:=by
 by_cases hk:h%16=0
 ·rw[if_pos hk];have hb:(h%16 == 0)=true:=beq_iff_eq.2 hk;clear hk;go_enter func200,ntmps200
  go_wp2_with (first|(go_at_call 83;refine (za4 _ _ h0 h1).mono ?_;rintro e w' ⟨rfl,rfl⟩)|(go_at_call 85;refine (za3 _ _ h0 h1).mono ?_;rintro e w' ⟨rfl,rfl⟩))
  go_ret
  exact ⟨rfl,rfl⟩
 ·rw[if_neg hk];have hb:(h%16 == 0)=false:=beq_eq_false_iff_ne.2 hk;have pU:0<=h/16%4096:=by omega
  have bH:h/16%4096<4096:=by omega
  clear hk;go_enter func200,ntmps200
  go_wp2_with (first|(go_at_call 83;refine (za4 _ _ h0 h1).mono ?_;rintro e w' ⟨rfl,rfl⟩)|(go_at_call 85;refine (za3 _ _ h0 h1).mono ?_;rintro e w' ⟨rfl,rfl⟩))
  go_ret
  exact ⟨rfl,rfl⟩
variable {k c:Nat}
theorem zbx{a:Nat}(h1:k<16):Hd k a c%16=k:=by unfold Hd;omega
theorem zeb{a:Nat}(h1:k<16)(h2:c<4096):Hd k a c/16%4096=c:=by unfold Hd;omega
theorem zdE{a:Nat}(h1:k<16)(h2:c<4096):Hd k a c/65536=a:=by unfold Hd;omega
theorem zce(k:Int)(w:World):
  Calls prog 126 #[.int .i64 k] w fun e w'=>e=.panicked [{ v:=.iface 82 (.int .i64 k),recovered:=false }]/\w'=w:=by
 go_enter func126,ntmps126
 go_wp2_with fail
 exact ⟨rfl,rfl,rfl⟩
end Go.Proofs.YtgahgkddaljmkaaGreatDoor
namespace Go.Proofs.YtgahgkddaljmkaaGreatDoor
open Tryz
open Go.RowKit
attribute [local go_sem ↓] Go.wp_at_zero Go.wp_at_succ
structure Sto where
 ws:List Int
 half:Nat
 low:Nat
 free:Nat
 top:Nat
def zdG (ws:List Int):List Value:=ws.map (fun x=>.int .i64 x)
def zil (wb:Nat) (s:Sto):List Value:=[.slice (some ⟨wb,0,none⟩) s.ws.length s.ws.length,.int .i64 s.half,.int .i64 s.low,.int .i64 s.free,.int .i64 s.top]
structure SAt (w:World) (mb wb:Nat) (tl:List Value) (s:Sto):Prop where
 blk:Blk w mb (zil wb s++tl) 81
 zeC:Blk w wb (zdG s.ws) 2
 ne:mb≠wb
 len:s.ws.length<=1000000
 half:s.half<=1000000
 low:s.low<=1000000
 free:s.free<=1000000
 top:s.top<=1000000
theorem zgY(ws:List Int)(i:Nat):(zdG ws)[i]?=(ws[i]?).map (fun x=>.int .i64 x):=by simp[zdG]
theorem zbJ(ws:List Int):(zdG ws).length=ws.length:=by simp[zdG]
variable {w:World}{mb wb:Nat}{tl:List Value}{s:Sto}{i:Nat}{x:Int}
theorem SAt.word(h:SAt w mb wb tl s)(hx:s.ws[i]?=some x):w.cell? ⟨wb,i,none⟩=some (.int .i64 x):=by
 rw[h.zeC.cell,zgY,hx];rfl
structure Fr (K:Nat->Prop) (a b:World):Prop where
 os:b.os=a.os
 tape:b.tape=a.tape
 output:b.output=a.output
 size:a.heap.size<=b.heap.size
 block:∀ k,k<a.heap.size->¬ K k->b.heap[k]?=a.heap[k]?
theorem Fr.refl(K:Nat->Prop)(w:World):Fr K w w:=⟨rfl,rfl,rfl,zyN _,fun _ _ _=>rfl⟩
theorem Fr.trans{K:Nat->Prop}{a b c:World}(h:Fr K a b)(k:Fr K b c):Fr K a c:=
 ⟨k.os.trans h.os,k.tape.trans h.tape,k.output.trans h.output,zyR h.size k.size,fun i hi hK=>(k.block i (zyS hi h.size) hK).trans (h.block i hi hK)⟩
variable {K:Nat->Prop}{a b:World}
theorem Fr.mono{L:Nat->Prop}(h:Fr K a b)(hk:∀ i,K i->L i):Fr L a b:=⟨h.os,h.tape,h.output,h.size,fun i hi hL=>h.block i hi (fun x=>hL (hk i x))⟩
theorem Fr.below(h:Below a.heap.size a b):Fr K a b:=⟨h.os,h.tape,h.output,h.size,fun k hk _=>h.block k hk⟩
theorem Fr.set(h:Fr K a b)(p:Addr)(v:Value)(hp:K p.block\/a.heap.size<=p.block):Fr K a (b.setCell p v):=
 ⟨h.os,h.tape,h.output,by simp[World.setCell];exact h.size,fun k hk hK=>by
  rw[Below.heap_setCell _ _ _ _ (by rintro rfl;rcases hp with hp|hp;exact hK hp;omega)];exact h.block k hk hK⟩
theorem Fr.drew{K:Nat->Prop}{a b:World}(h:Fr K a b):Fr K a b.drew:=⟨h.os,h.tape,h.output,h.size,h.block⟩
theorem Fr.alloc{K:Nat->Prop}{a b:World}(h:Fr K a b)(o:Obj):Fr K a (b.alloc o):=h.trans (Fr.below (zam b o))
variable {k:Nat}{vs:List Value}{t:TypeId}
theorem Fr.blk(h:Blk a k vs t)(f:Fr K a b)(hk:¬ K k):Blk b k vs t:=by
 have hl:=h.lt;unfold Blk at *;rw[f.block k hl hk,h]
def M2 (mb wb:Nat):Nat->Prop:=fun k=>k=mb\/k=wb
theorem zoe{ws:List Int}(h:ws.length=s.ws.length):zil wb { s with ws:=ws }=zil wb s:=by simp[zil,h]
theorem SAt.zlL(h:SAt w mb wb tl s)(v:Nat)(hv:v<=1000000):SAt (w.setCell ⟨mb,4,none⟩ (.int .i64 v)) mb wb tl { s with top:=v }:=
 ⟨h.blk.set 4 (.int .i64 v),h.zeC.other _ _ h.ne.symm,h.ne,h.len,h.half,h.low,h.free,hv⟩
theorem SAt.zjP(h:SAt w mb wb tl s)(v:Nat)(hv:v<=1000000):SAt (w.setCell ⟨mb,3,none⟩ (.int .i64 v)) mb wb tl { s with free:=v }:=
 ⟨h.blk.set 3 (.int .i64 v),h.zeC.other _ _ h.ne.symm,h.ne,h.len,h.half,h.low,hv,h.top⟩
theorem SAt.zyw(h:SAt w mb wb tl s)(v:Nat)(hv:v<=1000000):SAt (w.setCell ⟨mb,2,none⟩ (.int .i64 v)) mb wb tl { s with low:=v }:=
 ⟨h.blk.set 2 (.int .i64 v),h.zeC.other _ _ h.ne.symm,h.ne,h.len,h.half,hv,h.free,h.top⟩
theorem SAt.zcB(h:SAt w mb wb tl s)(i:Nat)(x:Int):SAt (w.setCell ⟨wb,i,none⟩ (.int .i64 x)) mb wb tl { s with ws:=s.ws.set i x }:=by
 refine ⟨?_,?_,h.ne,by simp;exact h.len,h.half,h.low,h.free,h.top⟩
 ·rw[zoe (by simp)];exact h.blk.other _ _ h.ne
 ·have:=h.zeC.set i (.int .i64 x);rw[show (zdG s.ws).set i (.int .i64 x)=zdG (s.ws.set i x) from by simp[zdG,List.map_set]]at this;exact this
theorem SAt.drew{w:World}{mb wb:Nat}{tl:List Value}{s:Sto}(h:SAt w mb wb tl s):SAt w.drew mb wb tl s:=⟨h.blk.drew,h.zeC.drew,h.ne,h.len,h.half,h.low,h.free,h.top⟩
variable {w':World}
theorem SAt.fr(h:SAt w mb wb tl s)(f:Fr K w w')(h1:¬ K mb)(h2:¬ K wb):SAt w' mb wb tl s:=⟨Fr.blk h.blk f h1,Fr.blk h.zeC f h2,h.ne,h.len,h.half,h.low,h.free,h.top⟩
theorem SAt.below{w w':World}{mb wb:Nat}{tl:List Value}{s:Sto}(h:SAt w mb wb tl s)(f:Below w.heap.size w w'):SAt w' mb wb tl s:=h.fr (K:=fun _=>False) (Fr.below f) (by simp) (by simp)
theorem SAt.c0(h:SAt w mb wb tl s):w.cell? ⟨mb,0,none⟩=some (.slice (some ⟨wb,0,none⟩) s.ws.length s.ws.length):=h.blk.cell 0
theorem SAt.c1(h:SAt w mb wb tl s):w.cell? ⟨mb,1,none⟩=some (.int .i64 s.half):=h.blk.cell 1
theorem SAt.c2(h:SAt w mb wb tl s):w.cell? ⟨mb,2,none⟩=some (.int .i64 s.low):=h.blk.cell 2
theorem SAt.c3(h:SAt w mb wb tl s):w.cell? ⟨mb,3,none⟩=some (.int .i64 s.free):=h.blk.cell 3
theorem SAt.c4(h:SAt w mb wb tl s):w.cell? ⟨mb,4,none⟩=some (.int .i64 s.top):=h.blk.cell 4
theorem SAt.zko(h:SAt w mb wb tl s)(hi:i<s.ws.length):w.cell? ⟨wb,i,none⟩=some (.int .i64 s.ws[i]):=h.word (zyM hi)
theorem zcj{a b:Nat}(h:a≠b):∀ (W:World) (o j:Nat) (v:Value),(W.setCell ⟨b,j,none⟩ v).cell? ⟨a,o,none⟩=W.cell? ⟨a,o,none⟩:=
 fun W _o _j _v=>World.cell?_of_block (w:=W) (Below.heap_setCell _ _ _ _ h)
theorem zb5(h:SAt w mb wb tl s)(x:Int)(h1:1<=s.top)(h2:s.top<=s.ws.length):
  Calls prog 76 #[.pointer (some ⟨mb,0,none⟩),.int .i64 x] w fun e w'=>e=.returned (.tuple #[])/\SAt w' mb wb tl { s with top:=s.top-1,ws:=s.ws.set (s.top-1) x }/\Fr (M2 mb wb) w w':=by
 obtain ⟨i,hi⟩:∃ i,s.top=i+1:=⟨s.top-1,by omega⟩;have hlen:=h.len;have br:i<s.ws.length:=by omega
 have H1:=zab (h.zlL i (by omega));have c4:w.cell? ⟨mb,4,none⟩=some (.int .i64 ((i:Int)+1)):=by rw[h.c4,hi];rfl
 have f4:=h.blk.frozen 4;have HP:Hid (Fr (M2 mb wb) w (w.setCell ⟨mb,4,none⟩ (.int .i64 i))):=zab ((Fr.refl _ _).set _ _ (.inl (.inl rfl)));have HI:Hid (s.top-1=i):=zab (by omega);have fP:=zcj h.ne;clear h hi h1 h2;go_enter func76,ntmps76
 go_wp2_with fail
 generalize w.setCell ⟨mb,4,none⟩ (.int .i64 i)=w1 at H1 HP;have d0:=H1.o.c0;have d4:=H1.o.c4;have di:=H1.o.zko (i:=i) br;have fi:=H1.o.zeC.frozen i;have aA:(i:Int)<(s.ws.length:Int):=by omega
 have aw:(0:Int)<=(i:Int):=by omega
 simp only at d0 d4 di;clear c4 f4
 go_region_held3 (fun W=>W.cell? ⟨mb,0,none⟩=some (.slice (some ⟨wb,0,none⟩) s.ws.length s.ws.length)/\W.cell? ⟨mb,4,none⟩=some (.int .i64 i)) (go_keep) (fail)
 all_goals
  go_wp2_with fail
  go_end0
  refine ⟨rfl,?_,?_⟩
  ·have:=H1.o.drew.zcB i x;rw[HI.o];exact this
  ·exact HP.o.drew.set _ _ (.inl (.inr rfl))
theorem zaY{α:Type}(L:List α)(o:Nat)(cs:List α)(h:o+cs.length<=L.length):(splice L o cs).length=L.length:=length_splice L o cs h
theorem zpA(ws xs:List Int)(o:Nat):zdG (splice ws o xs)=splice (zdG ws) o (zdG xs):=by simp[zdG,splice,List.map_take,List.map_drop]
theorem SAt.splice{w:World}{mb wb:Nat}{tl:List Value}{s:Sto}(h:SAt w mb wb tl s)(o:Nat)(xs:List Int)(hf:o+xs.length<=s.ws.length):SAt (w.setRow wb ((zdG s.ws).take o++(zdG xs++(zdG s.ws).drop (o+(zdG xs).length))).toArray) mb wb tl { s with ws:=Go.splice s.ws o xs }:=by
 refine ⟨?_,?_,h.ne,by rw[zaY _ _ _ hf];exact h.len,h.half,h.low,h.free,h.top⟩
 ·rw[zoe (zaY _ _ _ hf)];have:=h.blk;unfold Blk at *;rw[setRow_other w wb mb _ h.ne];exact this
 ·have:=h.zeC;unfold Blk at *;rw[zpA];exact setRow_heap w wb _ _ 2 _ this
theorem Fr.setRow{K:Nat->Prop}{a b:World}(h:Fr K a b)(g:Nat)(cs:Array Value)(hg:K g):Fr K a (b.setRow g cs):=
 ⟨h.os,h.tape,h.output,by simp[World.setRow];exact h.size,fun k hk hK=>by rw[setRow_other b g k cs (by rintro rfl;exact hK hg)];exact h.block k hk hK⟩
theorem zmo(xs:List Int):∀ v∈zdG xs,v.oneCell'=true:=by
 intro v hv;simp only[zdG,zz1]at hv;obtain ⟨x,_,rfl⟩:=hv;rfl
theorem zlv:(prog.info? 2).map (·.size)=some 1:=by kernel_rfl
theorem za6{ops:Array Oper}{o:Oper}{a:Act}{K:Act->World->Prop}{Q:Exit->Act->World->Prop}{E:Prop}(oY:o.guard=none)(d sr:Operand)(ho:o.op=.call { callee:=.builtin .copy,args:=#[d,sr],argTypes:=#[76,76] })(h:SAt w mb wb tl s)(off eF gi eJ gz:Nat)(sp:Option Addr)(hd:a.eval d=.slice (some ⟨wb,off,none⟩) eF gi)(hs:a.eval sr=.slice sp eJ gz)(xs:List Int)(hn:xs.length=Nat.min eJ eF)(dX:0<xs.length->∃ ad,sp=some ad/\∀ (j:Nat) x,xs[j]?=some x->w.cell? (ad.add j)=some (.int .i64 x))(aJ:off+xs.length<=s.ws.length)(hk:∀ w',SAt w' mb wb tl { s with ws:=Go.splice s.ws off xs }->Fr (M2 mb wb) w w'->K (a.put o.dst (goInt xs.length)) w'):if Region.wanted o (yielded ops a.tmps)=true then Oper.wp prog o a w K Q else E:=by
 have hw:Region.wanted o (yielded ops a.tmps)=true:=by simp[Region.wanted,oY]
 rw[if_pos hw];by_cases h0:xs.length=0
 ·have dI:=run_copy_none (P:=prog) w 76 76 o.type 2 (some ⟨wb,off,none⟩) sp eF gi eJ gz underlying76 zlv (by rw[<-hn];exact h0);unfold Oper.wp;simp[execOp,ho,resolve,invoke,builtin,hd,hs,dI,Result.andThen];have e:Go.splice s.ws off xs=s.ws:=by rw[zzt h0];simp[Go.splice]
  have:=hk w (by rw[e];exact h) (Fr.refl _ _);rw[h0]at this;exact this
 ·obtain ⟨ad,rfl,hc⟩:=dX (by omega);have dI:=run_copy_row (P:=prog) w 76 76 o.type 2 wb off eF gi ad eJ gz (zdG s.ws).toArray 2 (zdG xs) underlying76 zlv h.zeC (by rw[zbJ];exact hn) (fun j v hj=>by
   rw[zgY]at hj;obtain ⟨x,hx,rfl⟩:=zyX.1 hj;exact hc j x hx) (by simp[zbJ];exact aJ) (zmo xs)
  unfold Oper.wp;simp[execOp,ho,resolve,invoke,builtin,hd,hs,dI,Result.andThen];have:=hk _ (h.splice off xs aJ) ((Fr.refl _ _).setRow wb _ (.inr rfl));simp only[zbJ]at this ⊢;exact this
theorem zhJ(h:SAt w mb wb tl s):
  Calls prog 78 #[.pointer (some ⟨mb,0,none⟩)] w fun e w'=>e=.returned (.int .i64 ((s.low+s.half:Nat):Int))/\∃ n,w'=w.drewN n:=by
 have c1:=h.c1;have c2:=h.c2;have b1:=h.half;have b2:=h.low;clear h;go_enter func78,ntmps78
 go_wp2_with fail
 go_quiet (fail)
 go_wp2_with fail
 go_ret
 exact ⟨by simp,_,rfl⟩
theorem zms(h:SAt w mb wb tl s):
  Calls prog 124 #[.pointer (some ⟨mb,0,none⟩)] w fun e w'=>e=.returned (.int .i64 ((s.top:Int)-s.free))/\∃ n,w'=w.drewN n:=by
 have c1:=h.c3;have c2:=h.c4;have b1:=h.free;have b2:=h.top;clear h;go_enter func124,ntmps124
 go_wp2_with fail
 go_quiet (fail)
 go_wp2_with fail
 go_ret
 exact ⟨by simp,_,rfl⟩
theorem zbQ(h:SAt w mb wb tl s)(c:Nat)(hc:s.top+c<=1000000):
  Calls prog 137 #[.pointer (some ⟨mb,0,none⟩),.int .i64 c] w fun e w'=>e=.returned (.tuple #[])/\SAt w' mb wb tl { s with top:=s.top+c }/\Fr (M2 mb wb) w w':=by
 have c4:=h.c4;have f4:=h.blk.frozen 4;have HH:=zab h;clear h;go_enter func137,ntmps137
 go_wp2_with fail
 go_end0
 refine ⟨rfl,?_,(Fr.refl _ _).set _ _ (.inl (.inl rfl))⟩;have:=HH.o.zlL (s.top+c) hc;simpa using this
theorem zaA(h:SAt w mb wb tl s)(d:Nat)(x:Int)(hx:s.ws[s.top+d]?=some x):
  Calls prog 82 #[.pointer (some ⟨mb,0,none⟩),.int .i64 d] w fun e w'=>e=.returned (.int .i64 x)/\∃ n,w'=w.drewN n:=by
 have c0:=h.c0;have c4:=h.c4;have cw:=h.word hx;have hl:s.top+d<s.ws.length:=(zyL.1 hx).1;have hlen:=h.len;have aA:(s.top:Int)+(d:Int)<(s.ws.length:Int):=by omega
 clear h hx;go_enter func82,ntmps82
 go_wp2_with fail
 go_quiet (fail)
 go_wp2_with fail
 go_ret
 exact ⟨by simp,_,rfl⟩
def cutAt (len lo:Nat):Nat:=if len=lo then 0 else lo
theorem zbT{len lo:Nat}(h:lo<len):cutAt len lo=lo:=by unfold cutAt;rw[if_neg (by omega)]
theorem zeZ(h:SAt w mb wb tl s)(c:Nat)(hc:s.top+c<=s.ws.length):
  Calls prog 136 #[.pointer (some ⟨mb,0,none⟩),.int .i64 c] w fun e w'=>e=.returned (.slice (some ⟨wb,cutAt s.ws.length s.top,none⟩) c (s.ws.length-s.top))/\∃ n,w'=w.drewN n:=by
 have c0:=h.c0;have c4:=h.c4;have hlen:=h.len;have aA:(s.top:Int)+(c:Int)<=(s.ws.length:Int):=by omega
 clear h;go_enter func136,ntmps136
 go_wp2_with fail
 go_quiet (fail)
 go_wp2_with fail
 all_goals
  go_ret
  refine ⟨?_,_,rfl⟩;simp[cutAt, *]
theorem zcA(h:SAt w mb wb tl s)(a:Nat)(x:Int)(hx:s.ws[a]?=some x)(h0:0<=x)(h1:x<9223372036854775808)(hc:a+1+(x/16%4096).toNat<=s.ws.length):
  Calls prog 135 #[.pointer (some ⟨mb,0,none⟩),.int .i64 a] w fun e w'=>e=.returned (.slice (some ⟨wb,cutAt s.ws.length (a+1),none⟩) (x/16%4096).toNat (s.ws.length-(a+1)))/\∃ n,w'=w.drewN n:=by
 have c0:=h.c0;have cw:=h.word hx;have hlen:=h.len;have hl:(a:Int)<(s.ws.length:Int):=by have:=(zyL.1 hx).1;omega
 obtain ⟨c,ic⟩:∃ c:Nat,(x/16%4096)=(c:Int):=⟨(x/16%4096).toNat,by omega⟩;have iG:(x/16%4096).toNat=c:=by omega
 rw[iG]at hc ⊢;have aA:(a:Int)+1+(c:Int)<=(s.ws.length:Int):=by omega
 have HC:=zab (fun W:World=>za3 x W h0 h1);rw[ic]at HC;clear h hx ic iG h0 h1;go_enter func135,ntmps135
 go_wp2_with fail
 go_quiet ((go_at_call 85;exact Calls.quiet_of_same (HC.o _)))
 go_wp2_with fail
 all_goals
  go_ret
  refine ⟨?_,_,rfl⟩;simp[cutAt, *]
theorem zpK(h:SAt w mb wb tl s)(xs:List Int)(sp:Option Addr)(cp:Nat)(dX:0<xs.length->∃ ad,sp=some ad/\∀ (W:World),SAt W mb wb tl { s with top:=s.top-xs.length }->Fr (M2 mb wb) w W->∀ (j:Nat) x,xs[j]?=some x->W.cell? (ad.add j)=some (.int .i64 x))(h1:xs.length<=s.top)(h2:s.top<=s.ws.length):
  Calls prog 201 #[.pointer (some ⟨mb,0,none⟩),.slice sp xs.length cp] w fun e w'=>e=.returned (.tuple #[])/\SAt w' mb wb tl { s with top:=s.top-xs.length,ws:=Go.splice s.ws (s.top-xs.length) xs }/\Fr (M2 mb wb) w w':=by
 obtain ⟨i,hi⟩:∃ i,s.top=i+xs.length:=⟨s.top-xs.length,by omega⟩;have l9:s.top-xs.length=i:=by omega
 rw[l9]at dX ⊢;have hlen:=h.len;have H1:=zab (h.zlL i (by omega));have c4:w.cell? ⟨mb,4,none⟩=some (.int .i64 ((i:Int)+(xs.length:Int))):=by rw[h.c4,hi];rfl
 have f4:=h.blk.frozen 4;have HP:Hid (Fr (M2 mb wb) w (w.setCell ⟨mb,4,none⟩ (.int .i64 i))):=zab ((Fr.refl _ _).set _ _ (.inl (.inl rfl)));have HS:=zab dX;have br:i+xs.length<=s.ws.length:=by omega
 have aA:(i:Int)<=(s.ws.length:Int):=by omega
 have aw:(0:Int)<=(i:Int):=by omega
 have bD:(i:Int)+(xs.length:Int)<=1000000:=by omega
 clear h hi h1 h2 l9 dX;go_enter func201,ntmps201
 go_wp2_with fail
 generalize w.setCell ⟨mb,4,none⟩ (.int .i64 i)=w1 at H1 HP;have d0:=H1.o.c0;have d4:=H1.o.c4;simp only at d0 d4;have pJ:Hid (0<xs.length->∃ ad,sp=some ad/\∀ (j:Nat) x,xs[j]?=some x->w1.drew.cell? (ad.add j)=some (.int .i64 x)):=zab (fun h0=>by
  obtain ⟨ad,h1,h2⟩:=HS.o h0;exact ⟨ad,h1,fun j x hj=>h2 w1.drew H1.o.drew HP.o.drew j x hj⟩)
 clear c4 f4 HS;by_cases hr:s.ws.length=i
 ·have hx:xs=[]:=zzt (by omega);subst hx
  go_region_held3 (fun W=>W.cell? ⟨mb,0,none⟩=some (.slice (some ⟨wb,0,none⟩) s.ws.length s.ws.length)/\W.cell? ⟨mb,4,none⟩=some (.int .i64 i)) (first|go_keep|(refine ⟨?_,?_⟩ <;> assumption)) (first
   |(refine za6 (by rfl) _ _ (by rfl) H1.o.drew _ _ _ _ _ _ (by rfl) (by rfl) [] (by simp) (fun h=>absurd h (by simp)) (by simp) ?_;intro w3 h3 f3;have H3:=zab h3;have F3:=zab f3;have e0:=h3.c0;have e4:=h3.c4;simp only[splice,zzR,zzb,zzY,zzm,zzO]at e0 e4;clear h3 f3))
  all_goals
   go_wp2_with fail
   go_end0
   refine ⟨rfl,?_,HP.o.trans ((Fr.refl _ _).drew.trans F3.o)⟩;have:=H3.o;simpa [splice] using this
 ·have aj:i<s.ws.length:=by omega
  go_region_held3 (fun W=>W.cell? ⟨mb,0,none⟩=some (.slice (some ⟨wb,0,none⟩) s.ws.length s.ws.length)/\W.cell? ⟨mb,4,none⟩=some (.int .i64 i)) (first|go_keep|(refine ⟨?_,?_⟩ <;> assumption)) (first
   |(refine za6 (by rfl) _ _ (by rfl) H1.o.drew i _ _ _ _ _ (by rfl) (by rfl) xs (by simp[Nat.min_def];omega) pJ.o br ?_;intro w3 h3 f3;have H3:=zab h3;have F3:=zab f3;have e0:=h3.c0;have e4:=h3.c4;simp only[zaY _ _ _ br]at e0 e4;clear h3 f3))
  all_goals
   go_wp2_with fail
   go_end0
   exact ⟨rfl,H3.o,HP.o.trans ((Fr.refl _ _).drew.trans F3.o)⟩
theorem ziN(h:SAt w mb wb tl s)(ty:TypeId)(off eF gi eJ gz:Nat)(sp:Option Addr)(xs:List Int)(hn:xs.length=Nat.min eJ eF)(dX:0<xs.length->∃ ad,sp=some ad/\∀ (j:Nat) x,xs[j]?=some x->w.cell? (ad.add j)=some (.int .i64 x))(aJ:off+xs.length<=s.ws.length):
  ∃ w',(Builtin.copy_ #[76,76] ty #[.slice (some ⟨wb,off,none⟩) eF gi,.slice sp eJ gz]).run prog w=.ok (goInt xs.length) w'/\SAt w' mb wb tl { s with ws:=Go.splice s.ws off xs }/\Fr (M2 mb wb) w w':=by
 by_cases h0:xs.length=0
 ·have dI:=run_copy_none (P:=prog) w 76 76 ty 2 (some ⟨wb,off,none⟩) sp eF gi eJ gz underlying76 zlv (by rw[<-hn];exact h0);have e:Go.splice s.ws off xs=s.ws:=by rw[zzt h0];simp[Go.splice]
  exact ⟨w,by rw[dI,h0];rfl,by rw[e];exact h,Fr.refl _ _⟩
 ·obtain ⟨ad,rfl,hc⟩:=dX (by omega);have dI:=run_copy_row (P:=prog) w 76 76 ty 2 wb off eF gi ad eJ gz (zdG s.ws).toArray 2 (zdG xs) underlying76 zlv h.zeC (by rw[zbJ];exact hn) (fun j v hj=>by
   rw[zgY]at hj;obtain ⟨x,hx,rfl⟩:=zyX.1 hj;exact hc j x hx) (by simp[zbJ];exact aJ) (zmo xs)
  refine ⟨_,?_,h.splice off xs aJ,(Fr.refl _ _).setRow wb _ (.inr rfl)⟩;rw[dI,zbJ];simp[]
theorem zej(h:SAt w mb wb tl s)(hd:Int)(xs:List Int)(sp:Option Addr)(cp:Nat)(hf:s.free+1+xs.length<=s.ws.length)(dX:0<xs.length->∃ ad,sp=some ad/\∀ (W:World),SAt W mb wb tl { s with ws:=s.ws.set s.free hd }->Fr (M2 mb wb) w W->∀ (j:Nat) x,xs[j]?=some x->W.cell? (ad.add j)=some (.int .i64 x)):
  Calls prog 74 #[.pointer (some ⟨mb,0,none⟩),.int .i64 hd,.slice sp xs.length cp] w fun e w'=>e=.returned (.int .i64 s.free)/\SAt w' mb wb tl { s with free:=s.free+1+xs.length,ws:=Go.splice (s.ws.set s.free hd) (s.free+1) xs }/\Fr (M2 mb wb) w w':=by
 obtain ⟨ws,hh,lo,a,tp⟩:=s;simp only at hf dX ⊢;have hlen:ws.length<=1000000:=h.len;have aU:a<ws.length:=by omega
 have H1:=zab (h.zcB a hd);have c0:w.cell? ⟨mb,0,none⟩=some (.slice (some ⟨wb,0,none⟩) ws.length ws.length):=h.c0;have c3:w.cell? ⟨mb,3,none⟩=some (.int .i64 a):=h.c3;have ca:w.cell? ⟨wb,a,none⟩=some (.int .i64 ws[a]):=h.zko (i:=a) aU;have fa:=h.zeC.frozen a;have HP:Hid (Fr (M2 mb wb) w (w.setCell ⟨wb,a,none⟩ (.int .i64 hd))):=zab ((Fr.refl _ _).set _ _ (.inl (.inr rfl)));have HS:=zab dX;have fP:=zcj h.ne;have aA:(a:Int)+1<=(ws.length:Int):=by omega
 have aw:(0:Int)<=(a:Int):=by omega
 have bD:(a:Int)+1+(xs.length:Int)<=1000000:=by omega
 clear h dX;by_cases hr:ws.length=a+1
 ·have hx:xs=[]:=zzt (by omega);subst hx;obtain ⟨w2,dI,h2,f2⟩:=ziN H1.o 3 0 0 0 0 cp sp [] (by simp) (fun h=>absurd h (by simp)) (by simp);have H2:=zab h2;have F2:=zab (HP.o.trans f2);have e3:=h2.c3;have g3:=h2.blk.frozen 3;simp only at e3;clear h2 f2 HS;go_enter func74,ntmps74
  go_wp2_with fail
  go_ret
  refine ⟨rfl,?_,F2.o.set _ _ (.inl (.inl rfl))⟩;have:=H2.o.zjP (a+1) (by omega);simpa [splice] using this
 ·obtain ⟨w2,dI,h2,f2⟩:=ziN H1.o 3 (a+1) (ws.length-(a+1)) (ws.length-(a+1)) xs.length cp sp xs (by simp[Nat.min_def];omega) (fun h0=>by
   obtain ⟨ad,q1,q2⟩:=HS.o h0;exact ⟨ad,q1,q2 _ H1.o HP.o⟩) (by simp;omega)
  have H2:=zab h2;have F2:=zab (HP.o.trans f2);have e3:=h2.c3;have g3:=h2.blk.frozen 3;simp only at e3;clear h2 f2 HS;go_enter func74,ntmps74
  go_wp2_with fail
  go_ret
  refine ⟨rfl,?_,F2.o.set _ _ (.inl (.inl rfl))⟩;have:=H2.o.zjP (a+1+xs.length) (by omega);rw[show ((a+1+xs.length:Nat):Int)=(a:Int)+(1+(xs.length:Int)) by omega]at this;exact this
theorem zbe(b o j:Nat):(⟨b,o,none⟩:Addr).add j=⟨b,o+j,none⟩:=by simp[Addr.add]
def Sto.zbR (s:Sto):Sto:=
 let n:=s.low+s.half-s.top
 let t:=s.half-s.low+s.half-n
 { s with low:=s.half-s.low,free:=s.half-s.low,top:=t,ws:=splice s.ws t ((s.ws.drop s.top).take n) }
theorem zwy(h:SAt w mb wb tl s)(h1:s.low<=s.half)(h2:2*s.half<=s.ws.length)(h3:s.low<=s.top)(h4:s.top<=s.low+s.half):
  Calls prog 198 #[.pointer (some ⟨mb,0,none⟩)] w fun e w'=>e=.returned (.tuple #[])/\SAt w' mb wb tl s.zbR/\Fr (M2 mb wb) w w':=by
 obtain ⟨ws,hf,lo,fr,tp⟩:=s;simp only at h1 h2 h3 h4;have hlen:ws.length<=1000000:=h.len;have c0:w.cell? ⟨mb,0,none⟩=some (.slice (some ⟨wb,0,none⟩) ws.length ws.length):=h.c0;have c1:w.cell? ⟨mb,1,none⟩=some (.int .i64 hf):=h.c1;have c2:w.cell? ⟨mb,2,none⟩=some (.int .i64 lo):=h.c2;have c4:w.cell? ⟨mb,4,none⟩=some (.int .i64 tp):=h.c4;have f2:=h.blk.frozen 2;have CE:=zab (fun (n:Nat)=>zhJ (s:=⟨ws,hf,lo,fr,tp⟩) (w:=w.drewN n) ⟨h.blk,h.zeC,h.ne,h.len,h.half,h.low,h.free,h.top⟩);simp only[zzq]at CE;have HH:=zab h;have aA:(lo:Int)<=(hf:Int):=by omega
 have aw:(tp:Int)<=(lo:Int)+(hf:Int):=by omega
 have bD:(lo:Int)+(hf:Int)<=(ws.length:Int):=by omega
 clear h;go_enter func198,ntmps198
 go_wp2_with fail
 go_quiet ((go_at_call 78;exact Calls.quiet_of (CE.o _)))
 obtain ⟨oa,o7⟩:∃ oa,(if ws.length=tp then some (⟨wb,0,none⟩:Addr) else some ⟨wb,tp,none⟩)=oa:=⟨_,rfl⟩;rw[o7];have Co:=zab o7;have pE:Hid (Fr (M2 mb wb) w (w.drewN nq)):=zab ⟨rfl,rfl,rfl,zyN _,fun _ _ _=>rfl⟩;have H0:Hid (SAt (w.drewN nq) mb wb tl ⟨ws,hf,lo,fr,tp⟩):=zab ⟨HH.o.blk,HH.o.zeC,HH.o.ne,HH.o.len,HH.o.half,HH.o.low,HH.o.free,HH.o.top⟩;clear o7 CE HH c0 c1 c2 c4 f2;generalize w.drewN nq=w0 at pE H0;have c1:w0.cell? ⟨mb,1,none⟩=some (.int .i64 hf):=H0.o.c1;have c2:w0.cell? ⟨mb,2,none⟩=some (.int .i64 lo):=H0.o.c2;have f2:=H0.o.blk.frozen 2;obtain ⟨l2,aC⟩:∃ l2:Nat,hf-lo=l2:=⟨_,rfl⟩;obtain ⟨n,hn⟩:∃ n:Nat,lo+hf-tp=n:=⟨_,rfl⟩;obtain ⟨t,mi⟩:∃ t:Nat,l2+hf-n=t:=⟨_,rfl⟩;rw[hn];have HL:Hid (IntKind.i64.wrap ((hf:Int)-(lo:Int))=(l2:Int)):=zab (by rw[zbc _ (by omega) (by omega)];omega);have iJ:n<=hf:=by omega
 have C5:Hid ((l2:Int)+(hf:Int)-(n:Int)=(t:Int)):=zab (by omega);have tj:t+n=l2+hf:=by omega
 have EN:l2<=hf:=by omega
 have aJ:t+n<=ws.length:=by omega
 have HT:Hid ((⟨ws,hf,lo,fr,tp⟩:Sto).zbR=⟨splice ws t ((ws.drop tp).take n),hf,l2,l2,t⟩):=zab (by
  unfold Sto.zbR;simp only[aC,hn,mi])
 have dk:((ws.drop tp).take n).length=n:=by rw[zzf,zzu];omega
 have kG:Hid (0<n->oa=some ⟨wb,tp,none⟩):=zab (fun h0=>by rw[<-Co.o,if_neg (by omega)]);have Fh:tp+n<=ws.length:=by omega
 clear aC hn mi;go_wp2_with fail
 go_region_with (fail)
 all_goals
  rw[HL.o];have H1:=zab ((H0.o.zyw l2 (by omega)).drew);have F1:=zab ((pE.o.set ⟨mb,2,none⟩ (.int .i64 l2) (.inl (.inl rfl))).drew);generalize (w0.setCell ⟨mb,2,none⟩ (.int .i64 l2)).drew=w1 at H1 F1;clear c1 c2 f2;have c2:w1.cell? ⟨mb,2,none⟩=some (.int .i64 l2):=H1.o.c2;have c3:w1.cell? ⟨mb,3,none⟩=some (.int .i64 fr):=H1.o.c3;have f3:=H1.o.blk.frozen 3;have H2:=zab (H1.o.zjP l2 (by omega));have F2:=zab (F1.o.set ⟨mb,3,none⟩ (.int .i64 l2) (.inl (.inl rfl)));have CE:=zab (zhJ H2.o);go_wp2_with fail
  refine CE.o.mono ?_;rintro e w3 ⟨rfl,k3,bL⟩;have H3:Hid (SAt w3 mb wb tl ⟨ws,hf,l2,l2,tp⟩):=zab (by rw[bL];exact ⟨H2.o.blk,H2.o.zeC,H2.o.ne,H2.o.len,H2.o.half,H2.o.low,H2.o.free,H2.o.top⟩);have F3:Hid (Fr (M2 mb wb) w w3):=zab (by rw[bL];exact ⟨F2.o.os,F2.o.tape,F2.o.output,F2.o.size,F2.o.block⟩);clear bL c2 c3 f3 CE;have c4:w3.cell? ⟨mb,4,none⟩=some (.int .i64 tp):=H3.o.c4;have f4:=H3.o.blk.frozen 4;simp only[zzq];go_wp2_with fail
  rw[C5.o];have H4:=zab (H3.o.zlL t (by omega));have F4:=zab (F3.o.set ⟨mb,4,none⟩ (.int .i64 t) (.inl (.inl rfl)));generalize w3.setCell ⟨mb,4,none⟩ (.int .i64 t)=w4 at H4 F4;clear c4 f4;have d0:w4.cell? ⟨mb,0,none⟩=some (.slice (some ⟨wb,0,none⟩) ws.length ws.length):=H4.o.c0;have d4:w4.cell? ⟨mb,4,none⟩=some (.int .i64 t):=H4.o.c4;have od:(t:Int)<=(ws.length:Int):=by omega
  have mg:(0:Int)<=(t:Int):=by omega
  have pJ:Hid (0<((ws.drop tp).take n).length->∃ ad,oa=some ad/\∀ (j:Nat) x,((ws.drop tp).take n)[j]?=some x->w4.drew.cell? (ad.add j)=some (.int .i64 x)):=zab (fun h0=>by
   rw[dk]at h0;refine ⟨_,kG.o h0,fun j x hj=>?_⟩;have sA:j<n:=by
    have:=(zyL.1 hj).1;omega
   have hx:ws[tp+j]?=some x:=by
    rw[zzy,if_pos sA,zzx]at hj;exact hj
   rw[zbe];exact H4.o.drew.word hx)
  generalize (ws.drop tp).take n=xs at pJ HT dk;subst dk;by_cases hr:ws.length=t
  ·have hx:xs=[]:=zzt (by omega);subst hx
   go_region_held3 (fun W=>W.cell? ⟨mb,0,none⟩=some (.slice (some ⟨wb,0,none⟩) ws.length ws.length)/\W.cell? ⟨mb,4,none⟩=some (.int .i64 t)) (first|go_keep|(refine ⟨?_,?_⟩ <;> assumption)) (first
    |(refine za6 (by rfl) _ _ (by rfl) H4.o.drew _ _ _ _ _ _ (by rfl) (by rfl) [] (by simp) (fun h=>absurd h (by simp)) (by simp) ?_;intro w5 h5 f5;have H5:=zab h5;have F5:=zab f5;have e0:=h5.c0;have e4:=h5.c4;simp only[splice,zzR,zzb,zzY,zzm,zzO]at e0 e4;clear h5 f5))
   all_goals
    go_wp2_with fail
    go_end0
    refine ⟨rfl,?_,F4.o.trans ((Fr.refl _ _).drew.trans F5.o)⟩;rw[HT.o];have:=H5.o;simpa [splice] using this
  ·have aj:t<ws.length:=by omega
   go_region_held3 (fun W=>W.cell? ⟨mb,0,none⟩=some (.slice (some ⟨wb,0,none⟩) ws.length ws.length)/\W.cell? ⟨mb,4,none⟩=some (.int .i64 t)) (first|go_keep|(refine ⟨?_,?_⟩ <;> assumption)) (first
    |(refine za6 (by rfl) _ _ (by rfl) H4.o.drew t _ _ _ _ _ (by rfl) (by rfl) xs (by simp[Nat.min_def];omega) pJ.o aJ ?_;intro w5 h5 f5;have H5:=zab h5;have F5:=zab f5;have e0:=h5.c0;have e4:=h5.c4;simp only[zaY _ _ _ aJ]at e0 e4;clear h5 f5))
   all_goals
    go_wp2_with fail
    go_end0
    refine ⟨rfl,?_,F4.o.trans ((Fr.refl _ _).drew.trans F5.o)⟩;rw[HT.o];exact H5.o
theorem SAt.drewN{w:World}{mb wb:Nat}{tl:List Value}{s:Sto}(h:SAt w mb wb tl s)(n:Nat):SAt (w.drewN n) mb wb tl s:=⟨h.blk,h.zeC,h.ne,h.len,h.half,h.low,h.free,h.top⟩
theorem Fr.drewN{K:Nat->Prop}{a b:World}(h:Fr K a b)(n:Nat):Fr K a (b.drewN n):=⟨h.os,h.tape,h.output,h.size,h.block⟩
def behind (y:Int):Nat:=if y%16=0 then 1 else (y/16%4096).toNat
theorem zrl(h:SAt w mb wb tl s)(a b:Nat)(x y:Int)(hx:s.ws[a]?=some x)(cX:0<=x)(ee:x<9223372036854775808)(hb:(b:Int)=if x%16=4 then x/65536 else a)(hy:s.ws[b]?=some y)(aT:0<=y)(bE:y<9223372036854775808)(hf:y%16=5):
  Calls prog 254 #[.pointer (some ⟨mb,0,none⟩),.int .i64 a] w fun e w'=>e=.returned (.int .i64 (y/65536))/\SAt w' mb wb tl s/\Fr (M2 mb wb) w w':=by
 have c0:=h.c0;have ca:=h.word hx;have cb:=h.word hy;have ha:(a:Int)<(s.ws.length:Int):=by have:=(zyL.1 hx).1;omega
 have cV:(b:Int)<(s.ws.length:Int):=by have:=(zyL.1 hy).1;omega
 have Fy:(y%16 == 5)=true:=beq_iff_eq.2 hf;have K1:=zab (fun W:World=>za4 x W cX ee);have K2:=zab (fun W:World=>za4 y W aT bE);have W1:=zab (fun W:World=>zbw x W cX ee);have W2:=zab (fun W:World=>zbw y W aT bE);have HH:=zab h;clear h hx hy hf;by_cases hm:x%16=4
 ·rw[if_pos hm]at hb;have tF:(x%16 == 4)=true:=beq_iff_eq.2 hm;rw[<-hb]at W1;clear hm hb;go_enter func254,ntmps254
  go_wp2_with fail
  refine (K1.o _).mono ?_;rintro e w1 ⟨rfl,rfl⟩;go_wp2_with fail
  refine (W1.o _).mono ?_;rintro e w1 ⟨rfl,rfl⟩;go_wp2_with fail
  refine (K2.o _).mono ?_;rintro e w1 ⟨rfl,rfl⟩;go_wp2_with fail
  refine (W2.o _).mono ?_;rintro e w1 ⟨rfl,rfl⟩;go_wp2_with fail
  go_ret
  exact ⟨rfl,HH.o,Fr.refl _ _⟩
 ·rw[if_neg hm]at hb;have tF:(x%16 == 4)=false:=beq_eq_false_iff_ne.2 hm;obtain rfl:b=a:=by omega
  have yk:x=y:=by
   have:=ca.symm.trans cb;simpa using this
  subst yk;clear hm hb;go_enter func254,ntmps254
  go_wp2_with fail
  refine (K1.o _).mono ?_;rintro e w1 ⟨rfl,rfl⟩;go_wp2_with fail
  refine (K2.o _).mono ?_;rintro e w1 ⟨rfl,rfl⟩;go_wp2_with fail
  refine (W2.o _).mono ?_;rintro e w1 ⟨rfl,rfl⟩;go_wp2_with fail
  go_ret
  exact ⟨rfl,HH.o,Fr.refl _ _⟩
theorem zrm(h:SAt w mb wb tl s)(a b:Nat)(x y:Int)(hx:s.ws[a]?=some x)(cX:0<=x)(ee:x<9223372036854775808)(hb:(b:Int)=if x%16=4 then x/65536 else a)(hy:s.ws[b]?=some y)(aT:0<=y)(bE:y<9223372036854775808)(hf:y%16≠5)(hn:b+1+behind y<=s.ws.length)(ak:s.free+1+behind y<=s.ws.length)(hd:s.free<b+1\/b+1+behind y<=s.free):
  Calls prog 254 #[.pointer (some ⟨mb,0,none⟩),.int .i64 a] w fun e w'=>e=.returned (.int .i64 s.free) /\
   SAt w' mb wb tl { s with free:=s.free+1+behind y,ws:=(splice (s.ws.set s.free y) (s.free+1) ((s.ws.drop (b+1)).take (behind y))).set b (Hd 5 s.free 0) }/\Fr (M2 mb wb) w w':=by
 obtain ⟨ws,uJ,lo,fr,tp⟩:=s;simp only at hx hy hn ak hd ⊢;have hlen:ws.length<=1000000:=h.len;have c0:w.cell? ⟨mb,0,none⟩=some (.slice (some ⟨wb,0,none⟩) ws.length ws.length):=h.c0;have ca:w.cell? ⟨wb,a,none⟩=some (.int .i64 x):=h.word hx;have cb:w.cell? ⟨wb,b,none⟩=some (.int .i64 y):=h.word hy;have ha:(a:Int)<(ws.length:Int):=by have:=(zyL.1 hx).1;omega
 have cV:(b:Int)<(ws.length:Int):=by omega
 have Fy:(y%16 == 5)=false:=beq_eq_false_iff_ne.2 hf;have K1:=zab (fun W:World=>za4 x W cX ee);have K2:=zab (fun W:World=>za4 y W aT bE);have W1:=zab (fun W:World=>zbw x W cX ee);have SZ:=zab (fun W:World=>zlQ y W aT bE);obtain ⟨n,iZ⟩:∃ n,behind y=n:=⟨_,rfl⟩;rw[show (if y%16=0 then 2 else 1+y/16%4096)=((n+1:Nat):Int) by rw[<-iZ,behind];split <;> omega]at SZ;simp only[zzq,Int.natCast_one]at SZ;rw[iZ]at hn ak hd ⊢;have dk:((ws.drop (b+1)).take n).length=n:=by rw[zzf,zzu];omega
 have HD:=zab (fun W:World=>zbt 5 fr 0 W (by omega) (by omega) (by omega));have CN:Hid (∀ W:World,SAt W mb wb tl ⟨ws,uJ,lo,fr,tp⟩->Fr (M2 mb wb) w W->Calls prog 74 #[.pointer (some ⟨mb,0,none⟩),.int .i64 y,.slice (if ws.length=b+1 then some ⟨wb,0,none⟩ else some ⟨wb,b+1,none⟩) n (ws.length-(b+1))] W fun e w'=>e=.returned (.int .i64 fr)/\SAt w' mb wb tl ⟨splice (ws.set fr y) (fr+1) ((ws.drop (b+1)).take n),uJ,lo,fr+1+n,tp⟩/\Fr (M2 mb wb) W w'):=zab (fun W hW _=>by
  have:=zej hW y ((ws.drop (b+1)).take n) (if ws.length=b+1 then some ⟨wb,0,none⟩ else some ⟨wb,b+1,none⟩) (ws.length-(b+1)) (by rw[dk];exact ak) (fun h0=>by
   rw[dk]at h0;refine ⟨_,if_neg (by omega),fun W2 h2 _ j x hj=>?_⟩;have sA:j<n:=by
    have:=(zyL.1 hj).1;omega
   rw[zzy,if_pos sA,zzx]at hj;rw[zbe];refine h2.word ?_;show (ws.set fr y)[b+1+j]?=some x;rw[zAo (by omega)];exact hj)
  simp only[dk]at this;exact this)
 have aJ:fr+1+((ws.drop (b+1)).take n).length<=(ws.set fr y).length:=by rw[dk,zy6];exact ak
 have HH:=zab h;have fP:=zcj h.ne;have sR:(0:Int)<=(b:Int)+1:=by omega
 have cF:(b:Int)+1<=(b:Int)+((n:Int)+1):=by omega
 have bC:(b:Int)+((n:Int)+1)<=(ws.length:Int):=by omega
 have aD:IntKind.i64.wrap ((b:Int)+1)=(b:Int)+1:=zbc _ (by omega) (by omega);have aB:IntKind.i64.wrap ((b:Int)+((n:Int)+1))=(b:Int)+((n:Int)+1):=zbc _ (by omega) (by omega);obtain ⟨oa,o7⟩:∃ oa,(if ws.length=b+1 then some (⟨wb,0,none⟩:Addr) else some ⟨wb,b+1,none⟩)=oa:=⟨_,rfl⟩;have py:∀ W:World,(Instr.slice 76 (.slice (some ⟨wb,0,none⟩) ws.length ws.length) (some (.int .i64 ((b:Int)+1))) (some (.int .i64 ((b:Int)+((n:Int)+1)))) none).run prog W=.ok (.slice oa n (ws.length-(b+1))) W:=by
  intro W;rw[run_slice_lh W 76 _ _ _ underlying76 .i64 .i64 _ _ sR cF bC,<-o7];have e1:((b:Int)+1).toNat=b+1:=by omega
  have e2:((b:Int)+((n:Int)+1)).toNat=b+(n+1):=by omega
  have e3:prog.elem 76=2:=by kernel_rfl
  rw[e3,sizeOf2];simp only[Result.andThen,sliced,e1,e2,zAt,zzP,zbe,zzG];rw[show b+(n+1)-(b+1)=n by omega]
 rw[o7]at CN;clear o7;have kf:(0:Int)<=(b:Int):=by omega
 generalize (ws.drop (b+1)).take n=xs at CN aJ dk;clear h hx hy hf iZ hn hd dk;by_cases hm:x%16=4
 ·rw[if_pos hm]at hb;have tF:(x%16 == 4)=true:=beq_iff_eq.2 hm;rw[<-hb]at W1;clear hm hb;go_enter func254,ntmps254
  go_wp2_with fail
  refine (K1.o _).mono ?_;rintro e w1 ⟨rfl,rfl⟩;go_wp2_with fail
  refine (W1.o _).mono ?_;rintro e w1 ⟨rfl,rfl⟩;go_wp2_with fail
  refine (K2.o _).mono ?_;rintro e w1 ⟨rfl,rfl⟩;go_wp2_with fail
  go_region_held3 (fun W=>W.cell? ⟨mb,0,none⟩=some (.slice (some ⟨wb,0,none⟩) ws.length ws.length)) (first|go_keep|assumption) (first
   |(go_at_call 200;refine (SZ.o _).mono ?_;rintro e w1 ⟨rfl,rfl⟩)
   |(go_at_call 74;refine (CN.o _ HH.o.drew (Fr.refl _ _).drew).mono ?_;rintro e w3 ⟨rfl,h3,f3⟩;have H3:=zab h3;have F3:=zab ((Fr.refl _ _).drew.trans f3);have e0:=h3.c0;simp only[zaY _ _ _ aJ,zy6]at e0;clear h3 f3))
  all_goals
   go_wp2_with fail
   have e1:=H3.o.zko (i:=b) (by rw[zaY _ _ _ aJ,zy6];omega);have g1:=H3.o.zeC.frozen b;clear c0 ca cb
   go_region_held3 (fun W=>W.cell? ⟨mb,0,none⟩=some (.slice (some ⟨wb,0,none⟩) ws.length ws.length)) (first|go_keep|assumption) (first
    |(go_at_call 75;refine (HD.o _).mono ?_;rintro e w4 ⟨rfl,rfl⟩))
   all_goals
    go_wp2_with fail
    go_ret
    exact ⟨rfl,H3.o.drew.zcB b _,F3.o.drew.set _ _ (.inl (.inr rfl))⟩
 ·rw[if_neg hm]at hb;have tF:(x%16 == 4)=false:=beq_eq_false_iff_ne.2 hm;obtain rfl:b=a:=by omega
  have yk:x=y:=by
   have:=ca.symm.trans cb;simpa using this
  subst yk;clear hm hb;go_enter func254,ntmps254
  go_wp2_with fail
  refine (K1.o _).mono ?_;rintro e w1 ⟨rfl,rfl⟩;go_wp2_with fail
  refine (K2.o _).mono ?_;rintro e w1 ⟨rfl,rfl⟩;go_wp2_with fail
  go_region_held3 (fun W=>W.cell? ⟨mb,0,none⟩=some (.slice (some ⟨wb,0,none⟩) ws.length ws.length)) (first|go_keep|assumption) (first
   |(go_at_call 200;refine (SZ.o _).mono ?_;rintro e w1 ⟨rfl,rfl⟩)
   |(go_at_call 74;refine (CN.o _ HH.o.drew (Fr.refl _ _).drew).mono ?_;rintro e w3 ⟨rfl,h3,f3⟩;have H3:=zab h3;have F3:=zab ((Fr.refl _ _).drew.trans f3);have e0:=h3.c0;simp only[zaY _ _ _ aJ,zy6]at e0;clear h3 f3))
  all_goals
   go_wp2_with fail
   have e1:=H3.o.zko (i:=b) (by rw[zaY _ _ _ aJ,zy6];omega);have g1:=H3.o.zeC.frozen b;clear c0 ca cb
   go_region_held3 (fun W=>W.cell? ⟨mb,0,none⟩=some (.slice (some ⟨wb,0,none⟩) ws.length ws.length)) (first|go_keep|assumption) (first
    |(go_at_call 75;refine (HD.o _).mono ?_;rintro e w4 ⟨rfl,rfl⟩))
   all_goals
    go_wp2_with fail
    go_ret
    exact ⟨rfl,H3.o.drew.zcB b _,F3.o.drew.set _ _ (.inl (.inr rfl))⟩
def Sto.zgR (s:Sto) (a:Nat):Option (Nat × Sto):=
 match s.ws[a]? with
 |none=>none
 |some x=>
  if x<0\/9223372036854775808<=x then none else
  match s.ws[if x%16=4 then (x/65536).toNat else a]? with
  |none=>none
  |some y=>
   if y<0\/9223372036854775808<=y then none
   else if y%16=5 then some ((y/65536).toNat,s)
   else if (if x%16=4 then (x/65536).toNat else a)+1+behind y<=s.ws.length/\s.free+1+behind y<=s.ws.length/\(s.free<(if x%16=4 then (x/65536).toNat else a)+1\/(if x%16=4 then (x/65536).toNat else a)+1+behind y<=s.free) then
    some (s.free,{ s with free:=s.free+1+behind y,ws:=(splice (s.ws.set s.free y) (s.free+1) ((s.ws.drop ((if x%16=4 then (x/65536).toNat else a)+1)).take (behind y))).set (if x%16=4 then (x/65536).toNat else a) (Hd 5 s.free 0) })
   else none
variable {s':Sto}
theorem zft{a r:Nat}(hc:s.zgR a=some (r,s')):∃ (x y:Int) (b:Nat),s.ws[a]?=some x/\0<=x/\x<9223372036854775808/\((b:Int)=if x%16=4 then x/65536 else a)/\s.ws[b]?=some y/\0<=y/\y<9223372036854775808 /\
  ((y%16=5/\(r:Int)=y/65536/\s'=s)\/(y%16≠5/\b+1+behind y<=s.ws.length/\s.free+1+behind y<=s.ws.length/\(s.free<b+1\/b+1+behind y<=s.free)/\r=s.free /\
   s'={ s with free:=s.free+1+behind y,ws:=(splice (s.ws.set s.free y) (s.free+1) ((s.ws.drop (b+1)).take (behind y))).set b (Hd 5 s.free 0) })):=by
 unfold Sto.zgR at hc;split at hc
 ·cases hc
 ·next x hx=>
  split at hc
  ·cases hc
  ·next cX=>
   obtain ⟨b,hb⟩:∃ b,(if x%16=4 then (x/65536).toNat else a)=b:=⟨_,rfl⟩;rw[hb]at hc;have pR:(b:Int)=if x%16=4 then x/65536 else a:=by
    rw[<-hb];split <;> omega
   split at hc
   ·cases hc
   ·next y hy=>
    split at hc
    ·cases hc
    ·next aT=>
     refine ⟨x,y,b,hx,by omega,by omega,pR,hy,by omega,by omega,?_⟩;split at hc
     ·next hf=>
      simp only[zyP,zzL]at hc;exact .inl ⟨hf,by omega,hc.2.symm⟩
     ·next hf=>
      split at hc
      ·next hg=>
       simp only[zyP,zzL]at hc;exact .inr ⟨hf,hg.1,hg.2.1,hg.2.2,hc.1.symm,hc.2.symm⟩
      ·cases hc
theorem zlk(h:SAt w mb wb tl s){a r:Nat}(hc:s.zgR a=some (r,s')):
  Calls prog 254 #[.pointer (some ⟨mb,0,none⟩),.int .i64 a] w fun e w'=>e=.returned (.int .i64 r)/\SAt w' mb wb tl s'/\Fr (M2 mb wb) w w':=by
 obtain ⟨x,y,b,hx,cX,ee,hb,hy,aT,bE,⟨hf,hr,rfl⟩|⟨hf,g1,g2,g3,rfl,rfl⟩⟩:=zft hc
 ·rw[hr];exact zrl h a b x y hx cX ee hb hy aT bE hf
 ·exact zrm h a b x y hx cX ee hb hy aT bE hf g1 g2 g3
theorem zhI{a r:Nat}(hc:s.zgR a=some (r,s')):s'.ws.length=s.ws.length:=by
 obtain ⟨x,y,b,hx,cX,ee,hb,hy,aT,bE,⟨hf,hr,rfl⟩|⟨hf,g1,g2,g3,rfl,rfl⟩⟩:=zft hc
 ·rfl
 ·rw[zy6,zaY,zy6];rw[zy6,zzf];omega
def Sto.zfI (s:Sto) (o:Nat):Nat->Option Sto
 |0=>some s
 |n+1=>
  match s.ws[o]? with
  |none=>none
  |some x=>if x<0 then Sto.zfI s (o+1) n else
   match s.zgR x.toNat with
   |none=>none
   |some (r,s1)=>Sto.zfI { s1 with ws:=s1.ws.set o r } (o+1) n
theorem zi5(h:SAt w mb wb tl s){o n cp:Nat}{sp:Option Addr}(hb:s.zfI o n=some s')(eB:0<n->sp=some ⟨wb,o,none⟩)(xT:o+n<=s.ws.length):
  Calls prog 199 #[.pointer (some ⟨mb,0,none⟩),.slice sp n cp] w fun e w'=>e=.returned (.tuple #[])/\SAt w' mb wb tl s'/\Fr (M2 mb wb) w w':=by
 have hlen:=h.len;rcases Nat.eq_zero_or_pos n with hn|hn
 ·subst hn;simp only[Sto.zfI,zyP]at hb;subst hb;have HH:=zab h;clear h eB;go_enter func199,ntmps199
  go_wp2_with fail
  refine wp_loop_rounds 1 ?_;rw[rounds_succ];go_wp2_with fail
  go_end0
  exact ⟨rfl,HH.o,Fr.refl _ _⟩
 ·obtain rfl:=eB hn;have HH:=zab h;have HB:=zab hb;obtain ⟨L,hL⟩:∃ L,s.ws.length=L:=⟨_,rfl⟩;rw[hL]at xT hlen;have HL:=zab hL;clear h hb eB hn hL;go_enter func199,ntmps199
  go_wp2_with fail
  go_loopg [8] n (fun gk iv wr=>∃ (i:Nat) (s1:Sto),iv=.int .i64 i/\i<=n/\n-i<=gk/\SAt wr mb wb tl s1/\s1.ws.length=L/\s1.zfI (o+i) (n-i)=some s'/\Fr (M2 mb wb) w wr)
  case atStart=>exact ⟨0,s,rfl,zy5 _,by omega,HH.o,HL.o,HB.o,Fr.refl _ _⟩
  case round=>
   obtain ⟨i,s1,rfl,hi,jm,h1,aL,aA,l8⟩:=hrel;have H1:=zab h1;have HF:=zab l8;by_cases aj:i<n
   ·obtain ⟨m,hm⟩:∃ m,n-i=m+1:=⟨n-i-1,by omega⟩;rw[hm,Sto.zfI]at aA;have br:o+i<s1.ws.length:=by omega
    rw[zyM br]at aA;simp only at aA;obtain ⟨x,hx⟩:∃ x,s1.ws[o+i]=x:=⟨_,rfl⟩;rw[hx]at aA;have cx:wr.cell? ⟨wb,o+i,none⟩=some (.int .i64 x):=by rw[<-hx];exact h1.zko br
    have aw:(0:Int)<=(i:Int):=by omega
    have bD:(i:Int)<(n:Int):=by omega
    by_cases dV:x<0
    ·rw[if_pos dV]at aA;have cB:=zab aA;have Cm:=zab aL;clear h1 l8 aA aL hx;go_wp2_with fail
     go_roundg (n-(i+1))
     case measure=>omega
     case rel=>exact ⟨i+1,s1,by go_num,by omega,zyN _,H1.o,Cm.o,by rw[show n-(i+1)=m by omega];exact cB.o,HF.o⟩
    ·rw[if_neg dV]at aA;split at aA
     ·cases aA
     ·next r s2 hc=>
      have CC:=zlk h1 hc;rw[show ((x.toNat:Nat):Int)=x by omega]at CC;have HC:=zab CC;have kC:=zab ((zhI hc).trans aL);have cB:=zab aA;have bp:¬ x<0:=dV;clear CC h1 l8 aA aL hx hc dV;go_wp2_with fail
      refine HC.o.mono ?_;rintro e w2 ⟨rfl,h2,f2⟩;have H2:=zab h2;have F2:=zab (HF.o.trans f2);have e1:=h2.zko (i:=o+i) (by rw[kC.o];omega);have g1:=h2.zeC.frozen (o+i);clear h2 f2 cx;go_wp2_with fail
      go_roundg (n-(i+1))
      case measure=>omega
      case rel=>exact ⟨i+1,_,by go_num,by omega,zyN _,H2.o.zcB (o+i) r,by rw[zy6];exact kC.o,by rw[show n-(i+1)=m by omega];exact cB.o,F2.o.set _ _ (.inl (.inr rfl))⟩
   ·have hin:i=n:=by omega
    have cB:Hid (s1=s'):=zab (by
     rw[hin,zAx,Sto.zfI]at aA;exact zyU aA)
    clear h1 l8 aA aL hin;go_wp2_with fail
    go_end0
    exact ⟨rfl,by rw[<-cB.o];exact H1.o,HF.o⟩
def M3 (mb wb fb:Nat):Nat->Prop:=fun k=>k=mb\/k=wb\/k=fb
theorem Fr.to3(h:Fr (M2 mb wb) a b)(fb:Nat):Fr (M3 mb wb fb) a b:=h.mono (fun i hi=>by rcases hi with rfl|rfl;exact .inl rfl;exact .inr (.inl rfl))
def FAt (w:World) (mb wb fb:Nat) (fns:List Int) (sp:List Value):Prop:=Blk w fb (zdG fns++sp) 2/\fb≠mb/\fb≠wb
variable {fb:Nat}{fns:List Int}{sp:List Value}
theorem FAt.fr(h:FAt w mb wb fb fns sp)(f:Fr (M2 mb wb) w w'):FAt w' mb wb fb fns sp:=
 ⟨Fr.blk h.1 f (by intro k;rcases k with k|k;exact h.2.1 k;exact h.2.2 k),h.2⟩
theorem FAt.word(h:FAt w mb wb fb fns sp)(hx:fns[i]?=some x):w.cell? ⟨fb,i,none⟩=some (.int .i64 x):=by
 have hl:i<fns.length:=(zyL.1 hx).1;rw[h.1.cell,zzc (by rw[zbJ];exact hl),zgY,hx];rfl
theorem FAt.set{w:World}{mb wb fb:Nat}{fns:List Int}{sp:List Value}(h:FAt w mb wb fb fns sp){i:Nat}(hi:i<fns.length)(x:Int):FAt (w.setCell ⟨fb,i,none⟩ (.int .i64 x)) mb wb fb (fns.set i x) sp:=by
 refine ⟨?_,h.2⟩;have:=h.1.set i (.int .i64 x);rw[List.set_append_left _ _ (by rw[zbJ];exact hi),show (zdG fns).set i (.int .i64 x)=zdG (fns.set i x) from by simp[zdG,List.map_set]]at this;exact this
theorem SAt.other{w:World}{mb wb:Nat}{tl:List Value}{s:Sto}(h:SAt w mb wb tl s){fb:Nat}(h1:fb≠mb)(h2:fb≠wb)(i:Nat)(v:Value):SAt (w.setCell ⟨fb,i,none⟩ v) mb wb tl s:=
 ⟨h.blk.other _ _ h1.symm,h.zeC.other _ _ h2.symm,h.ne,h.len,h.half,h.low,h.free,h.top⟩
def Sto.zdP (s:Sto):List Int->Option (List Int × Sto)
 |[]=>some ([],s)
 |x::r=>if x<0 then none else
  match s.zgR x.toNat with
  |none=>none
  |some (y,s1)=>
   match Sto.zdP s1 r with
   |none=>none
   |some (l,s2)=>some ((y:Int)::l,s2)
variable {cI:List Int}
theorem zrd(h:SAt w mb wb tl s)(hf:FAt w mb wb fb fns sp){cp:Nat}(hb:s.zdP fns=some (cI,s'))(bZ:fns.length<=1000000):
  Calls prog 199 #[.pointer (some ⟨mb,0,none⟩),.slice (some ⟨fb,0,none⟩) fns.length cp] w fun e w'=>e=.returned (.tuple #[])/\SAt w' mb wb tl s'/\FAt w' mb wb fb cI sp/\Fr (M3 mb wb fb) w w':=by
 have HH:=zab h;have pE:=zab hf;have HB:=zab hb;have Es:=hf.2.1;have gr:=hf.2.2;obtain ⟨n,hn⟩:∃ n,fns.length=n:=⟨_,rfl⟩;rw[hn]at bZ ⊢;have HN:=zab hn;clear h hb hf hn;go_enter func199,ntmps199
 go_wp2_with fail
 go_loopg [8] n (fun gk iv wr=>∃ (i:Nat) (s1:Sto) (d r l:List Int),iv=.int .i64 i/\i<=n/\n-i<=gk/\SAt wr mb wb tl s1/\d.length=i/\r.length=n-i/\FAt wr mb wb fb (d++r) sp/\s1.zdP r=some (l,s')/\cI=d++l/\Fr (M3 mb wb fb) w wr)
 case atStart=>exact ⟨0,s,[],fns,cI,rfl,zy5 _,by omega,HH.o,rfl,HN.o,pE.o,HB.o,rfl,Fr.refl _ _⟩
 case round=>
  obtain ⟨i,s1,d,r,l,rfl,hi,jm,h1,hd,hr,l8,aA,hl,ak⟩:=hrel;have H1:=zab h1;have HF:=zab ak;have ub:=zab l8;by_cases aj:i<n
  ·cases r with
   |nil=>simp at hr;omega
   |cons x r=>
    rw[Sto.zdP]at aA;split at aA
    ·cases aA
    ·next dV=>
     split at aA
     ·cases aA
     ·next y s2 hc=>
      split at aA
      ·cases aA
      ·next l2 s3 fR=>
       simp only[zyP,zzL]at aA;obtain ⟨rfl,rfl⟩:=aA;have cx:wr.cell? ⟨fb,i,none⟩=some (.int .i64 x):=l8.word (by rw[zy3 (by omega),hd];simp);have CC:=zlk h1 hc;rw[show ((x.toNat:Nat):Int)=x by omega]at CC;have HC:=zab CC;have HR:=zab fR;have HL:=zab hl;have HD:=zab hd;have CJ:Hid (r.length=n-(i+1)):=zab (by simp at hr;omega);have aw:(0:Int)<=(i:Int):=by omega
       have bD:(i:Int)<(n:Int):=by omega
       have HI:Hid (i<(d++x::r).length):=zab (by simp;omega);clear CC h1 ak fR hl hd hr l8 hc;go_wp2_with fail
       refine HC.o.mono ?_;rintro e w2 ⟨rfl,h2,f2⟩;have H2:=zab h2;have vl:=zab (ub.o.fr f2);have F2:=zab (HF.o.trans (f2.to3 fb));have e1:=vl.o.word (i:=i) (x:=x) (by rw[zy3 (by rw[HD.o];exact zyN _),HD.o];simp);have g1:=vl.o.1.frozen i;clear h2 f2 cx;go_wp2_with fail
       go_roundg (n-(i+1))
       case measure=>omega
       case rel=>
        have cS:(d++x::r).set i (y:Int)=(d++[(y:Int)])++r:=by
         rw[List.set_append_right _ _ (by rw[HD.o];exact zyN _),HD.o];simp
        refine ⟨i+1,s2,d++[(y:Int)],r,l2,by go_num,by omega,zyN _,H2.o.other Es gr i _,by simp;exact HD.o,CJ.o,?_,HR.o,by rw[HL.o];simp,F2.o.set _ _ (.inl (.inr (.inr rfl)))⟩;have:=vl.o.set HI.o y;rw[cS]at this;exact this
  ·have hin:i=n:=by omega
   have cB:Hid (s1=s'/\cI=d++r):=zab (by
    have fQ:r=[]:=zzt (by omega);subst fQ;simp only[Sto.zdP,zyP,zzL]at aA;exact ⟨aA.2,by rw[hl,<-aA.1]⟩)
   clear h1 ak aA hin hd hr l8 hl;go_wp2_with fail
   go_end0
   exact ⟨rfl,by rw[<-cB.o.1];exact H1.o,by rw[cB.o.2];exact ub.o,HF.o⟩
structure Oth where
 pb:Value
 nf:Int
 main:Int
 fuel:Nat
 next:Int
 below:Int
def zeu (o:Oth) (fv:Value):List Value:=[o.pb,.int .i64 o.nf,.int .i64 o.main,fv,.int .i64 o.fuel,.int .i64 o.next,.int .i64 o.below]
def zo4 (w:World) (mb wb:Nat) (fns:List Int) (fv:Value):Prop:=(fv=.slice none 0 0/\fns=[])\/∃ fb cap sp,fv=.slice (some ⟨fb,0,none⟩) fns.length cap/\FAt w mb wb fb fns sp/\fns.length+sp.length=cap/\cap<=maxLen
def MB (mb wb:Nat) (fv:Value):Nat->Prop:=fun k=>k=mb\/k=wb\/fv.ownBlock=some k
theorem Fr.zc9(h:Fr (M2 mb wb) a b)(fv:Value):Fr (MB mb wb fv) a b:=h.mono (fun i hi=>by rcases hi with rfl|rfl;exact .inl rfl;exact .inr (.inl rfl))
theorem zo4.fr{w w':World}{mb wb:Nat}{fns:List Int}{fv:Value}(h:zo4 w mb wb fns fv)(f:Fr (M2 mb wb) w w'):zo4 w' mb wb fns fv:=by
 rcases h with h|⟨fb,cap,sp,h1,h2,h3⟩
 ·exact .inl h
 ·exact .inr ⟨fb,cap,sp,h1,h2.fr f,h3⟩
def Sto.scan (s:Sto) (at_:Nat):Nat->Option Sto
 |0=>none
 |k+1=>if at_<s.free then
   match s.ws[at_]? with
   |none=>none
   |some x=>if x<0\/9223372036854775808<=x\/s.ws.length<at_+1+(x/16%4096).toNat then none else
    match s.zfI (at_+1) (x/16%4096).toNat with
    |none=>none
    |some s1=>
     match s1.ws[at_]? with
     |none=>none
     |some y=>if y<0\/9223372036854775808<=y then none else Sto.scan s1 (at_+1+behind y) k
  else some s
def Sto.collect (s:Sto) (fns:List Int):Option (List Int × Sto):=
 if s.low<=s.half/\2*s.half<=s.ws.length/\s.low<=s.top/\s.top<=s.low+s.half then
  match s.zbR.zfI s.zbR.top (s.zbR.low+s.zbR.half-s.zbR.top) with
  |none=>none
  |some s1=>
   match s1.zdP fns with
   |none=>none
   |some (cI,s2)=>
    match s2.scan s2.low (s2.ws.length+1) with
    |none=>none
    |some s3=>some (cI,s3)
 else none
theorem zgO :∀ {n o:Nat},s.zfI o n=some s'->s'.ws.length=s.ws.length/\s'.low=s.low/\s'.half=s.half/\s'.top=s.top:=by
 intro n
 induction n generalizing s with
 |zero=>intro o h;simp only[Sto.zfI,zyP]at h;subst h;exact ⟨rfl,rfl,rfl,rfl⟩
 |succ n ih=>
  intro o h;rw[Sto.zfI]at h;split at h
  ·cases h
  ·split at h
   ·exact ih h
   ·split at h
    ·cases h
    ·next r s1 hc=>
     have h1:=ih h;have h2:=zhI hc;simp only[zy6]at h1;obtain ⟨x,y,b,_,_,_,_,_,_,_,⟨_,_,rfl⟩|⟨_,_,_,_,_,rfl⟩⟩:=zft hc
     ·exact h1
     ·exact ⟨h1.1.trans h2,h1.2⟩
theorem zdQ :∀ {fns:List Int} {s:Sto} {l:List Int},s.zdP fns=some (l,s')->s'.ws.length=s.ws.length/\s'.low=s.low/\s'.half=s.half/\s'.top=s.top/\l.length=fns.length:=by
 intro fns
 induction fns with
 |nil=>intro s l h;simp only[Sto.zdP,zyP,zzL]at h;obtain ⟨rfl,rfl⟩:=h;exact ⟨rfl,rfl,rfl,rfl,rfl⟩
 |cons x r ih=>
  intro s l h;rw[Sto.zdP]at h;split at h
  ·cases h
  ·split at h
   ·cases h
   ·next y s1 hc=>
    split at h
    ·cases h
    ·next l2 s2 hr=>
     simp only[zyP,zzL]at h;obtain ⟨rfl,rfl⟩:=h;have h1:=ih hr;have h2:=zhI hc;obtain ⟨x,y,b,_,_,_,_,_,_,_,⟨_,_,rfl⟩|⟨_,_,_,_,_,rfl⟩⟩:=zft hc
     ·exact ⟨h1.1,h1.2.1,h1.2.2.1,h1.2.2.2.1,by simp[h1.2.2.2.2]⟩
     ·exact ⟨h1.1.trans h2,h1.2.1,h1.2.2.1,h1.2.2.2.1,by simp[h1.2.2.2.2]⟩
variable {o:Oth}{fv:Value}
theorem zpf(h:SAt w mb wb (zeu o fv) s)(hf:zo4 w mb wb fns fv)(hb:s.zdP fns=some (cI,s'))(bZ:fns.length<=1000000):
  Calls prog 199 #[.pointer (some ⟨mb,0,none⟩),fv] w fun e w'=>e=.returned (.tuple #[])/\SAt w' mb wb (zeu o fv) s'/\zo4 w' mb wb cI fv/\Fr (MB mb wb fv) w w':=by
 rcases hf with ⟨rfl,rfl⟩|⟨fb,cap,sp,rfl,hf,kS⟩
 ·simp only[Sto.zdP,zyP,zzL]at hb;obtain ⟨rfl,rfl⟩:=hb;exact (zi5 (o:=0) (n:=0) (sp:=none) (cp:=0) h rfl (fun h=>absurd h (by omega)) (by omega)).mono fun e w' ⟨h1,h2,h3⟩=>⟨h1,h2,.inl ⟨rfl,rfl⟩,h3.zc9 _⟩
 ·exact (zrd h hf hb bZ).mono fun e w' ⟨h1,h2,h3,h4⟩=>⟨h1,h2,.inr ⟨fb,cap,sp,by rw[(zdQ hb).2.2.2.2],h3,by rw[(zdQ hb).2.2.2.2];exact kS⟩,h4.mono (fun k hk=>by rcases hk with rfl|rfl|rfl;exact .inl rfl;exact .inr (.inl rfl);exact .inr (.inr rfl))⟩
theorem zxg{L lo hi:Nat}{l h:Int}(hl:l=lo)(hh:h=hi)(h1:lo<=hi)(h2:hi<=L):∀ W:World,(Instr.slice 76 (.slice (some ⟨wb,0,none⟩) L L) (some (.int .i64 l)) (some (.int .i64 h)) none).run prog W=.ok (.slice (some ⟨wb,cutAt L lo,none⟩) (hi-lo) (L-lo)) W:=by
 intro W;subst hl hh;rw[run_slice_lh W 76 _ _ _ underlying76 .i64 .i64 _ _ (by omega) (by omega) (by omega)];have e3:prog.elem 76=2:=by kernel_rfl
 rw[e3,sizeOf2];simp only[Result.andThen,sliced,zy2,zAt,zzP,zbe,zzG,cutAt];congr 2;split <;> rfl
theorem SAt.c8(h:SAt w mb wb (zeu o fv) s):w.cell? ⟨mb,8,none⟩=some fv:=h.blk.cell 8
theorem zpi(h:SAt w mb wb (zeu o fv) s)(hf:zo4 w mb wb fns fv)(hc:s.collect fns=some (cI,s'))(bZ:fns.length<=1000000):
  Calls prog 125 #[.pointer (some ⟨mb,0,none⟩)] w fun e w'=>e=.returned (.tuple #[])/\SAt w' mb wb (zeu o fv) s'/\zo4 w' mb wb cI fv/\Fr (MB mb wb fv) w w':=by
 unfold Sto.collect at hc;split at hc
 ·next hg=>
  split at hc
  ·cases hc
  ·next s1 aA=>
   split at hc
   ·cases hc
   ·next gj s2 aw=>
    split at hc
    ·cases hc
    ·next s3 bD=>
     simp only[zyP,zzL]at hc;obtain ⟨rfl,rfl⟩:=hc;have CT:=zab (zwy h hg.1 hg.2.1 hg.2.2.1 hg.2.2.2);have aL:=zgO aA;have aC:=zdQ aw;have HF:=zab hf;have hlen:=h.len;have od:s.zbR.low+s.zbR.half<=s.ws.length/\s.zbR.top<=s.zbR.low+s.zbR.half/\s.zbR.ws.length=s.ws.length:=by
      unfold Sto.zbR;refine ⟨by simp only;omega,by simp only;omega,?_⟩;simp only;rw[zaY];rw[zzf,zzu];omega
     obtain ⟨t,mi⟩:∃ t,s.zbR=t:=⟨_,rfl⟩;rw[mi]at aA CT od aL;obtain ⟨L,hL⟩:∃ L,s.ws.length=L:=⟨_,rfl⟩;rw[hL]at od hlen;have cB:=zab aA;have gA:=zab aw;have mw:=zab bD;have HL:=zab (And.intro aL aC);have pf:s1.ws.length=L:=by rw[aL.1];exact od.2.2
     have sZ:s2.ws.length=L:=by rw[aC.1];exact pf
     have uj:=zab pf;have mB:=zab sZ;have mC:=zab od.2.2;have p9:=od.1;have AP:=od.2.1;have dY:s1.top=t.top:=aL.2.2.2;have pK:=zab dY;clear h hf hg aL aC od mi hL aA aw bD pf sZ dY;go_enter func125,ntmps125
     go_wp2_with fail
     refine CT.o.mono ?_;rintro e w1 ⟨rfl,h1,f1⟩;have H1:=zab h1;have F1:=zab (f1.zc9 fv);have B9:=zab (HF.o.fr f1);have c0:w1.cell? ⟨mb,0,none⟩=some (.slice (some ⟨wb,0,none⟩) L L):=by rw[h1.c0,mC.o]
     have c4:=h1.c4;have py:=zxg (wb:=wb) (L:=L) (lo:=t.top) (hi:=t.low+t.half) (l:=(t.top:Int)) (h:=(t.low:Int)+(t.half:Int)) rfl (by omega) AP p9;have CE:=zab (fun n:Nat=>zhJ (h1.drewN n));simp only[zzq]at CE;clear CT h1 f1 HF;go_wp2_with fail
     go_region_held3 (fun W=>W.cell? ⟨mb,0,none⟩=some (.slice (some ⟨wb,0,none⟩) L L)/\W.cell? ⟨mb,4,none⟩=some (.int .i64 t.top)) (first|go_keep|(refine ⟨?_,?_⟩ <;> assumption)) (first
      |(go_at_call 78;refine (CE.o 1).mono ?_;rintro e w2 ⟨rfl,k2,aB⟩;have H2:Hid (SAt w2 mb wb (zeu o fv) t):=zab (by rw[aB];exact (H1.o.drewN 1).drewN k2);have F2:Hid (Fr (M2 mb wb) w1 w2):=zab (by rw[aB];exact ((Fr.refl _ _).drewN 1).drewN k2);have e0:w2.cell? ⟨mb,0,none⟩=some (.slice (some ⟨wb,0,none⟩) L L):=(by rw[H2.o.c0,mC.o]);have e4:=H2.o.c4;clear aB)
      |(go_at_call 199;refine (zi5 H2.o cB.o (fun hp=>by rw[zbT (by omega)]) (by rw[mC.o];omega)).mono ?_;rintro e w3 ⟨rfl,h3,f3⟩;have H3:=zab h3;have F3:=zab (F2.o.trans f3);have d0:w3.cell? ⟨mb,0,none⟩=some (.slice (some ⟨wb,0,none⟩) L L):=(by rw[h3.c0,uj.o]);have d4:w3.cell? ⟨mb,4,none⟩=some (.int .i64 t.top):=(by rw[h3.c4,pK.o]);clear h3 f3))
     all_goals
      have c8:=H3.o.c8;have CB:=zab (zpf H3.o (B9.o.fr F3.o) gA.o bZ);have Bu:=zab (F1.o.trans (F3.o.zc9 fv));clear c0 c4 d0 d4 py;go_wp2_with fail
      refine CB.o.mono ?_;rintro e w4 ⟨rfl,h4,Ak,f4⟩;have H4:=zab h4;have pF:=zab Ak;have F4:=zab (Bu.o.trans f4);have c2:=h4.c2;clear h4 Ak f4 c8;go_wp2_with fail
      go_loopg [2] L (fun gk av wr=>∃ (a:Nat) (q:Sto),av=.int .i64 a/\SAt wr mb wb (zeu o fv) q/\q.ws.length=L/\q.scan a (gk+1)=some s3/\zo4 wr mb wb gj fv/\Fr (MB mb wb fv) w wr)
      case atStart=>exact ⟨s2.low,s2,rfl,H4.o,mB.o,by have:=mw.o;rw[mB.o]at this;exact this,pF.o,F4.o⟩
      case round=>
       obtain ⟨a,q,rfl,hq,sV,ig,xz,oX⟩:=hrel;have HQ:=zab hq;have yT:=zab xz;have cY:=zab oX;have vQ:=zab sV;have c3:=hq.c3;rw[Sto.scan]at ig;by_cases aj:a<q.free
       ·rw[if_pos aj]at ig;split at ig
        ·cases ig
        ·next x hx=>
         split at ig
         ·cases ig
         ·next hg=>
          split at ig
          ·cases ig
          ·next q1 pT=>
           split at ig
           ·cases ig
           ·next y hy=>
            split at ig
            ·cases ig
            ·next Fz=>
             have aN:(a:Int)<(q.free:Int):=by omega
             have cX:0<=x:=by omega
             have ee:x<9223372036854775808:=by omega
             have aT:0<=y:=by omega
             have bE:y<9223372036854775808:=by omega
             obtain ⟨g,jm⟩:∃ g,gk=g+1:=by
              cases gk with
              |zero=>simp[Sto.scan]at ig
              |succ g=>exact ⟨g,rfl⟩
             obtain ⟨n,hn⟩:∃ n,(x/16%4096).toNat=n:=⟨_,rfl⟩;rw[hn]at hg pT;have aJ:a+1+n<=L:=by omega
             have yH:=zab (zcA hq a x hx cX ee (by rw[hn];omega));rw[hn,sV]at yH;have cF:=zgO pT;have qD:Hid (q1.ws.length=L):=zab (by rw[cF.1];exact sV);have BD:=zab pT;have uk:=zab ig;have HY:=zab hy;have SZ:=zab (fun W:World=>zlQ y W aT bE);rw[show (if y%16=0 then 2 else 1+y/16%4096)=((behind y+1:Nat):Int) by rw[behind];split <;> omega]at SZ;have aU:(a:Int)<(L:Int):=by omega
             have xl:behind y<=4096:=by rw[behind];split <;> omega
             generalize behind y=by_ at SZ uk xl;simp only[zzq,Int.natCast_one]at SZ;clear hq xz oX sV ig hx hg pT hy Fz aj cF hn;go_wp2_with fail
             refine yH.o.mono ?_;rintro e w5 ⟨rfl,k5,dK⟩;have H5:Hid (SAt w5 mb wb (zeu o fv) q):=zab (by rw[dK];exact HQ.o.drewN k5);have F5:Hid (Fr (M2 mb wb) wr w5):=zab (by rw[dK];exact (Fr.refl _ _).drewN k5);have Bo:=zab (zi5 (cp:=L-(a+1)) (sp:=some ⟨wb,cutAt L (a+1),none⟩) H5.o BD.o (fun hp=>by rw[zbT (by omega)]) (by rw[vQ.o];exact aJ));clear dK c3;go_wp2_with fail
             refine Bo.o.mono ?_;rintro e w6 ⟨rfl,h6,f6⟩;have H6:=zab h6;have F6:=zab (F5.o.trans f6);have d0:w6.cell? ⟨mb,0,none⟩=some (.slice (some ⟨wb,0,none⟩) L L):=by rw[h6.c0,qD.o]
             have dy:=h6.word HY.o;clear h6 f6;go_wp2_with fail
             refine (SZ.o _).mono ?_;rintro e w7 ⟨rfl,rfl⟩;go_wp2_with fail
             go_roundg g
             case measure=>omega
             case rel=>exact ⟨a+1+by_,q1,by go_num,H6.o,qD.o,by have:=uk.o;rw[jm]at this;exact this,yT.o.fr F6.o,cY.o.trans (F6.o.zc9 fv)⟩
       ·rw[if_neg aj]at ig;have uk:Hid (q=s3):=zab (zyU ig);have aN:¬ (a:Int)<(q.free:Int):=by omega
        clear hq xz oX sV ig;go_wp2_with fail
        go_end0
        exact ⟨rfl,by rw[<-uk.o];exact HQ.o,yT.o,cY.o⟩
 ·cases hc
structure MSt where
 s:Sto
 o:Oth
 fns:List Int
structure MAt (w:World) (mb wb:Nat) (fv:Value) (m:MSt):Prop where
 sat:SAt w mb wb (zeu m.o fv) m.s
 fat:zo4 w mb wb m.fns fv
 fl:m.fns.length<=1000000
 fuel:m.o.fuel<=1000000000
variable {m:MSt}
theorem MAt.fr2(h:MAt w mb wb fv m)(hs:SAt w' mb wb (zeu m.o fv) s')(f:Fr (M2 mb wb) w w'):MAt w' mb wb fv { m with s:=s' }:=⟨hs,h.fat.fr f,h.fl,h.fuel⟩
theorem MAt.drewN{w:World}{mb wb:Nat}{fv:Value}{m:MSt}(h:MAt w mb wb fv m)(n:Nat):MAt (w.drewN n) mb wb fv m:=⟨h.sat.drewN n,h.fat.fr ((Fr.refl _ _).drewN n),h.fl,h.fuel⟩
def up (k:Nat):Ending:=.panicked [{ v:=.iface 82 (.int .i64 k),recovered:=false }]
def Ends (w:World) (mb wb:Nat) (fv:Value) (r:Except Nat MSt) (e:Ending) (w':World):Prop:=
 Fr (MB mb wb fv) w w'/\match r with
 |.ok m'=>e=.returned (.tuple #[])/\MAt w' mb wb fv m'
 |.error k=>e=up k/\∃ m',MAt w' mb wb fv m'
def MSt.zdI (m:MSt) (c:Nat):Option (Except Nat MSt):=
 if (c:Int)<=(m.s.top:Int)-(m.s.free:Int) then some (.ok m) else
 match m.s.collect m.fns with
 |none=>none
 |some (cI,s')=>if (s'.top:Int)-(s'.free:Int)<(c:Int) then some (.error 4) else some (.ok { m with s:=s',fns:=cI })
theorem zlh(hc:s.collect fns=some (cI,s')):cI.length=fns.length:=by
 unfold Sto.collect at hc;split at hc
 ·split at hc
  ·cases hc
  ·split at hc
   ·cases hc
   ·next gj s2 aw=>
    split at hc
    ·cases hc
    ·simp only[zyP,zzL]at hc;rw[<-hc.1];exact (zdQ aw).2.2.2.2
 ·cases hc
variable {c:Nat}
theorem zaW{r:Except Nat MSt}(h:MAt w mb wb fv m)(hc:m.zdI c=some r):
  Calls prog 73 #[.pointer (some ⟨mb,0,none⟩),.int .i64 c] w fun e w'=>Ends w mb wb fv r e w':=by
 unfold MSt.zdI at hc;have CL:=zab (zms h.sat);by_cases h1:(c:Int)<=(m.s.top:Int)-(m.s.free:Int)
 ·rw[if_pos h1]at hc;obtain rfl:=zyU hc;have HH:=zab h;clear h hc;go_enter func73,ntmps73
  go_wp2_with fail
  refine CL.o.mono ?_;rintro e w1 ⟨rfl,k1,aD⟩;have H1:Hid (MAt w1 mb wb fv m):=zab (by rw[aD];exact HH.o.drewN k1);have F1:Hid (Fr (MB mb wb fv) w w1):=zab (by rw[aD];exact (Fr.refl _ _).drewN k1);clear aD;go_wp2_with fail
  first|go_end0|refine bodyPost_ret (results_none rfl _ _ _) rfl ?_
  exact ⟨F1.o,rfl,H1.o⟩
 ·rw[if_neg h1]at hc;split at hc
  ·cases hc
  ·next gj s2 jW=>
   have HH:=zab h;have CC:=zab (fun k:Nat=>zpi (h.drewN k).sat (h.drewN k).fat jW h.fl);have pG:Hid (gj.length<=1000000):=zab (by rw[zlh jW];exact h.fl);have yV:=zab h.fuel;by_cases h2:(s2.top:Int)-(s2.free:Int)<(c:Int)
   ·rw[if_pos h2]at hc;obtain rfl:=zyU hc;clear h hc jW;go_enter func73,ntmps73
    go_wp2_with fail
    refine CL.o.mono ?_;rintro e w1 ⟨rfl,k1,rfl⟩;go_wp2_with fail
    refine (CC.o k1).mono ?_;rintro e w2 ⟨rfl,pA,re,fr2⟩;have H2:Hid (MAt w2 mb wb fv ⟨s2,m.o,gj⟩):=zab ⟨pA,re,pG.o,yV.o⟩;have F2:Hid (Fr (MB mb wb fv) w w2):=zab (((Fr.refl _ _).drewN k1).trans fr2);have vk:=zab (zms pA);clear pA re fr2;go_wp2_with fail
    refine vk.o.mono ?_;rintro e w3 ⟨rfl,k3,bL⟩;have H3:Hid (MAt w3 mb wb fv ⟨s2,m.o,gj⟩):=zab (by rw[bL];exact H2.o.drewN k3);have F3:Hid (Fr (MB mb wb fv) w w3):=zab (by rw[bL];exact F2.o.drewN k3);clear bL;go_wp2_with fail
    refine (zce 4 _).mono ?_;rintro e w4 ⟨rfl,rfl⟩;exact ⟨rfl,F3.o,rfl,_,H3.o⟩
   ·rw[if_neg h2]at hc;obtain rfl:=zyU hc;clear h hc jW;go_enter func73,ntmps73
    go_wp2_with fail
    refine CL.o.mono ?_;rintro e w1 ⟨rfl,k1,rfl⟩;go_wp2_with fail
    refine (CC.o k1).mono ?_;rintro e w2 ⟨rfl,pA,re,fr2⟩;have H2:Hid (MAt w2 mb wb fv ⟨s2,m.o,gj⟩):=zab ⟨pA,re,pG.o,yV.o⟩;have F2:Hid (Fr (MB mb wb fv) w w2):=zab (((Fr.refl _ _).drewN k1).trans fr2);have vk:=zab (zms pA);clear pA re fr2;go_wp2_with fail
    refine vk.o.mono ?_;rintro e w3 ⟨rfl,k3,bL⟩;have H3:Hid (MAt w3 mb wb fv ⟨s2,m.o,gj⟩):=zab (by rw[bL];exact H2.o.drewN k3);have F3:Hid (Fr (MB mb wb fv) w w3):=zab (by rw[bL];exact F2.o.drewN k3);clear bL;go_wp2_with fail
    first|go_end0|refine bodyPost_ret (results_none rfl _ _ _) rfl ?_
    exact ⟨F3.o,rfl,H3.o⟩
def MSt.zsJ (m:MSt):Except Nat MSt:=if m.o.fuel=0 then .error 5 else .ok { m with o:={ m.o with fuel:=m.o.fuel-1 } }
theorem SAt.c9(h:SAt w mb wb (zeu o fv) s):w.cell? ⟨mb,9,none⟩=some (.int .i64 o.fuel):=h.blk.cell 9
theorem SAt.zxL(h:SAt w mb wb (zeu o fv) s)(v:Nat):SAt (w.setCell ⟨mb,9,none⟩ (.int .i64 v)) mb wb (zeu { o with fuel:=v } fv) s:=
 ⟨h.blk.set 9 (.int .i64 v),h.zeC.other _ _ h.ne.symm,h.ne,h.len,h.half,h.low,h.free,h.top⟩
theorem SAt.zgs(h:SAt w mb wb (zeu o fv) s)(v:Int):SAt (w.setCell ⟨mb,10,none⟩ (.int .i64 v)) mb wb (zeu { o with next:=v } fv) s:=
 ⟨h.blk.set 10 (.int .i64 v),h.zeC.other _ _ h.ne.symm,h.ne,h.len,h.half,h.low,h.free,h.top⟩
theorem SAt.zv5(h:SAt w mb wb (zeu o fv) s)(v:Int):SAt (w.setCell ⟨mb,11,none⟩ (.int .i64 v)) mb wb (zeu { o with below:=v } fv) s:=
 ⟨h.blk.set 11 (.int .i64 v),h.zeC.other _ _ h.ne.symm,h.ne,h.len,h.half,h.low,h.free,h.top⟩
theorem zl7(h:MAt w mb wb fv m):
  Calls prog 80 #[.pointer (some ⟨mb,0,none⟩)] w fun e w'=>Ends w mb wb fv m.zsJ e w':=by
 have c9:=h.sat.c9;have f9:=h.sat.blk.frozen 9;unfold MSt.zsJ;by_cases h0:m.o.fuel=0
 ·rw[if_pos h0];rw[h0]at c9;have HH:=zab h;clear h h0;go_enter func80,ntmps80
  go_wp2_with fail
  refine (zce 5 _).mono ?_;rintro e w4 ⟨rfl,rfl⟩;exact ⟨rfl,Fr.refl _ _,rfl,_,HH.o⟩
 ·rw[if_neg h0];obtain ⟨k,hk⟩:∃ k,m.o.fuel=k+1:=⟨m.o.fuel-1,by omega⟩;have lj:(k:Int)+1<=1000000000:=by have:=h.fuel;omega
  rw[hk]at c9;have HB:Hid (SAt (w.setCell ⟨mb,9,none⟩ (.int .i64 k)) mb wb (zeu { m.o with fuel:=k } fv) m.s):=zab (h.sat.zxL k);have HE:Hid (m.o.fuel-1=k):=zab (by omega);have HF:=zab h.fat;have pG:=zab h.fl;have aH:(((k:Int)+1) == 0)=false:=by rw[beq_eq_false_iff_ne];omega
  simp only[zzq,Int.natCast_one]at c9;clear h h0 hk;go_enter func80,ntmps80
  go_wp2_with fail
  first|go_end0|refine bodyPost_ret (results_none rfl _ _ _) rfl ?_
  have fr:Fr (M2 mb wb) w (w.setCell ⟨mb,9,none⟩ (.int .i64 k)):=(Fr.refl _ _).set _ _ (.inl (.inl rfl));refine ⟨fr.zc9 fv,rfl,?_⟩;rw[HE.o];exact ⟨HB.o,HF.o.fr fr,pG.o,by show k<=1000000000;omega⟩
end Go.Proofs.YtgahgkddaljmkaaGreatDoor
