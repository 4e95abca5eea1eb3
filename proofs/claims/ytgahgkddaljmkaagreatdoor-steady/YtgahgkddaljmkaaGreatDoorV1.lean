/- Spec .. Mach4 -/
import Derived.Test.YtgahgkddaljmkaaGreatDoorProg
import GoSem.Claim
import GoSem.ClaimJoined
import GoSem.ClaimMapViews
import Derived.JoinedTies
import Derived.KernelRfl
import Derived.WalkKit
import Derived.WalkSpells
import Derived.WalkLawsBesides
import Derived.Handy
import Derived.LoopTactic
import Derived.Laws.RangeString
import Derived.Laws.BitsAll
import Derived.Laws.BitsLemmas
import Derived.Laws.Shifts
import Derived.Deep.RegionHeld3
import Derived.Deep.DrawnRows
import Derived.Laws.CopyOwn
import Derived.Deep.QuietTactic
import Derived.BigQuiet
set_option maxRecDepth 100000
set_option maxHeartbeats 4000000
namespace Go.Proofs.YtgahgkddaljmkaaGreatDoor
abbrev zxH:=@List.getElem?_eq_some_iff
abbrev zxI:=@List.getElem?_eq_getElem
abbrev zxJ:=@Nat.le_refl
abbrev zxK:=@List.setIfInBounds_toArray
abbrev zxL:=@Option.some.injEq
abbrev zxM:=@Option.bind_eq_some_iff
abbrev zxN:=@Nat.le_trans
abbrev zxO:=@Nat.lt_of_lt_of_le
abbrev zxP:=@List.length_append
abbrev zxQ:=@Option.some.inj
abbrev zxR:=@List.getElem?_set
abbrev zxS:=@List.set_cons_succ
abbrev zxT:=@Option.map_eq_some_iff
abbrev zxU:=@Array.getElem?_eq_some_iff
abbrev zxV:=@List.set_cons_zero
abbrev zxW:=@List.length_singleton
abbrev zxX:=@List.mem_of_getElem?
abbrev zxY:=@Int.toNat_natCast
abbrev zxZ:=@List.getElem?_append_right
abbrev zx0:=@List.length_reverse
abbrev zx1:=@Nat.zero_le
abbrev zx2:=@List.length_set
abbrev zx3:=@List.length_cons
abbrev zx4:=@List.take_of_length_le
abbrev zx5:=@List.cons_append
abbrev zx6:=@List.map_cons
abbrev zx7:=@List.nil_append
abbrev zx8:=@List.getElem?_append_left
abbrev zx9:=@List.sum_cons
abbrev zya:=@List.mem_singleton
abbrev zyb:=@List.length_take
abbrev zyc:=@List.mem_append
abbrev zyd:=@List.getElem?_append
abbrev zye:=@List.append_assoc
abbrev zyf:=@Go.wp_at_zero
abbrev zyg:=@Go.wp_at_succ
abbrev zyh:=@List.getElem?_cons_zero
abbrev zyi:=@List.length_nil
abbrev zyj:=@List.length_eq_zero_iff
abbrev zyk:=@List.mem_cons
abbrev zyl:=@Nat.mul_le_mul_left
abbrev zym:=@Int.natCast_add
abbrev zyn:=@List.drop_eq_getElem_cons
abbrev zyo:=@List.eq_nil_of_length_eq_zero
abbrev zyp:=@List.length_drop
abbrev zyq:=@List.getElem?_take
abbrev zyr:=@List.getElem?_drop
abbrev zys:=@Bool.false_eq_true
abbrev zyt:=@List.length_replicate
abbrev zyu:=@Array.replicate_succ
abbrev zyv:=@Array.replicate_zero
abbrev zyw:=@List.size_toArray
abbrev zyx:=@Bool.and_eq_true
abbrev zyy:=@Option.bind_some
abbrev zyz:=@List.length_pos_iff
abbrev zyA:=@List.append_toArray
abbrev zyB:=@List.idxOf_lt_length_of_mem
abbrev zyC:=@Nat.zero_add
abbrev zyD:=@List.push_toArray
abbrev zyE:=@Nat.mul_add
abbrev zyF:=@Int.cast_ofNat_Int
abbrev zyG:=@List.getElem?_eq_none
abbrev zyH:=@Prod.mk.injEq
abbrev zyI:=@Go.length_splice
abbrev zyJ:=@Int.natCast_nonneg
abbrev zyK:=@Nat.add_zero
abbrev zyL:=@Option.map_some
abbrev zyM:=@List.eq_of_mem_replicate
abbrev zyN:=@List.take_zero
abbrev zyO:=@Nat.min_eq_left
abbrev zyP:=@List.getElem?_cons_succ
abbrev zyQ:=@Nat.le_mul_of_pos_right
abbrev zyR:=@List.getD_eq_getElem?_getD
abbrev zyS:=@Nat.le_mul_of_pos_left
abbrev zyT:=@List.append_nil
abbrev zyU:=@List.not_mem_nil
abbrev zyV:=@Nat.le_add_right
abbrev zyW:=@List.mem_map
abbrev zyX:=@List.drop_zero
abbrev zyY:=@List.foldl_cons
abbrev zyZ:=@List.replicate_succ
abbrev zy0:=@List.sum_append
abbrev zy1:=@List.map_append
abbrev zy2:=@List.drop_eq_nil_of_le
abbrev zy3:=@List.take_length
abbrev zy4:=@Nat.le_succ
abbrev zy5:=@Except.ok.injEq
abbrev zy6:=@Bool.eq_iff_iff
abbrev zy7:=@Nat.le_add_left
abbrev zy8:=@Nat.not_lt_zero
abbrev zy9:=@Array.length_toList
abbrev zza:=@List.map_congr_left
abbrev zzb:=@List.takeWhile_sublist
abbrev zzc:=@List.append_eq_nil_iff
abbrev zzd:=@Nat.sub_zero
abbrev zze:=@Nat.le_of_lt
abbrev zzf:=@List.take_append_drop
abbrev zzg:=@Bool.or_false
abbrev zzh:=@List.take_add_one
abbrev zzi:=@List.getElem?_set_ne
abbrev zzj:=@List.mem_of_mem_take
abbrev zzk:=@List.take_take
abbrev zzl:=@Option.getD_some
abbrev zzm:=@Nat.le_max_right
abbrev zzn:=@Nat.mul_one
abbrev zzo:=@Nat.lt_or_ge
abbrev zzp:=@Nat.sub_self
abbrev zzq:=@Bool.true_or
abbrev zzr:=@Bool.or_true
abbrev zzs:=@Iff.rfl
abbrev zzt:=@List.nodup_cons
abbrev zzu:=@Bool.or_eq_true
abbrev zzv:=@Nat.le_max_left
end Go.Proofs.YtgahgkddaljmkaaGreatDoor
namespace Go.Proofs.YtgahgkddaljmkaaGreatDoor.Th
def isLet (c:UInt8):Bool:=decide (97<=c.toNat) && decide (c.toNat<=122)
def zbv (c:UInt8):Bool:=decide (48<=c.toNat) && decide (c.toNat<=57)
def zmK (c:UInt8):Bool:=isLet c||zbv c
def zdr (c:UInt8):Bool:=c == 32||c == 10
structure Tok where
 k:Nat
 s:List UInt8
 at_:Nat
def zm3:Tok:=⟨0,[],0⟩
def ztI:List UInt8:=[108,101,116]
def zoK:List UInt8:=[114,101,99]
def sIn:List UInt8:=[105,110]
def zjp:List UInt8:=[99,97,115,101]
def sOf:List UInt8:=[111,102]
def zdn:List UInt8:=[109,97,105,110]
def zwz (t:List UInt8):Bool:=t == ztI||t == zoK||t == sIn||t == zjp||t == sOf
def zpP:List UInt8:=[61,59,40,41,123,125,44,60,62,46,92,43,45,42,47]
def zbU (t:List UInt8):Nat:=
 if t.take 2 == [45,62]||t.take 2 == [61,61] then 2
 else match t with
  |[]=>0
  |c::_=>if zpP.contains c then 1 else 0
def word (t:List UInt8):Nat × List UInt8:=if zwz t then (4,t) else (2,t)
def zqs (t:List UInt8):Nat × List UInt8:=if 9<t.length then (1,[]) else (3,t)
def first (t:List UInt8):Nat × List UInt8:=
 match t with
 |[]=>(0,[])
 |c::_=>
  if isLet c then word (t.takeWhile zmK)
  else if zbv c then zqs (t.takeWhile zbv)
  else if zbU t=0 then (1,[]) else (4,t.take (zbU t))
def zfR:Nat->List UInt8->Nat->List Tok
 |0,_,p=>[⟨0,[],p⟩]
 |n+1,t,p=>
  let b:=(t.takeWhile zdr).length
  let u:=t.drop b
  let x:=first u
  ⟨x.1,x.2,p+b⟩::(if x.1<=1 then [] else zfR n (u.drop x.2.length) (p+b+x.2.length))
def val (t:List UInt8):Nat:=t.foldl (fun a c=>10*a+(c.toNat-48)) 0
structure St where
 rest:List Tok
 bad:Option Nat
def St.hd (st:St):Tok:=st.rest.headD zm3
def St.is (s:List UInt8) (st:St):Bool:=st.bad.isNone && st.hd.s == s
def St.kind (k:Nat) (st:St):Bool:=st.bad.isNone && st.hd.k == k
def St.fail (st:St):St:=if st.bad.isNone then ⟨[],some st.hd.at_⟩ else st
def St.adv (st:St):St:=⟨st.rest.tail,st.bad⟩
def want (s:List UInt8) (st:St):St:=if st.is s then st.adv else st.fail
def zaK (st:St):Tok × St:=if st.kind 2 then (st.hd,st.adv) else (zm3,st.fail)
def zax (st:St):List Tok × St:=
 if st.bad.isNone then (st.rest.takeWhile (fun t=>t.k == 2),⟨st.rest.dropWhile (fun t=>t.k == 2),none⟩) else ([],st)
def zaA (lo hi:Nat) (st:St):Nat × St:=
 if st.kind 3 && decide (lo<=val st.hd.s) && decide (val st.hd.s<=hi) then (val st.hd.s,st.adv) else (0,st.fail)
structure Ex where
 kind:Nat
 tok:Tok
 n:Nat
 tag:Nat
 arity:Nat
 names:List Tok
 zao:List (Nat × List Tok)
 kids:List Ex
def ex0:Ex:=⟨0,zm3,0,0,0,[],[],[]⟩
def mkNum (n:Nat):Ex:=⟨1,zm3,n,0,0,[],[],[]⟩
def zcq (t:Tok):Ex:=⟨2,t,0,0,0,[],[],[]⟩
def zcU (t a:Nat):Ex:=⟨3,zm3,0,t,a,[],[],[]⟩
def mkFun (l:List Tok) (e:Ex):Ex:=⟨4,zm3,0,0,0,l,[],[e]⟩
def zcd (f x:Ex):Ex:=⟨5,zm3,0,0,0,[],[],[f,x]⟩
def zjk (t:Tok) (a b:Ex):Ex:=⟨6,t,0,0,0,[],[],[a,b]⟩
def mkLet (r:Bool) (l:List Tok) (parts:List Ex) (e:Ex):Ex:=⟨if r then 8 else 7,zm3,0,0,0,l,[],e::parts⟩
def mkCase (e:Ex) (l:List (Nat × List Tok)) (bodies:List Ex):Ex:=⟨9,zm3,0,0,0,[],l,e::bodies⟩
abbrev Rd:=Bool->St->Option (Ex × St)
def zcK (st:St):Bool:=st.kind 2||st.kind 3||st.is [123]||st.is [40]
def zdf (st:St):Ex × St:=
 let a:=zaA 1 99 st
 let b:=zaA 0 9 (want [44] a.2)
 (zcU a.1 b.1,want [125] b.2)
def zeL (ex:Rd) (st:St):Option (Ex × St):=
 if st.kind 2 then some (zcq st.hd,st.adv)
 else if st.kind 3 then some (mkNum (val st.hd.s),st.adv)
 else if st.is [123] then some (zdf st.adv)
 else if st.is [40] then (ex false st.adv).bind fun r=>some (r.1,want [41] r.2)
 else some (ex0,st.fail)
def zcT (ex:Rd):Nat->Ex->St->Option (Ex × St)
 |0,_,_=>none
 |k+1,e,st=>if zcK st then (zeL ex st).bind fun r=>zcT ex k (zcd e r.1) r.2 else some (e,st)
def zhH (ex:Rd) (k:Nat) (st:St):Option (Ex × St):=(zeL ex st).bind fun r=>zcT ex k r.1 r.2
def zkj (sub:St->Option (Ex × St)) (a b:List UInt8):Nat->Ex->St->Option (Ex × St)
 |0,_,_=>none
 |k+1,e,st=>if st.is a||st.is b then (sub st.adv).bind fun r=>zkj sub a b k (zjk st.hd e r.1) r.2 else some (e,st)
def zcD (ex:Rd) (k:Nat) (st:St):Option (Ex × St):=(zhH ex k st).bind fun r=>zkj (zhH ex k) [42] [47] k r.1 r.2
def zuk (ex:Rd) (k:Nat) (st:St):Option (Ex × St):=(zcD ex k st).bind fun r=>zkj (zcD ex k) [43] [45] k r.1 r.2
def zjg (ex:Rd) (k:Nat) (st:St):Option (Ex × St):=
 (zuk ex k st).bind fun r=>
  if r.2.is [61,61]||r.2.is [60] then (zuk ex k r.2.adv).bind fun q=>some (zjk r.2.hd r.1 q.1,q.2) else some r
def zcs (ex:Rd):Nat->List Tok->List Ex->St->Option (List Tok × List Ex × St)
 |0,_,_,_=>none
 |k+1,l,es,st=>
  let x:=zaK st
  (ex true (want [61] x.2)).bind fun r=>
   if r.2.is [59] then zcs ex k (l++[x.1]) (es++[r.1]) r.2.adv else some (l++[x.1],es++[r.1],r.2)
def zsk (ex:Rd) (k:Nat) (outer:Bool) (st:St):Option (Ex × St):=
 let rc:=st.is zoK
 (zcs ex k [] [] (if rc then st.adv else st)).bind fun r=>
  (ex outer (want sIn r.2.2)).bind fun q=>some (mkLet rc r.1 r.2.1 q.1,q.2)
def ztY (ex:Rd) (outer:Bool) (st:St):Option ((Nat × List Tok) × Ex × St):=
 let t:=zaA 1 99 (want [60] st)
 let l:=zax (want [62] t.2)
 (ex outer (want [45,62] l.2)).bind fun r=>some ((t.1,l.1),r.1,r.2)
def za6 (outer:Bool) (st:St):Bool:=st.is [59] && (!outer||(st.rest.tail.headD zm3).s == [60])
def zeA (ex:Rd) (outer:Bool):Nat->List (Nat × List Tok)->List Ex->St->Option (List (Nat × List Tok) × List Ex × St)
 |0,_,_,_=>none
 |k+1,l,es,st=>
  (ztY ex outer st).bind fun r=>
   if za6 outer r.2.2 then zeA ex outer k (l++[r.1]) (es++[r.2.1]) r.2.2.adv else some (l++[r.1],es++[r.2.1],r.2.2)
def zjC (ex:Rd) (k:Nat) (outer:Bool) (st:St):Option (Ex × St):=
 (ex false st).bind fun r=>(zeA ex outer k [] [] (want sOf r.2)).bind fun q=>some (mkCase r.1 q.1 q.2.1,q.2.2)
def zt3 (ex:Rd) (outer:Bool) (st:St):Option (Ex × St):=
 let x:=zaK st
 let l:=zax x.2
 (ex outer (want [46] l.2)).bind fun r=>some (mkFun (x.1::l.1) r.1,r.2)
def zgF (ex:Rd) (k:Nat) (outer:Bool) (st:St):Option (Ex × St):=
 if st.is ztI then zsk ex k outer st.adv
 else if st.is zjp then zjC ex k outer st.adv
 else if st.is [92] then zt3 ex outer st.adv
 else zjg ex k st
def zei:Nat->Rd
 |0=>fun _ _=>none
 |n+1=>zgF (zei n) n
structure zbq where
 name:Tok
 params:List Tok
 e:Ex
def zmx (ex:Rd) (st:St):Option (zbq × St):=
 let x:=zaK st
 let l:=zax x.2
 (ex true (want [61] l.2)).bind fun r=>some (⟨x.1,l.1,r.1⟩,want [59] r.2)
def zcG (ex:Rd):Nat->List zbq->St->Option (List zbq × St)
 |0,_,_=>none
 |k+1,acc,st=>
  if st.bad.isNone && st.hd.k != 0 then (zmx ex st).bind fun r=>zcG ex k (acc++[r.1]) r.2 else some (acc,st)
def zjd:List (List UInt8)->List Tok->List Nat
 |_,[]=>[]
 |seen,t::r=>(if seen.contains t.s then [t.at_] else [])++zjd (seen++[t.s]) r
def texts (l:List Tok):List (List UInt8):=l.map (·.s)
def zbo (wr:Ex->List (List UInt8)->List Nat) (around:List (List UInt8)):List (List UInt8)->List Tok->List Ex->List Nat
 |seen,t::r,e::es=>((if seen.contains t.s then [t.at_] else [])++wr e around)++zbo wr around (seen++[t.s]) r es
 |_,_,_=>[]
def zeC (wr:Ex->List (List UInt8)->List Nat) (around:List (List UInt8)):List (Nat × List Tok)->List Ex->List Nat
 |a::r,e::es=>(zjd [] a.2++wr e (around++texts a.2))++zeC wr around r es
 |_,_=>[]
def zar:Nat->Ex->List (List UInt8)->List Nat
 |0,_,_=>[]
 |n+1,e,around=>
  if e.kind=2 then (if around.contains e.tok.s then [] else [e.tok.at_])
  else if e.kind=5\/e.kind=6 then zar n (e.kids.headD ex0) around++zar n (e.kids.tail.headD ex0) around
  else if e.kind=4 then zjd [] e.names++zar n (e.kids.headD ex0) (around++texts e.names)
  else if e.kind=7 then zbo (zar n) around [] e.names e.kids.tail++zar n (e.kids.headD ex0) (around++texts e.names)
  else if e.kind=8 then zbo (zar n) (around++texts e.names) [] e.names e.kids.tail++zar n (e.kids.headD ex0) (around++texts e.names)
  else if e.kind=9 then zar n (e.kids.headD ex0) around++zeC (zar n) around e.zao e.kids.tail
  else []
def zaq (l:List zbq):List (List UInt8):=l.map (·.name.s)
def zbH (n:Nat) (all:List (List UInt8)):List (List UInt8)->List zbq->List Nat
 |_,[]=>[]
 |seen,x::r=>(if seen.contains x.name.s then [x.name.at_] else [])++zjd [] x.params++zar n x.e (all++texts x.params)++zbH n all (seen++[x.name.s]) r
end Go.Proofs.YtgahgkddaljmkaaGreatDoor.Th
variable {p:Prop}
theorem Go.RowKit.Hid.o(h:Go.RowKit.Hid p):p:=h
namespace Go.Proofs.YtgahgkddaljmkaaGreatDoor
open Go.RowKit
theorem zab(h:p):Hid p:=h
theorem zaa(h:Hid p):p:=h.out
def Blk (w:World) (b:Nat) (vs:List Value) (t:TypeId):Prop:=w.heap[b]?=some (.cells vs.toArray t (0,0))
variable {w:World}
variable {b:Nat}
variable {vs:List Value}
variable {t:TypeId}
theorem Blk.lt(h:Blk w b vs t):b<w.heap.size:=by
 unfold Blk at h;exact (zxU.1 h).1
theorem Blk.cell{w:World}{b:Nat}{vs:List Value}{t:TypeId}(h:Blk w b vs t)(j:Nat):w.cell? ⟨b,j,none⟩=vs[j]?:=by
 unfold Blk at h;simp[World.cell?,h]
theorem Blk.frozen{w:World}{b:Nat}{vs:List Value}{t:TypeId}(h:Blk w b vs t)(j:Nat):w.frozen? ⟨b,j,none⟩=false:=by
 unfold Blk at h;simp[World.frozen?,h]
theorem Blk.new(w:World)(vs:List Value)(t:TypeId):Blk (w.alloc (.cells vs.toArray t)) w.heap.size vs t:=by
 show (w.heap.push _)[w.heap.size]?=_;simp
theorem Blk.alloc{w:World}{b:Nat}{vs:List Value}{t:TypeId}(h:Blk w b vs t)(o:Obj):Blk (w.alloc o) b vs t:=by
 have hl:=h.lt;unfold Blk at *;rw[Below.heap_alloc _ _ _ hl,h]
theorem Blk.drew{w:World}{b:Nat}{vs:List Value}{t:TypeId}(h:Blk w b vs t):Blk w.drew b vs t:=h
variable {w':World}
theorem Blk.below{B:Nat}(h:Blk w b vs t)(hb:Below B w w')(hl:b<B):Blk w' b vs t:=by
 unfold Blk at *;rw[hb.block b hl,h]
theorem Blk.grown{row:Option Nat}(h:Blk w b vs t)(hg:w.grownBy w' row)(hr:some b≠row):Blk w' b vs t:=by
 have hl:=h.lt;unfold Blk at *;rw[hg.block b hl hr,h]
theorem Blk.set{w:World}{b:Nat}{vs:List Value}{t:TypeId}(h:Blk w b vs t)(j:Nat)(v:Value):Blk (w.setCell ⟨b,j,none⟩ v) b (vs.set j v) t:=by
 have hl:=h.lt;unfold Blk at *;simp[World.setCell,Array.getElem?_modify,h]
theorem Blk.other(h:Blk w b vs t)(a:Addr)(v:Value)(hne:b≠a.block):Blk (w.setCell a v) b vs t:=by
 unfold Blk at *;rw[Below.heap_setCell _ _ _ _ hne,h]
theorem zcR(w:World)(r:Option Nat):w.grownBy w r:=⟨rfl,rfl,rfl,zxJ _,fun _ _ _=>rfl⟩
variable {a:World}
variable {r:Option Nat}
theorem zad{b c:World}(h:a.grownBy b r)(k:b.grownBy c r):a.grownBy c r:=
 ⟨k.os.trans h.os,k.tape.trans h.tape,k.output.trans h.output,zxN h.size k.size,
  fun i hi hr=>(k.block i (zxO hi h.size) hr).trans (h.block i hi hr)⟩
theorem zaf{b:World}(r:Option Nat)(h:Below a.heap.size a b):a.grownBy b r:=⟨h.os,h.tape,h.output,h.size,fun k hk _=>h.block k hk⟩
theorem zbi{b:World}(h:a.grownBy b none):Below a.heap.size a b:=⟨h.os,h.tape,h.output,h.size,fun k hk=>h.block k hk (by simp)⟩
theorem zag(w:World)(o:Obj)(r:Option Nat):w.grownBy (w.alloc o) r:=⟨rfl,rfl,rfl,by simp,fun k hk _=>Below.heap_alloc _ _ _ hk⟩
theorem zbO(w:World)(r:Option Nat):w.grownBy w.drew r:=⟨rfl,rfl,rfl,zxJ _,fun _ _ _=>rfl⟩
theorem zaS(w:World)(b j:Nat)(v:Value):w.grownBy (w.setCell ⟨b,j,none⟩ v) (some b):=
 ⟨rfl,rfl,rfl,by simp[World.setCell],fun k _ hr=>Below.heap_setCell _ _ _ _ (fun e=>hr (by rw[e]))⟩
theorem zap{w1:World}(h:w.grownBy w1 r)(a:Addr)(v:Value)(hn:w.heap.size<=a.block):w.grownBy (w1.setCell a v) r:=
 ⟨h.os,h.tape,h.output,by simp[World.setCell];exact h.size,fun k hk hr=>by rw[Below.heap_setCell _ _ _ _ (by omega)];exact h.block k hk hr⟩
theorem zam(w:World)(o:Obj):Below w.heap.size w (w.alloc o):=(Below.refl _ _).alloc (zxJ _) o
end Go.Proofs.YtgahgkddaljmkaaGreatDoor
namespace Go.Proofs.YtgahgkddaljmkaaGreatDoor
open Go.RowKit
variable {w:World}
variable {b:Nat}
theorem zeH{o:Nat}{v:Value}(h:w.cell? ⟨b,o,none⟩=some v):b<w.heap.size:=by
 rcases zzo b w.heap.size with hb|hb
 ·exact hb
 ·have e:w.heap[b]?=none:=Array.getElem?_eq_none hb;simp[World.cell?,e]at h
variable {w':World}
variable {r:Option Nat}
theorem zl5(hg:w.grownBy w' r){o:Nat}{v:Value}(h:w.cell? ⟨b,o,none⟩=some v)(hr:some b≠r):w'.cell? ⟨b,o,none⟩=some v:=by
 rw[World.cell?_of_block (w:=w) (hg.block b (zeH h) hr),h]
theorem zc5(a b c:Value)(w:World):(Instr.field 135 (.agg #[a,b,c]) 0).run Tryz.prog w=.ok a w:=by kernel_rfl
theorem zc0(a b c:Value)(w:World):(Instr.field 135 (.agg #[a,b,c]) 1).run Tryz.prog w=.ok b w:=by kernel_rfl
theorem zc2(a b c:Value)(w:World):(Instr.field 135 (.agg #[a,b,c]) 2).run Tryz.prog w=.ok c w:=by kernel_rfl
theorem zba(n:Int)(h₀:0<=n)(h₁:n<2 ^ 63):IntKind.i64.wrap n=n:=by rw[IntKind.wrap_i64];omega
variable {x:Int}
theorem zxn(h0:0<=x)(h1:x<9223372036854775808):bits .and .i64 x 15=x%16:=bits_mask .i64 63 (by decide) zba 4 (by decide) x h0 h1
theorem zvt(h0:0<=x)(h1:x<9223372036854775808):bits .and .i64 x 4095=x%4096:=bits_mask .i64 63 (by decide) zba 12 (by decide) x h0 h1
theorem and_3(h0:0<=x)(h1:x<9223372036854775808):bits .and .i64 x 3=x%4:=bits_mask .i64 63 (by decide) zba 2 (by decide) x h0 h1
theorem zoS(i:Nat){y:Int}(hx₀:0<=x)(hx:x%2 ^ i=0)(hx₁:x<9223372036854775808)(hy₀:0<=y)(hy:y<2 ^ i)(hy₁:y<9223372036854775808):bits .or .i64 x y=x+y:=
 bits_join .i64 63 (by decide) zba i x y hx₀ hx hx₁ hy₀ hy hy₁
theorem zmA(h1:-9223372036854775808<=x)(h2:x<9223372036854775808):bits .xor .i64 (-1) x=-x-1:=by
 have e:BitVec.ofInt 64 (-1)=BitVec.allOnes 64:=by decide
 show IntKind.i64.wrap ((BitVec.ofInt 64 (-1) ^^^ BitVec.ofInt 64 x).toNat)=_;rw[e,BitVec.allOnes_xor,BitVec.toNat_not,BitVec.toNat_ofInt,IntKind.wrap_i64];omega
def Hd (k a c:Nat):Int:=(a:Int)*65536+(c:Int)*16+(k:Int)
def Mk (k a:Nat):Int:=-((a:Int)*4+(k:Int))-1
theorem zeS{a b:Int}(h:a=b):Ending.returned (.int .i64 a)=.returned (.int .i64 b):=by rw[h]
theorem za2(h:Int)(w:World)(h0:0<=h)(h1:h<9223372036854775808):
  Calls Tryz.prog 83 #[.int .i64 h] w fun e w'=>e=.returned (.int .i64 (h%16))/\w'=w:=by
 go_enter Tryz.func83,Tryz.ntmps83
 go_wp2_with fail
 go_ret
 exact ⟨zeS (zxn h0 h1),rfl⟩
theorem za3(h:Int)(w:World)(h0:0<=h)(h1:h<9223372036854775808):
  Calls Tryz.prog 85 #[.int .i64 h] w fun e w'=>e=.returned (.int .i64 (h/16%4096))/\w'=w:=by
 go_enter Tryz.func85,Tryz.ntmps85
 go_wp2_with fail
 go_ret
 exact ⟨zeS (zvt (by omega) (by omega)),rfl⟩
theorem zbu(h:Int)(w:World)(_h0:0<=h)(_h1:h<9223372036854775808):
  Calls Tryz.prog 84 #[.int .i64 h] w fun e w'=>e=.returned (.int .i64 (h/65536))/\w'=w:=by
 go_enter Tryz.func84,Tryz.ntmps84
 go_wp2_with fail
 go_ret
 exact ⟨zeS rfl,rfl⟩
theorem zbt(k a c:Nat)(w:World)(h1:k<16)(h3:c<4096)(h5:a<=1000000000):
  Calls Tryz.prog 75 #[.int .i64 k,.int .i64 a,.int .i64 c] w fun e w'=>e=.returned (.int .i64 (Hd k a c))/\w'=w:=by
 have h1':(k:Int)<16:=by omega
 have h3':(c:Int)<4096:=by omega
 have h5':(a:Int)<=1000000000:=by omega
 go_enter Tryz.func75,Tryz.ntmps75
 go_wp2_with fail
 go_ret
 refine ⟨zeS ?_,rfl⟩;have e1:bits .or .i64 ((a:Int)*65536) ((c:Int)*16)=(a:Int)*65536+(c:Int)*16:=zoS 16 (by omega) (by omega) (by omega) (by omega) (by omega) (by omega);rw[e1,zoS 4 (by omega) (by omega) (by omega) (by omega) (by omega) (by omega)];rfl
theorem ziB(k a:Nat)(w:World)(h1:k<4)(h5:a<=1000000000):
  Calls Tryz.prog 138 #[.int .i64 k,.int .i64 a] w fun e w'=>e=.returned (.int .i64 (Mk k a))/\w'=w:=by
 have h1':(k:Int)<4:=by omega
 have h5':(a:Int)<=1000000000:=by omega
 go_enter Tryz.func138,Tryz.ntmps138
 go_wp2_with fail
 all_goals
  go_ret
  refine ⟨zeS ?_,rfl⟩;rw[zoS 2 (by omega) (by omega) (by omega) (by omega) (by omega) (by omega),zmA (by omega) (by omega)];rfl
theorem zov(k a:Nat)(w:World)(h1:k<4)(h5:a<=1000000000):
  Calls Tryz.prog 202 #[.int .i64 (Mk k a)] w fun e w'=>e=.returned (.int .i64 k)/\w'=w:=by
 obtain ⟨x,hx⟩:∃ x,Mk k a=x:=⟨_,rfl⟩;rw[hx];have hx1:-10000000000<=x:=by rw[<-hx,Mk];omega
 have hx2:x<0:=by rw[<-hx,Mk];omega
 have HX:=zab hx;clear hx;go_enter Tryz.func202,Tryz.ntmps202
 go_wp2_with fail
 all_goals
  go_ret
  refine ⟨zeS ?_,rfl⟩;rw[zmA (by omega) (by omega),and_3 (by omega) (by omega)];have:=HX.o;rw[Mk]at this;omega
theorem zl3(k a:Nat)(w:World)(h1:k<4)(h5:a<=1000000000):
  Calls Tryz.prog 204 #[.int .i64 (Mk k a)] w fun e w'=>e=.returned (.int .i64 a)/\w'=w:=by
 obtain ⟨x,hx⟩:∃ x,Mk k a=x:=⟨_,rfl⟩;rw[hx];have hx1:-10000000000<=x:=by rw[<-hx,Mk];omega
 have hx2:x<0:=by rw[<-hx,Mk];omega
 have HX:=zab hx;clear hx;go_enter Tryz.func204,Tryz.ntmps204
 go_wp2_with fail
 all_goals
  go_ret
  refine ⟨zeS ?_,rfl⟩;rw[zmA (by omega) (by omega)];have:=HX.o;rw[Mk]at this;omega
theorem zlM(h:Int)(w:World)(h0:0<=h)(h1:h<9223372036854775808):
  Calls Tryz.prog 200 #[.int .i64 h] w fun e w'=>e=.returned (.int .i64 (if h%16=0 then 2 else 1+h/16%4096))/\w'=w:=by
 by_cases hk:h%16=0
 ·rw[if_pos hk];have hb:(h%16 == 0)=true:=beq_iff_eq.2 hk;clear hk;go_enter Tryz.func200,Tryz.ntmps200
  go_wp2_with (first|(go_at_call 83;refine (za2 _ _ h0 h1).mono ?_;rintro e w' ⟨rfl,rfl⟩)|(go_at_call 85;refine (za3 _ _ h0 h1).mono ?_;rintro e w' ⟨rfl,rfl⟩))
  go_ret
  exact ⟨rfl,rfl⟩
 ·rw[if_neg hk];have hb:(h%16 == 0)=false:=beq_eq_false_iff_ne.2 hk;have hc0:0<=h/16%4096:=by omega
  have hc1:h/16%4096<4096:=by omega
  clear hk;go_enter Tryz.func200,Tryz.ntmps200
  go_wp2_with (first|(go_at_call 83;refine (za2 _ _ h0 h1).mono ?_;rintro e w' ⟨rfl,rfl⟩)|(go_at_call 85;refine (za3 _ _ h0 h1).mono ?_;rintro e w' ⟨rfl,rfl⟩))
  go_ret
  exact ⟨rfl,rfl⟩
variable {k c:Nat}
theorem zbz{a:Nat}(h1:k<16):Hd k a c%16=k:=by unfold Hd;omega
theorem zeb{a:Nat}(h1:k<16)(h2:c<4096):Hd k a c/16%4096=c:=by unfold Hd;omega
theorem zdH{a:Nat}(h1:k<16)(h2:c<4096):Hd k a c/65536=a:=by unfold Hd;omega
theorem zb9(k:Int)(w:World):
  Calls Tryz.prog 126 #[.int .i64 k] w fun e w'=>e=.panicked [{ v:=.iface 82 (.int .i64 k),recovered:=false }]/\w'=w:=by
 go_enter Tryz.func126,Tryz.ntmps126
 go_wp2_with fail
 exact ⟨rfl,rfl,rfl⟩
end Go.Proofs.YtgahgkddaljmkaaGreatDoor
namespace Go.Proofs.YtgahgkddaljmkaaGreatDoor
open Go.RowKit
attribute [local go_sem ↓] Go.wp_at_zero Go.wp_at_succ
structure Sto where
 ws:List Int
 half:Nat
 low:Nat
 free:Nat
 top:Nat
def zdF (ws:List Int):List Value:=ws.map (fun x=>.int .i64 x)
def zh7 (wb:Nat) (s:Sto):List Value:=[.slice (some ⟨wb,0,none⟩) s.ws.length s.ws.length,.int .i64 s.half,.int .i64 s.low,.int .i64 s.free,.int .i64 s.top]
structure SAt (w:World) (mb wb:Nat) (tl:List Value) (s:Sto):Prop where
 blk:Blk w mb (zh7 wb s++tl) 81
 zey:Blk w wb (zdF s.ws) 2
 ne:mb≠wb
 len:s.ws.length<=1000000
 half:s.half<=1000000
 low:s.low<=1000000
 free:s.free<=1000000
 top:s.top<=1000000
theorem zht(ws:List Int)(i:Nat):(zdF ws)[i]?=(ws[i]?).map (fun x=>.int .i64 x):=by simp[zdF]
theorem zbJ(ws:List Int):(zdF ws).length=ws.length:=by simp[zdF]
variable {w:World}
variable {mb wb:Nat}
variable {tl:List Value}
variable {s:Sto}
variable {x:Int}
theorem SAt.word(h:SAt w mb wb tl s){i:Nat}(hx:s.ws[i]?=some x):w.cell? ⟨wb,i,none⟩=some (.int .i64 x):=by
 rw[h.zey.cell,zht,hx];rfl
structure Fr (K:Nat->Prop) (a b:World):Prop where
 os:b.os=a.os
 tape:b.tape=a.tape
 output:b.output=a.output
 size:a.heap.size<=b.heap.size
 block:∀ k,k<a.heap.size->¬ K k->b.heap[k]?=a.heap[k]?
theorem Fr.refl(K:Nat->Prop)(w:World):Fr K w w:=⟨rfl,rfl,rfl,zxJ _,fun _ _ _=>rfl⟩
theorem Fr.trans{K:Nat->Prop}{a b c:World}(h:Fr K a b)(k:Fr K b c):Fr K a c:=
 ⟨k.os.trans h.os,k.tape.trans h.tape,k.output.trans h.output,zxN h.size k.size,fun i hi hK=>(k.block i (zxO hi h.size) hK).trans (h.block i hi hK)⟩
variable {K:Nat->Prop}
variable {a:World}
theorem Fr.mono{L:Nat->Prop}{b:World}(h:Fr K a b)(hk:∀ i,K i->L i):Fr L a b:=⟨h.os,h.tape,h.output,h.size,fun i hi hL=>h.block i hi (fun x=>hL (hk i x))⟩
theorem Fr.below{b:World}(h:Below a.heap.size a b):Fr K a b:=⟨h.os,h.tape,h.output,h.size,fun k hk _=>h.block k hk⟩
theorem Fr.set{b:World}(h:Fr K a b)(p:Addr)(v:Value)(hp:K p.block\/a.heap.size<=p.block):Fr K a (b.setCell p v):=
 ⟨h.os,h.tape,h.output,by simp[World.setCell];exact h.size,fun k hk hK=>by
  rw[Below.heap_setCell _ _ _ _ (by rintro rfl;rcases hp with hp|hp;exact hK hp;omega)];exact h.block k hk hK⟩
theorem Fr.drew{K:Nat->Prop}{a b:World}(h:Fr K a b):Fr K a b.drew:=⟨h.os,h.tape,h.output,h.size,h.block⟩
theorem Fr.alloc{K:Nat->Prop}{a b:World}(h:Fr K a b)(o:Obj):Fr K a (b.alloc o):=h.trans (Fr.below (zam b o))
variable {k:Nat}
variable {vs:List Value}
variable {t:TypeId}
theorem Fr.blk{b:World}(h:Blk a k vs t)(f:Fr K a b)(hk:¬ K k):Blk b k vs t:=by
 have hl:=h.lt;unfold Blk at *;rw[f.block k hl hk,h]
def M2 (mb wb:Nat):Nat->Prop:=fun k=>k=mb\/k=wb
theorem znU{ws:List Int}(h:ws.length=s.ws.length):zh7 wb { s with ws:=ws }=zh7 wb s:=by simp[zh7,h]
theorem SAt.zlG(h:SAt w mb wb tl s)(v:Nat)(hv:v<=1000000):SAt (w.setCell ⟨mb,4,none⟩ (.int .i64 v)) mb wb tl { s with top:=v }:=
 ⟨h.blk.set 4 (.int .i64 v),h.zey.other _ _ h.ne.symm,h.ne,h.len,h.half,h.low,h.free,hv⟩
theorem SAt.zke(h:SAt w mb wb tl s)(v:Nat)(hv:v<=1000000):SAt (w.setCell ⟨mb,3,none⟩ (.int .i64 v)) mb wb tl { s with free:=v }:=
 ⟨h.blk.set 3 (.int .i64 v),h.zey.other _ _ h.ne.symm,h.ne,h.len,h.half,h.low,hv,h.top⟩
theorem SAt.zxm(h:SAt w mb wb tl s)(v:Nat)(hv:v<=1000000):SAt (w.setCell ⟨mb,2,none⟩ (.int .i64 v)) mb wb tl { s with low:=v }:=
 ⟨h.blk.set 2 (.int .i64 v),h.zey.other _ _ h.ne.symm,h.ne,h.len,h.half,hv,h.free,h.top⟩
theorem SAt.zcB(h:SAt w mb wb tl s)(i:Nat)(x:Int):SAt (w.setCell ⟨wb,i,none⟩ (.int .i64 x)) mb wb tl { s with ws:=s.ws.set i x }:=by
 refine ⟨?_,?_,h.ne,by simp;exact h.len,h.half,h.low,h.free,h.top⟩
 ·rw[znU (by simp)];exact h.blk.other _ _ h.ne
 ·have:=h.zey.set i (.int .i64 x);rw[show (zdF s.ws).set i (.int .i64 x)=zdF (s.ws.set i x) from by simp[zdF,List.map_set]]at this;exact this
theorem SAt.drew{w:World}{mb wb:Nat}{tl:List Value}{s:Sto}(h:SAt w mb wb tl s):SAt w.drew mb wb tl s:=⟨h.blk.drew,h.zey.drew,h.ne,h.len,h.half,h.low,h.free,h.top⟩
variable {w':World}
theorem SAt.fr(h:SAt w mb wb tl s)(f:Fr K w w')(h1:¬ K mb)(h2:¬ K wb):SAt w' mb wb tl s:=⟨Fr.blk h.blk f h1,Fr.blk h.zey f h2,h.ne,h.len,h.half,h.low,h.free,h.top⟩
theorem SAt.below{w w':World}{mb wb:Nat}{tl:List Value}{s:Sto}(h:SAt w mb wb tl s)(f:Below w.heap.size w w'):SAt w' mb wb tl s:=h.fr (K:=fun _=>False) (Fr.below f) (by simp) (by simp)
theorem SAt.c0(h:SAt w mb wb tl s):w.cell? ⟨mb,0,none⟩=some (.slice (some ⟨wb,0,none⟩) s.ws.length s.ws.length):=h.blk.cell 0
theorem SAt.c1(h:SAt w mb wb tl s):w.cell? ⟨mb,1,none⟩=some (.int .i64 s.half):=h.blk.cell 1
theorem SAt.c2(h:SAt w mb wb tl s):w.cell? ⟨mb,2,none⟩=some (.int .i64 s.low):=h.blk.cell 2
theorem SAt.c3(h:SAt w mb wb tl s):w.cell? ⟨mb,3,none⟩=some (.int .i64 s.free):=h.blk.cell 3
theorem SAt.c4(h:SAt w mb wb tl s):w.cell? ⟨mb,4,none⟩=some (.int .i64 s.top):=h.blk.cell 4
theorem SAt.zi6(h:SAt w mb wb tl s){i:Nat}(hi:i<s.ws.length):w.cell? ⟨wb,i,none⟩=some (.int .i64 s.ws[i]):=h.word (zxI hi)
variable {b:Nat}
theorem zcg{a:Nat}(h:a≠b):∀ (W:World) (o j:Nat) (v:Value),(W.setCell ⟨b,j,none⟩ v).cell? ⟨a,o,none⟩=W.cell? ⟨a,o,none⟩:=
 fun W _o _j _v=>World.cell?_of_block (w:=W) (Below.heap_setCell _ _ _ _ h)
theorem zb3(h:SAt w mb wb tl s)(x:Int)(h1:1<=s.top)(h2:s.top<=s.ws.length):
  Calls Tryz.prog 76 #[.pointer (some ⟨mb,0,none⟩),.int .i64 x] w fun e w'=>e=.returned (.tuple #[])/\SAt w' mb wb tl { s with top:=s.top-1,ws:=s.ws.set (s.top-1) x }/\Fr (M2 mb wb) w w':=by
 obtain ⟨i,hi⟩:∃ i,s.top=i+1:=⟨s.top-1,by omega⟩;have hlen:=h.len;have hil:i<s.ws.length:=by omega
 have H1:=zab (h.zlG i (by omega));have c4:w.cell? ⟨mb,4,none⟩=some (.int .i64 ((i:Int)+1)):=by rw[h.c4,hi];rfl
 have f4:=h.blk.frozen 4;have HP:Hid (Fr (M2 mb wb) w (w.setCell ⟨mb,4,none⟩ (.int .i64 i))):=zab ((Fr.refl _ _).set _ _ (.inl (.inl rfl)));have HI:Hid (s.top-1=i):=zab (by omega);have hoth:=zcg h.ne;clear h hi h1 h2;go_enter Tryz.func76,Tryz.ntmps76
 go_wp2_with fail
 generalize w.setCell ⟨mb,4,none⟩ (.int .i64 i)=w1 at H1 HP;have d0:=H1.o.c0;have d4:=H1.o.c4;have di:=H1.o.zi6 (i:=i) hil;have fi:=H1.o.zey.frozen i;have hb1:(i:Int)<(s.ws.length:Int):=by omega
 have hb2:(0:Int)<=(i:Int):=by omega
 simp only at d0 d4 di;clear c4 f4
 go_region_held3 (fun W=>W.cell? ⟨mb,0,none⟩=some (.slice (some ⟨wb,0,none⟩) s.ws.length s.ws.length)/\W.cell? ⟨mb,4,none⟩=some (.int .i64 i)) (go_keep) (fail)
 all_goals
  go_wp2_with fail
  go_end0
  refine ⟨rfl,?_,?_⟩
  ·have:=H1.o.drew.zcB i x;rw[HI.o];exact this
  ·exact HP.o.drew.set _ _ (.inl (.inr rfl))
theorem zaX{α:Type}(L:List α)(o:Nat)(cs:List α)(h:o+cs.length<=L.length):(splice L o cs).length=L.length:=length_splice L o cs h
theorem zpk(ws xs:List Int)(o:Nat):zdF (splice ws o xs)=splice (zdF ws) o (zdF xs):=by simp[zdF,splice,List.map_take,List.map_drop]
theorem SAt.splice{w:World}{mb wb:Nat}{tl:List Value}{s:Sto}(h:SAt w mb wb tl s)(o:Nat)(xs:List Int)(hf:o+xs.length<=s.ws.length):SAt (w.setRow wb ((zdF s.ws).take o++(zdF xs++(zdF s.ws).drop (o+(zdF xs).length))).toArray) mb wb tl { s with ws:=Go.splice s.ws o xs }:=by
 refine ⟨?_,?_,h.ne,by rw[zaX _ _ _ hf];exact h.len,h.half,h.low,h.free,h.top⟩
 ·rw[znU (zaX _ _ _ hf)];have:=h.blk;unfold Blk at *;rw[setRow_other w wb mb _ h.ne];exact this
 ·have:=h.zey;unfold Blk at *;rw[zpk];exact setRow_heap w wb _ _ 2 _ this
theorem Fr.setRow{K:Nat->Prop}{a b:World}(h:Fr K a b)(g:Nat)(cs:Array Value)(hg:K g):Fr K a (b.setRow g cs):=
 ⟨h.os,h.tape,h.output,by simp[World.setRow];exact h.size,fun k hk hK=>by rw[setRow_other b g k cs (by rintro rfl;exact hK hg)];exact h.block k hk hK⟩
theorem zlW(xs:List Int):∀ v∈zdF xs,v.oneCell'=true:=by
 intro v hv;simp only[zdF,zyW]at hv;obtain ⟨x,_,rfl⟩:=hv;rfl
theorem zln:(Tryz.prog.info? 2).map (·.size)=some 1:=by kernel_rfl
theorem za5{ops:Array Oper}{o:Oper}{a:Act}{K:Act->World->Prop}{Q:Exit->Act->World->Prop}{E:Prop}(hgd:o.guard=none)(d sr:Operand)(ho:o.op=.call { callee:=.builtin .copy,args:=#[d,sr],argTypes:=#[76,76] })(h:SAt w mb wb tl s)(off dLen dCap sLen sCap:Nat)(sp:Option Addr)(hd:a.eval d=.slice (some ⟨wb,off,none⟩) dLen dCap)(hs:a.eval sr=.slice sp sLen sCap)(xs:List Int)(hn:xs.length=Nat.min sLen dLen)(hsrc:0<xs.length->∃ ad,sp=some ad/\∀ (j:Nat) x,xs[j]?=some x->w.cell? (ad.add j)=some (.int .i64 x))(hfit:off+xs.length<=s.ws.length)(hk:∀ w',SAt w' mb wb tl { s with ws:=Go.splice s.ws off xs }->Fr (M2 mb wb) w w'->K (a.put o.dst (goInt xs.length)) w'):if Region.wanted o (yielded ops a.tmps)=true then Oper.wp Tryz.prog o a w K Q else E:=by
 have hw:Region.wanted o (yielded ops a.tmps)=true:=by simp[Region.wanted,hgd]
 rw[if_pos hw];by_cases h0:xs.length=0
 ·have hrun:=run_copy_none (P:=Tryz.prog) w 76 76 o.type 2 (some ⟨wb,off,none⟩) sp dLen dCap sLen sCap Tryz.underlying76 zln (by rw[<-hn];exact h0);unfold Oper.wp;simp[execOp,ho,resolve,invoke,builtin,hd,hs,hrun,Result.andThen];have e:Go.splice s.ws off xs=s.ws:=by rw[zyo h0];simp[Go.splice]
  have:=hk w (by rw[e];exact h) (Fr.refl _ _);rw[h0]at this;exact this
 ·obtain ⟨ad,rfl,hc⟩:=hsrc (by omega);have hrun:=run_copy_row (P:=Tryz.prog) w 76 76 o.type 2 wb off dLen dCap ad sLen sCap (zdF s.ws).toArray 2 (zdF xs) Tryz.underlying76 zln h.zey (by rw[zbJ];exact hn) (fun j v hj=>by
   rw[zht]at hj;obtain ⟨x,hx,rfl⟩:=zxT.1 hj;exact hc j x hx) (by simp[zbJ];exact hfit) (zlW xs)
  unfold Oper.wp;simp[execOp,ho,resolve,invoke,builtin,hd,hs,hrun,Result.andThen];have:=hk _ (h.splice off xs hfit) ((Fr.refl _ _).setRow wb _ (.inr rfl));simp only[zbJ]at this ⊢;exact this
theorem zhP(h:SAt w mb wb tl s):
  Calls Tryz.prog 78 #[.pointer (some ⟨mb,0,none⟩)] w fun e w'=>e=.returned (.int .i64 ((s.low+s.half:Nat):Int))/\∃ n,w'=w.drewN n:=by
 have c1:=h.c1;have c2:=h.c2;have b1:=h.half;have b2:=h.low;clear h;go_enter Tryz.func78,Tryz.ntmps78
 go_wp2_with fail
 go_quiet (fail)
 go_wp2_with fail
 go_ret
 exact ⟨by simp,_,rfl⟩
theorem zme(h:SAt w mb wb tl s):
  Calls Tryz.prog 124 #[.pointer (some ⟨mb,0,none⟩)] w fun e w'=>e=.returned (.int .i64 ((s.top:Int)-s.free))/\∃ n,w'=w.drewN n:=by
 have c1:=h.c3;have c2:=h.c4;have b1:=h.free;have b2:=h.top;clear h;go_enter Tryz.func124,Tryz.ntmps124
 go_wp2_with fail
 go_quiet (fail)
 go_wp2_with fail
 go_ret
 exact ⟨by simp,_,rfl⟩
theorem zbK(h:SAt w mb wb tl s)(c:Nat)(hc:s.top+c<=1000000):
  Calls Tryz.prog 137 #[.pointer (some ⟨mb,0,none⟩),.int .i64 c] w fun e w'=>e=.returned (.tuple #[])/\SAt w' mb wb tl { s with top:=s.top+c }/\Fr (M2 mb wb) w w':=by
 have c4:=h.c4;have f4:=h.blk.frozen 4;have HH:=zab h;clear h;go_enter Tryz.func137,Tryz.ntmps137
 go_wp2_with fail
 go_end0
 refine ⟨rfl,?_,(Fr.refl _ _).set _ _ (.inl (.inl rfl))⟩;have:=HH.o.zlG (s.top+c) hc;simpa using this
theorem zaz(h:SAt w mb wb tl s)(d:Nat)(x:Int)(hx:s.ws[s.top+d]?=some x):
  Calls Tryz.prog 82 #[.pointer (some ⟨mb,0,none⟩),.int .i64 d] w fun e w'=>e=.returned (.int .i64 x)/\∃ n,w'=w.drewN n:=by
 have c0:=h.c0;have c4:=h.c4;have cw:=h.word hx;have hl:s.top+d<s.ws.length:=(zxH.1 hx).1;have hlen:=h.len;have hb1:(s.top:Int)+(d:Int)<(s.ws.length:Int):=by omega
 clear h hx;go_enter Tryz.func82,Tryz.ntmps82
 go_wp2_with fail
 go_quiet (fail)
 go_wp2_with fail
 go_ret
 exact ⟨by simp,_,rfl⟩
def cutAt (len lo:Nat):Nat:=if len=lo then 0 else lo
theorem zbS{len lo:Nat}(h:lo<len):cutAt len lo=lo:=by unfold cutAt;rw[if_neg (by omega)]
theorem ze9(h:SAt w mb wb tl s)(c:Nat)(hc:s.top+c<=s.ws.length):
  Calls Tryz.prog 136 #[.pointer (some ⟨mb,0,none⟩),.int .i64 c] w fun e w'=>e=.returned (.slice (some ⟨wb,cutAt s.ws.length s.top,none⟩) c (s.ws.length-s.top))/\∃ n,w'=w.drewN n:=by
 have c0:=h.c0;have c4:=h.c4;have hlen:=h.len;have hb1:(s.top:Int)+(c:Int)<=(s.ws.length:Int):=by omega
 clear h;go_enter Tryz.func136,Tryz.ntmps136
 go_wp2_with fail
 go_quiet (fail)
 go_wp2_with fail
 all_goals
  go_ret
  refine ⟨?_,_,rfl⟩;simp[cutAt, *]
theorem zcw(h:SAt w mb wb tl s)(a:Nat)(x:Int)(hx:s.ws[a]?=some x)(h0:0<=x)(h1:x<9223372036854775808)(hc:a+1+(x/16%4096).toNat<=s.ws.length):
  Calls Tryz.prog 135 #[.pointer (some ⟨mb,0,none⟩),.int .i64 a] w fun e w'=>e=.returned (.slice (some ⟨wb,cutAt s.ws.length (a+1),none⟩) (x/16%4096).toNat (s.ws.length-(a+1)))/\∃ n,w'=w.drewN n:=by
 have c0:=h.c0;have cw:=h.word hx;have hlen:=h.len;have hl:(a:Int)<(s.ws.length:Int):=by have:=(zxH.1 hx).1;omega
 obtain ⟨c,hcc⟩:∃ c:Nat,(x/16%4096)=(c:Int):=⟨(x/16%4096).toNat,by omega⟩;have hcn:(x/16%4096).toNat=c:=by omega
 rw[hcn]at hc ⊢;have hb1:(a:Int)+1+(c:Int)<=(s.ws.length:Int):=by omega
 have HC:=zab (fun W:World=>za3 x W h0 h1);rw[hcc]at HC;clear h hx hcc hcn h0 h1;go_enter Tryz.func135,Tryz.ntmps135
 go_wp2_with fail
 go_quiet ((go_at_call 85;exact Calls.quiet_of_same (HC.o _)))
 go_wp2_with fail
 all_goals
  go_ret
  refine ⟨?_,_,rfl⟩;simp[cutAt, *]
theorem zpr(h:SAt w mb wb tl s)(xs:List Int)(sp:Option Addr)(cp:Nat)(hsrc:0<xs.length->∃ ad,sp=some ad/\∀ (W:World),SAt W mb wb tl { s with top:=s.top-xs.length }->Fr (M2 mb wb) w W->∀ (j:Nat) x,xs[j]?=some x->W.cell? (ad.add j)=some (.int .i64 x))(h1:xs.length<=s.top)(h2:s.top<=s.ws.length):
  Calls Tryz.prog 201 #[.pointer (some ⟨mb,0,none⟩),.slice sp xs.length cp] w fun e w'=>e=.returned (.tuple #[])/\SAt w' mb wb tl { s with top:=s.top-xs.length,ws:=Go.splice s.ws (s.top-xs.length) xs }/\Fr (M2 mb wb) w w':=by
 obtain ⟨i,hi⟩:∃ i,s.top=i+xs.length:=⟨s.top-xs.length,by omega⟩;have hit:s.top-xs.length=i:=by omega
 rw[hit]at hsrc ⊢;have hlen:=h.len;have H1:=zab (h.zlG i (by omega));have c4:w.cell? ⟨mb,4,none⟩=some (.int .i64 ((i:Int)+(xs.length:Int))):=by rw[h.c4,hi];rfl
 have f4:=h.blk.frozen 4;have HP:Hid (Fr (M2 mb wb) w (w.setCell ⟨mb,4,none⟩ (.int .i64 i))):=zab ((Fr.refl _ _).set _ _ (.inl (.inl rfl)));have HS:=zab hsrc;have hil:i+xs.length<=s.ws.length:=by omega
 have hb1:(i:Int)<=(s.ws.length:Int):=by omega
 have hb2:(0:Int)<=(i:Int):=by omega
 have hb3:(i:Int)+(xs.length:Int)<=1000000:=by omega
 clear h hi h1 h2 hit hsrc;go_enter Tryz.func201,Tryz.ntmps201
 go_wp2_with fail
 generalize w.setCell ⟨mb,4,none⟩ (.int .i64 i)=w1 at H1 HP;have d0:=H1.o.c0;have d4:=H1.o.c4;simp only at d0 d4;have HSR:Hid (0<xs.length->∃ ad,sp=some ad/\∀ (j:Nat) x,xs[j]?=some x->w1.drew.cell? (ad.add j)=some (.int .i64 x)):=zab (fun h0=>by
  obtain ⟨ad,h1,h2⟩:=HS.o h0;exact ⟨ad,h1,fun j x hj=>h2 w1.drew H1.o.drew HP.o.drew j x hj⟩)
 clear c4 f4 HS;by_cases hr:s.ws.length=i
 ·have hx:xs=[]:=zyo (by omega);subst hx
  go_region_held3 (fun W=>W.cell? ⟨mb,0,none⟩=some (.slice (some ⟨wb,0,none⟩) s.ws.length s.ws.length)/\W.cell? ⟨mb,4,none⟩=some (.int .i64 i)) (first|go_keep|(refine ⟨?_,?_⟩ <;> assumption)) (first
   |(refine za5 (by rfl) _ _ (by rfl) H1.o.drew _ _ _ _ _ _ (by rfl) (by rfl) [] (by simp) (fun h=>absurd h (by simp)) (by simp) ?_;intro w3 h3 f3;have H3:=zab h3;have F3:=zab f3;have e0:=h3.c0;have e4:=h3.c4;simp only[splice,zyN,zx7,zyX,zyi,zyK]at e0 e4;clear h3 f3))
  all_goals
   go_wp2_with fail
   go_end0
   refine ⟨rfl,?_,HP.o.trans ((Fr.refl _ _).drew.trans F3.o)⟩;have:=H3.o;simpa [splice] using this
 ·have hlt:i<s.ws.length:=by omega
  go_region_held3 (fun W=>W.cell? ⟨mb,0,none⟩=some (.slice (some ⟨wb,0,none⟩) s.ws.length s.ws.length)/\W.cell? ⟨mb,4,none⟩=some (.int .i64 i)) (first|go_keep|(refine ⟨?_,?_⟩ <;> assumption)) (first
   |(refine za5 (by rfl) _ _ (by rfl) H1.o.drew i _ _ _ _ _ (by rfl) (by rfl) xs (by simp[Nat.min_def];omega) HSR.o hil ?_;intro w3 h3 f3;have H3:=zab h3;have F3:=zab f3;have e0:=h3.c0;have e4:=h3.c4;simp only[zaX _ _ _ hil]at e0 e4;clear h3 f3))
  all_goals
   go_wp2_with fail
   go_end0
   exact ⟨rfl,H3.o,HP.o.trans ((Fr.refl _ _).drew.trans F3.o)⟩
theorem ziC(h:SAt w mb wb tl s)(ty:TypeId)(off dLen dCap sLen sCap:Nat)(sp:Option Addr)(xs:List Int)(hn:xs.length=Nat.min sLen dLen)(hsrc:0<xs.length->∃ ad,sp=some ad/\∀ (j:Nat) x,xs[j]?=some x->w.cell? (ad.add j)=some (.int .i64 x))(hfit:off+xs.length<=s.ws.length):
  ∃ w',(Builtin.copy_ #[76,76] ty #[.slice (some ⟨wb,off,none⟩) dLen dCap,.slice sp sLen sCap]).run Tryz.prog w=.ok (goInt xs.length) w'/\SAt w' mb wb tl { s with ws:=Go.splice s.ws off xs }/\Fr (M2 mb wb) w w':=by
 by_cases h0:xs.length=0
 ·have hrun:=run_copy_none (P:=Tryz.prog) w 76 76 ty 2 (some ⟨wb,off,none⟩) sp dLen dCap sLen sCap Tryz.underlying76 zln (by rw[<-hn];exact h0);have e:Go.splice s.ws off xs=s.ws:=by rw[zyo h0];simp[Go.splice]
  exact ⟨w,by rw[hrun,h0];rfl,by rw[e];exact h,Fr.refl _ _⟩
 ·obtain ⟨ad,rfl,hc⟩:=hsrc (by omega);have hrun:=run_copy_row (P:=Tryz.prog) w 76 76 ty 2 wb off dLen dCap ad sLen sCap (zdF s.ws).toArray 2 (zdF xs) Tryz.underlying76 zln h.zey (by rw[zbJ];exact hn) (fun j v hj=>by
   rw[zht]at hj;obtain ⟨x,hx,rfl⟩:=zxT.1 hj;exact hc j x hx) (by simp[zbJ];exact hfit) (zlW xs)
  refine ⟨_,?_,h.splice off xs hfit,(Fr.refl _ _).setRow wb _ (.inr rfl)⟩;rw[hrun,zbJ];simp[]
theorem zd7(h:SAt w mb wb tl s)(hd:Int)(xs:List Int)(sp:Option Addr)(cp:Nat)(hf:s.free+1+xs.length<=s.ws.length)(hsrc:0<xs.length->∃ ad,sp=some ad/\∀ (W:World),SAt W mb wb tl { s with ws:=s.ws.set s.free hd }->Fr (M2 mb wb) w W->∀ (j:Nat) x,xs[j]?=some x->W.cell? (ad.add j)=some (.int .i64 x)):
  Calls Tryz.prog 74 #[.pointer (some ⟨mb,0,none⟩),.int .i64 hd,.slice sp xs.length cp] w fun e w'=>e=.returned (.int .i64 s.free)/\SAt w' mb wb tl { s with free:=s.free+1+xs.length,ws:=Go.splice (s.ws.set s.free hd) (s.free+1) xs }/\Fr (M2 mb wb) w w':=by
 obtain ⟨ws,hh,lo,a,tp⟩:=s;simp only at hf hsrc ⊢;have hlen:ws.length<=1000000:=h.len;have hal:a<ws.length:=by omega
 have H1:=zab (h.zcB a hd);have c0:w.cell? ⟨mb,0,none⟩=some (.slice (some ⟨wb,0,none⟩) ws.length ws.length):=h.c0;have c3:w.cell? ⟨mb,3,none⟩=some (.int .i64 a):=h.c3;have ca:w.cell? ⟨wb,a,none⟩=some (.int .i64 ws[a]):=h.zi6 (i:=a) hal;have fa:=h.zey.frozen a;have HP:Hid (Fr (M2 mb wb) w (w.setCell ⟨wb,a,none⟩ (.int .i64 hd))):=zab ((Fr.refl _ _).set _ _ (.inl (.inr rfl)));have HS:=zab hsrc;have hoth:=zcg h.ne;have hb1:(a:Int)+1<=(ws.length:Int):=by omega
 have hb2:(0:Int)<=(a:Int):=by omega
 have hb3:(a:Int)+1+(xs.length:Int)<=1000000:=by omega
 clear h hsrc;by_cases hr:ws.length=a+1
 ·have hx:xs=[]:=zyo (by omega);subst hx;obtain ⟨w2,hrun,h2,f2⟩:=ziC H1.o 3 0 0 0 0 cp sp [] (by simp) (fun h=>absurd h (by simp)) (by simp);have H2:=zab h2;have F2:=zab (HP.o.trans f2);have e3:=h2.c3;have g3:=h2.blk.frozen 3;simp only at e3;clear h2 f2 HS;go_enter Tryz.func74,Tryz.ntmps74
  go_wp2_with fail
  go_ret
  refine ⟨rfl,?_,F2.o.set _ _ (.inl (.inl rfl))⟩;have:=H2.o.zke (a+1) (by omega);simpa [splice] using this
 ·obtain ⟨w2,hrun,h2,f2⟩:=ziC H1.o 3 (a+1) (ws.length-(a+1)) (ws.length-(a+1)) xs.length cp sp xs (by simp[Nat.min_def];omega) (fun h0=>by
   obtain ⟨ad,q1,q2⟩:=HS.o h0;exact ⟨ad,q1,q2 _ H1.o HP.o⟩) (by simp;omega)
  have H2:=zab h2;have F2:=zab (HP.o.trans f2);have e3:=h2.c3;have g3:=h2.blk.frozen 3;simp only at e3;clear h2 f2 HS;go_enter Tryz.func74,Tryz.ntmps74
  go_wp2_with fail
  go_ret
  refine ⟨rfl,?_,F2.o.set _ _ (.inl (.inl rfl))⟩;have:=H2.o.zke (a+1+xs.length) (by omega);rw[show ((a+1+xs.length:Nat):Int)=(a:Int)+(1+(xs.length:Int)) by omega]at this;exact this
end Go.Proofs.YtgahgkddaljmkaaGreatDoor
