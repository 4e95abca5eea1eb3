/- Scope1 .. Cmp1 -/
import Derived.Test.YtgahgkddaljmkaaGreatDoorV13
import Derived.Deep.RegionWith
import Derived.Deep.DrawnRows
import Derived.Test.YtgahgkddaljmkaaGreatDoorV0
import Derived.Shelf.Spec.SlicesGrow
import Derived.Deep.AppendSrc
import Derived.Test.YtgahgkddaljmkaaGreatDoorV10
import Derived.Test.YtgahgkddaljmkaaGreatDoorV1
set_option maxRecDepth 100000
set_option maxHeartbeats 4000000
namespace Go.Proofs.YtgahgkddaljmkaaGreatDoor
open Go.RowKit
def strCells (l:List (List UInt8)):List Value:=l.map fun s=>.string ⟨s.toArray⟩
def after (o:Option Nat) (l:List Nat):Option Nat:=match o with|some p=>some p|none=>l.head?
theorem zb0(o:Option Nat):after o []=o:=by cases o <;> rfl
theorem zaP(o:Option Nat)(a b:List Nat):after o (a++b)=after (after o a) b:=by
 cases o with
 |some p=>rfl
 |none=>cases a <;> rfl
def Chk (w:World) (c:Nat) (o:Option Nat):Prop:=Blk w c [.bool o.isSome,.int .i64 (o.getD 0)] 140
variable {w w':World}
variable {c:Nat}
variable {o:Option Nat}
theorem Chk.gb(h:Chk w c o){row:Option Nat}(hg:w.grownBy w' row)(hr:some c≠row):Chk w' c o:=Blk.grown h hg hr
theorem Chk.below{w w':World}{c:Nat}{o:Option Nat}(h:Chk w c o)(hb:Below w.heap.size w w'):Chk w' c o:=Blk.below h hb (Blk.lt h)
theorem Chk.lt{w:World}{c:Nat}{o:Option Nat}(h:Chk w c o):c<w.heap.size:=Blk.lt h
theorem zob(h:Chk w c o)(s:ByteArray)(p:Nat):
  Calls Tryz.prog 120 #[.pointer (some ⟨c,0,none⟩),.agg #[.string s,.int .i64 p]] w fun e w'=>e=.returned (.tuple #[])/\Chk w' c (after o [p])/\w.grownBy w' (some c):=by
 have hl:=h.lt;have c0:=Blk.cell h 0;have c1:=Blk.cell h 1;have f0:=Blk.frozen h 0;have f1:=Blk.frozen h 1;have H:=zab h;simp at c0 c1;clear h;cases o with
 |some q=>
  go_enter Tryz.func120,Tryz.ntmps120
  go_wp2_with fail
  go_end0
  exact ⟨rfl,Blk.alloc H.o _,zag _ _ _⟩
 |none=>
  go_enter Tryz.func120,Tryz.ntmps120
  go_wp2_with fail
  go_end0
  refine ⟨rfl,?_,?_⟩
  ·exact ((Blk.set H.o 0 (.bool true)).set 1 (.int .i64 p)).alloc _
  ·exact zad (zad (zaS _ _ _ _) (zaS _ _ _ _)) (zag _ _ _)
variable {base n:Nat}
variable {e:TypeId}
variable {xs:List Value}
theorem zg7{g cap i:Nat}(h:w.ownsRow base e 1 (.slice (some ⟨g,0,none⟩) n cap) n xs)(hi:i<=n):w.ownsRow base e 1 (.slice (some ⟨g,0,none⟩) i cap) i (xs.take i):=by
 obtain ⟨h1,h2⟩:=h;refine ⟨by simp at h1 ⊢;omega,?_⟩;rcases h2 with ⟨h2,_⟩|⟨g',cap',cur,hv,hg,hh,hn,hm,hs,ht⟩
 ·cases h2
 ·cases hv;refine .inr ⟨g,cap,cur,rfl,hg,hh,by omega,hm,hs,?_⟩;rw[<-ht,zzk];congr 1;omega
theorem znI(l:List (List UInt8))(x:ByteArray):Lib.containsS (l.map fun s=>(⟨s.toArray⟩:ByteArray)) x=l.contains x.data.toList:=by
 rw[zy6,Lib.containsS_iff];simp only[zyW,List.contains_iff_mem];constructor
 ·rintro ⟨s,hs,rfl⟩;simpa using hs
 ·intro h;exact ⟨x.data.toList,h,by cases x;simp⟩
variable {v:Value}
variable {l:List (List UInt8)}
theorem zcI(h:w.ownsRow base 9 1 v l.length (strCells l))(hl:l.length<=1000000)(x:ByteArray):
  Calls Tryz.prog 119 #[v,.string x] w fun e w'=>e=.returned (.bool (l.contains x.data.toList))/\w'=w:=by
 have h0:=h;rcases h.2 with ⟨rfl,hn⟩|⟨g,cap,cur,rfl,hg,hh,hn,hm,hs,ht⟩
 ·have:l=[]:=zyj.1 hn;subst this;exact (Tryz.slices_Contains_string_empty none 0 x w).mono fun e w' hw=>by simpa using hw
 ·refine (Tryz.slices_Contains_string g 0 l.length cap (l.map fun s=>(⟨s.toArray⟩:ByteArray)) x w (by simp) (by omega) ?_).mono ?_
  ·intro j hj;simp at hj;have:=h0.cellAt j (by omega);rw[zyC,this];simp[strCells,hj]
  ·rintro e w' ⟨rfl,rfl⟩;rw[zx4 (by simp),znI];exact ⟨rfl,rfl⟩
theorem zgY(h:Chk w c o)(s:ByteArray)(p:Nat)(hr:w.ownsRow base 9 1 v l.length (strCells l))(hl:l.length<=1000000):
  Calls Tryz.prog 69 #[.pointer (some ⟨c,0,none⟩),.agg #[.string s,.int .i64 p],v] w fun e w'=>e=.returned (.tuple #[])/\Chk w' c (after o (if l.contains s.data.toList then [p] else []))/\w.grownBy w' (some c):=by
 have H:=zab h;have hl0:=h.lt;have hrow:=hr.alloc (.cells #[.string s,.int .i64 p] 88);have hsh:v=.slice none 0 0\/∃ g cap,v=.slice (some ⟨g,0,none⟩) l.length cap:=zan (Row.zaE hr);clear h hr;cases hc:l.contains s.data.toList
 ·have HC:=zab hc;clear hc;rcases hsh with rfl|⟨g,cap,rfl⟩
  all_goals
   go_enter Tryz.func69,Tryz.ntmps69
   go_wp2_with fail
   refine (zcI hrow hl s).mono ?_;rintro e w1 ⟨rfl,rfl⟩;rw[HC.o];go_wp2_with fail
   go_end0
   refine ⟨rfl,?_,zag _ _ _⟩;simp only[zb0];exact Blk.alloc H.o _
 ·have HC:=zab hc;clear hc;rcases hsh with rfl|⟨g,cap,rfl⟩
  all_goals
   go_enter Tryz.func69,Tryz.ntmps69
   go_wp2_with fail
   refine (zcI hrow hl s).mono ?_;rintro e w1 ⟨rfl,rfl⟩;rw[HC.o];go_wp2_with fail
   refine (zob (Blk.alloc H.o _) s p).mono ?_;rintro e w2 ⟨rfl,h2,hg2⟩;have H2:=zab (And.intro h2 (zad (zag _ _ _) hg2));clear h2 hg2;go_wp2_with fail
   go_end0
   exact ⟨rfl,H2.o.1,H2.o.2⟩
theorem zdI:∀ (l:List Th.Tok) (i:Nat) (t:Th.Tok),l[i]?=some t->(zaj l)[i*2]?=some (.string ⟨t.s.toArray⟩)/\(zaj l)[i*2+1]?=some (.int .i64 t.at_)
 |[],i,t,h=>by simp at h
 |x::l,0,t,h=>by
  simp only[zyh,zxL]at h;subst h;exact ⟨rfl,rfl⟩
 |x::l,i+1,t,h=>by
  have ih:=zdI l i t (by simpa using h);have e:∀ c,(zaj (x::l))[(i+1)*2+c]?=(zaj l)[i*2+c]?:=by
   intro c;rw[show zaj (x::l)=zbL x++zaj l from rfl,zxZ (by simp[zbL];omega)];congr 1;simp[zbL];omega
  refine ⟨?_,?_⟩
  ·have:=e 0;simp only[zyK]at this;rw[this];exact ih.1
  ·rw[e 1];exact ih.2
theorem zbB:∀ (l:List Th.Tok) (vs:List Value) (i:Nat) (t:Th.Tok) (v:Value),l[i]?=some t->vs[i]?=some v->(zaM l vs)[i*3]?=some (.string ⟨t.s.toArray⟩)/\(zaM l vs)[i*3+1]?=some (.int .i64 t.at_)/\(zaM l vs)[i*3+2]?=some v
 |[],_,i,t,v,h,_=>by simp at h
 |_::_,[],i,t,v,_,h=>by simp at h
 |x::l,y::vs,0,t,v,h,h2=>by
  simp only[zyh,zxL]at h h2;subst h h2;exact ⟨rfl,rfl,rfl⟩
 |x::l,y::vs,i+1,t,v,h,h2=>by
  have ih:=zbB l vs i t v (by simpa using h) (by simpa using h2);have e:∀ c,(zaM (x::l) (y::vs))[(i+1)*3+c]?=(zaM l vs)[i*3+c]?:=by
   intro c;rw[zaM,zxZ (by simp;omega)];congr 1;simp;omega
  refine ⟨?_,?_,?_⟩
  ·have:=e 0;simp only[zyK]at this;rw[this];exact ih.1
  ·rw[e 1];exact ih.2.1
  ·rw[e 2];exact ih.2.2
theorem zdu:∀ (l:List (Nat × List Th.Tok)) (ns vs:List Value) (i:Nat) (a:Nat × List Th.Tok) (n v:Value),l[i]?=some a->ns[i]?=some n->vs[i]?=some v->(za7 l ns vs)[i*3]?=some (.int .i64 a.1)/\(za7 l ns vs)[i*3+1]?=some n/\(za7 l ns vs)[i*3+2]?=some v
 |[],_,_,i,_,_,_,h,_,_=>by simp at h
 |_::_,[],_,i,_,_,_,_,h,_=>by simp at h
 |_::_,_::_,[],i,_,_,_,_,_,h=>by simp at h
 |x::l,m::ns,y::vs,0,a,n,v,h,h2,h3=>by
  simp only[zyh,zxL]at h h2 h3;subst h h2 h3;exact ⟨rfl,rfl,rfl⟩
 |x::l,m::ns,y::vs,i+1,a,n,v,h,h2,h3=>by
  have ih:=zdu l ns vs i a n v (by simpa using h) (by simpa using h2) (by simpa using h3);have e:∀ c,(za7 (x::l) (m::ns) (y::vs))[(i+1)*3+c]?=(za7 l ns vs)[i*3+c]?:=by
   intro c;rw[za7,zxZ (by simp;omega)];congr 1;simp;omega
  refine ⟨?_,?_,?_⟩
  ·have:=e 0;simp only[zyK]at this;rw[this];exact ih.1
  ·rw[e 1];exact ih.2.1
  ·rw[e 2];exact ih.2.2
theorem zcn:∀ (l:List Th.zbq) (ns vs:List Value) (i:Nat) (a:Th.zbq) (n v:Value),l[i]?=some a->ns[i]?=some n->vs[i]?=some v->(zaQ l ns vs)[i*4]?=some (.string ⟨a.name.s.toArray⟩)/\(zaQ l ns vs)[i*4+1]?=some (.int .i64 a.name.at_)/\(zaQ l ns vs)[i*4+2]?=some n/\(zaQ l ns vs)[i*4+3]?=some v
 |[],_,_,i,_,_,_,h,_,_=>by simp at h
 |_::_,[],_,i,_,_,_,_,h,_=>by simp at h
 |_::_,_::_,[],i,_,_,_,_,_,h=>by simp at h
 |x::l,m::ns,y::vs,0,a,n,v,h,h2,h3=>by
  simp only[zyh,zxL]at h h2 h3;subst h h2 h3;exact ⟨rfl,rfl,rfl,rfl⟩
 |x::l,m::ns,y::vs,i+1,a,n,v,h,h2,h3=>by
  have ih:=zcn l ns vs i a n v (by simpa using h) (by simpa using h2) (by simpa using h3);have e:∀ c,(zaQ (x::l) (m::ns) (y::vs))[(i+1)*4+c]?=(zaQ l ns vs)[i*4+c]?:=by
   intro c;rw[zaQ,zxZ (by simp;omega)];congr 1;simp;omega
  refine ⟨?_,?_,?_,?_⟩
  ·have:=e 0;simp only[zyK]at this;rw[this];exact ih.1
  ·rw[e 1];exact ih.2.1
  ·rw[e 2];exact ih.2.2.1
  ·rw[e 3];exact ih.2.2.2
theorem zeN:(Tryz.prog.info? 9).map (fun i=>(i.zero,i.size,i.bytes))=some (some (.string ⟨#[]⟩),1,16):=by kernel_rfl
theorem zej(l:List (List UInt8))(s:List UInt8):strCells (l++[s])=strCells l++[.string ⟨s.toArray⟩]:=by simp[strCells]
theorem zaJ{α:Type}{l:List α}{k:Nat}{t:α}(h:l[k]?=some t):l.take (k+1)=l.take k++[t]:=by
 rw[zzh,h];rfl
variable {S:Nat->Prop}
theorem zeE{nv:Value}{l:List Th.Tok}(hr:Row S w 88 2 nv l.length (zaj l))(hl:l.length<=1000000):
  Calls Tryz.prog 52 #[nv] w fun e w'=>∃ v,e=.returned v/\w'.ownsRow w.heap.size 9 1 v l.length (strCells (Th.texts l))/\Below w.heap.size w w':=by
 obtain ⟨i0,hi,hz0,hz1,hz2⟩:=info_parts zeN;have HI:=zab hi;clear hi;have HZ:=zab (And.intro hz0 (And.intro hz1 hz2));clear hz0 hz1 hz2;have HR:=zab hr;rcases zan hr with hv|⟨g,cap,hv⟩
 ·have hl0:l=[]:=by
   rcases hr.1.2 with ⟨_,h0⟩|⟨_,_,_,h0,_⟩
   ·exact zyj.1 h0
   ·rw[hv]at h0;cases h0
  subst hv hl0;clear hr HR;go_enter Tryz.func52,Tryz.ntmps52
  go_wp2_with fail
  refine wp_loop_rounds 1 ?_;rw[rounds_succ];go_wp2_with fail
  go_ret
  exact ⟨_,rfl,World.ownsRow_nil _ _ _ _,Below.refl _ _⟩
 ·subst hv;clear hr;go_enter Tryz.func52,Tryz.ntmps52
  go_wp2_with fail
  go_loopg [3,8] l.length (fun gk v i wr=>∃ k:Nat,i=.int .i64 k/\k<=l.length/\l.length-k<=gk/\wr.ownsRow w.heap.size 9 1 v k (strCells (Th.texts (l.take k)))/\Below w.heap.size w wr)
  case atStart=>exact ⟨0,rfl,zx1 _,by omega,World.ownsRow_nil _ _ _ _,Below.refl _ _⟩
  case round=>
   obtain ⟨k,rfl,hk,hgk,hown,hb⟩:=hrel;have Ho:=zab hown;have Hb:=zab hb;have hsz:=hb.size;by_cases hlt:k<l.length
   ·obtain ⟨t,ht⟩:∃ t,l[k]?=some t:=⟨l[k],zxI hlt⟩;have hc:=zdI l k t ht;have hrow:=HR.o.1.kept (zaf none hb) (zfu _);have c0:=(hrow.cellAt (k*2) (by omega)).trans hc.1;have c1:=(hrow.cellAt (k*2+1) (by omega)).trans hc.2;have hg:=(hrow.lt g rfl).2;have Ht:=zab (zaJ ht);have hown2:=(hown.alloc (.cells #[.string ⟨t.s.toArray⟩,.int .i64 t.at_] 88)).alloc (.cells #[.string ⟨t.s.toArray⟩] 9);clear hown hb ht hc hrow;go_wp2_with (at_builtin;refine wpList_append_own _ rfl _ _ 38 rfl w.heap.size 9 i0 _ 1 16 Tryz.underlying38 HI.o HZ.o.1 HZ.o.2.1 HZ.o.2.2 rfl (by decide) _ _ _ rfl hown2 ⟨wr.heap.size+1,0,none⟩ 1 1 [.string ⟨t.s.toArray⟩] rfl rfl (World.news_of_block (cs:=#[.string ⟨t.s.toArray⟩]) (t:=9) (fr:=(0,0)) (by have:=heap_alloc_new (wr.alloc (.cells #[.string ⟨t.s.toArray⟩,.int .i64 t.at_] 88)) (.cells #[.string ⟨t.s.toArray⟩] 9);simpa using this)) (by simp[Value.oneCell']) (by unfold maxLen;omega) (by omega) (by simp;omega) ?_;intro v' w3 hown' hgrow _)
    go_roundg (l.length-(k+1))
    case measure=>omega
    case rel=>
     refine ⟨k+1,by go_num,by omega,zxJ _,?_,zbi (zi4 (zad (zad (zaf none Hb.o) (zag _ _ _)) (zag _ _ _)) hown2 hgrow)⟩;rw[Ht.o,show Th.texts (l.take k++[t])=Th.texts (l.take k)++[t.s] from by simp[Th.texts],zej];exact hown'
   ·have hk2:k=l.length:=by omega
    have Hk:=zab hk2;clear hown hb hk2;go_wp2_with fail
    go_ret
    refine ⟨_,rfl,?_,Hb.o⟩;have ho:=Ho.o;rw[Hk.o,zx4 (zxJ _)]at ho;exact ho
theorem zsj :∀ {n:Nat} {v:Value} {e:Th.Ex},Rep S w n v e->One v
 |0,_,_,h=>h.elim
 |n+1,v,e,h=>by
  rcases h with ⟨_,h⟩|⟨_,h⟩|⟨_,h⟩|⟨_,_,_,_,_,h,_⟩|⟨_,_,_,_,_,_,h,_⟩|⟨_,_,_,_,_,_,h,_⟩|⟨_,_,_,_,_,_,_,h,_⟩|⟨_,_,_,_,_,_,_,_,h,_⟩
  all_goals exact ⟨.inr ⟨_,_,h⟩⟩
theorem zdL{pv:Value}{l:List Th.zbq}{nvs bvs:List Value}(hr:Row S w 93 4 pv l.length (zaQ l nvs bvs))(h1:nvs.length=l.length)(h2:bvs.length=l.length)(ho:∀ (i:Nat) (nv bv:Value),nvs[i]?=some nv->bvs[i]?=some bv->nv.oneCell'=true/\bv.oneCell'=true)(hl:l.length<=1000000):
  Calls Tryz.prog 49 #[pv] w fun e w'=>∃ v,e=.returned v/\w'.ownsRow w.heap.size 9 1 v l.length (strCells (Th.zaq l))/\Below w.heap.size w w':=by
 obtain ⟨i0,hi,hz0,hz1,hz2⟩:=info_parts zeN;have HI:=zab hi;clear hi;have HZ:=zab (And.intro hz0 (And.intro hz1 hz2));clear hz0 hz1 hz2;have HR:=zab hr;rcases zan hr with hv|⟨g,cap,hv⟩
 ·have hl0:l=[]:=by
   rcases hr.1.2 with ⟨_,h0⟩|⟨_,_,_,h0,_⟩
   ·exact zyj.1 h0
   ·rw[hv]at h0;cases h0
  subst hv hl0;clear hr HR ho h1 h2;go_enter Tryz.func49,Tryz.ntmps49
  go_wp2_with fail
  refine wp_loop_rounds 1 ?_;rw[rounds_succ];go_wp2_with fail
  go_ret
  exact ⟨_,rfl,World.ownsRow_nil _ _ _ _,Below.refl _ _⟩
 ·subst hv;have HO:=zab ho;have H1:=zab h1;have H2:=zab h2;clear hr ho h1 h2;go_enter Tryz.func49,Tryz.ntmps49
  go_wp2_with fail
  go_loopg [3,8] l.length (fun gk v i wr=>∃ k:Nat,i=.int .i64 k/\k<=l.length/\l.length-k<=gk/\wr.ownsRow w.heap.size 9 1 v k (strCells (Th.zaq (l.take k)))/\Below w.heap.size w wr)
  case atStart=>exact ⟨0,rfl,zx1 _,by omega,World.ownsRow_nil _ _ _ _,Below.refl _ _⟩
  case round=>
   obtain ⟨k,rfl,hk,hgk,hown,hb⟩:=hrel;have Ho:=zab hown;have Hb:=zab hb;have hsz:=hb.size;by_cases hlt:k<l.length
   ·obtain ⟨t,ht⟩:∃ t,l[k]?=some t:=⟨l[k],zxI hlt⟩;obtain ⟨nv,hnv⟩:∃ nv,nvs[k]?=some nv:=⟨_,zxI (by rw[H1.o];exact hlt)⟩;obtain ⟨bv,hbv⟩:∃ bv,bvs[k]?=some bv:=⟨_,zxI (by rw[H2.o];exact hlt)⟩;have hc:=zcn l nvs bvs k t nv bv ht hnv hbv;have hon:=(HO.o k nv bv hnv hbv).1;have hob:=(HO.o k nv bv hnv hbv).2;have sn:=fun (W:World) (a:Addr) (m:Mode)=>run_store Tryz.prog W a nv m hon
    have sb:=fun (W:World) (a:Addr) (m:Mode)=>run_store Tryz.prog W a bv m hob
    have hrow:=HR.o.1.kept (zaf none hb) (zfu _);have c0:=(hrow.cellAt (k*4) (by omega)).trans hc.1;have c1:=(hrow.cellAt (k*4+1) (by omega)).trans hc.2.1;have c2:=(hrow.cellAt (k*4+2) (by omega)).trans hc.2.2.1;have c3:=(hrow.cellAt (k*4+3) (by omega)).trans hc.2.2.2;have hg:=(hrow.lt g rfl).2;have Ht:=zab (zaJ ht);have hown2:=(hown.alloc (.cells #[.string ⟨t.name.s.toArray⟩,.int .i64 t.name.at_,nv,bv] 93)).alloc (.cells #[.string ⟨t.name.s.toArray⟩] 9);clear hown hb ht hc hrow hnv hbv;go_wp2_with (at_builtin;refine wpList_append_own _ rfl _ _ 38 rfl w.heap.size 9 i0 _ 1 16 Tryz.underlying38 HI.o HZ.o.1 HZ.o.2.1 HZ.o.2.2 rfl (by decide) _ _ _ rfl hown2 ⟨wr.heap.size+1,0,none⟩ 1 1 [.string ⟨t.name.s.toArray⟩] rfl rfl (World.news_of_block (cs:=#[.string ⟨t.name.s.toArray⟩]) (t:=9) (fr:=(0,0)) (by have:=heap_alloc_new (wr.alloc (.cells #[.string ⟨t.name.s.toArray⟩,.int .i64 t.name.at_,nv,bv] 93)) (.cells #[.string ⟨t.name.s.toArray⟩] 9);simpa using this)) (by simp[Value.oneCell']) (by unfold maxLen;omega) (by omega) (by simp;omega) ?_;intro v' w3 hown' hgrow _)
    go_roundg (l.length-(k+1))
    case measure=>omega
    case rel=>
     refine ⟨k+1,by go_num,by omega,zxJ _,?_,zbi (zi4 (zad (zad (zaf none Hb.o) (zag _ _ _)) (zag _ _ _)) hown2 hgrow)⟩;rw[Ht.o,show Th.zaq (l.take k++[t])=Th.zaq (l.take k)++[t.name.s] from by simp[Th.zaq],zej];exact hown'
   ·have hk2:k=l.length:=by omega
    have Hk:=zab hk2;clear hown hb hk2;go_wp2_with fail
    go_ret
    refine ⟨_,rfl,?_,Hb.o⟩;have ho:=Ho.o;rw[Hk.o,zx4 (zxJ _)]at ho;exact ho
theorem zcY{pv:Value}{l:List Th.Tok}{pvs:List Value}{rb:Bool}{bt:TypeId}{bx:Value}(hr:Row S w 312 3 pv l.length (zaM l pvs))(h1:pvs.length=l.length)(ho:∀ (i:Nat) (bv:Value),pvs[i]?=some bv->bv.oneCell'=true)(hl:l.length<=1000000):
  Calls Tryz.prog 197 #[.agg #[.bool rb,pv,.iface bt bx]] w fun e w'=>∃ v,e=.returned v/\w'.ownsRow w.heap.size 9 1 v l.length (strCells (Th.texts l))/\Below w.heap.size w w':=by
 obtain ⟨i0,hi,hz0,hz1,hz2⟩:=info_parts zeN;have HI:=zab hi;clear hi;have HZ:=zab (And.intro hz0 (And.intro hz1 hz2));clear hz0 hz1 hz2;have HR:=zab hr;rcases zan hr with hv|⟨g,cap,hv⟩
 ·have hl0:l=[]:=by
   rcases hr.1.2 with ⟨_,h0⟩|⟨_,_,_,h0,_⟩
   ·exact zyj.1 h0
   ·rw[hv]at h0;cases h0
  subst hv hl0;clear hr HR ho h1;go_enter Tryz.func197,Tryz.ntmps197
  go_wp2_with fail
  refine wp_loop_rounds 1 ?_;rw[rounds_succ];go_wp2_with fail
  go_ret
  exact ⟨_,rfl,World.ownsRow_nil _ _ _ _,zam _ _⟩
 ·subst hv;have HO:=zab ho;have H1:=zab h1;clear hr ho h1;go_enter Tryz.func197,Tryz.ntmps197
  go_wp2_with fail
  go_loopg [3,9] l.length (fun gk v i wr=>∃ k:Nat,i=.int .i64 k/\k<=l.length/\l.length-k<=gk/\wr.ownsRow w.heap.size 9 1 v k (strCells (Th.texts (l.take k)))/\Below w.heap.size w wr)
  case atStart=>exact ⟨0,rfl,zx1 _,by omega,World.ownsRow_nil _ _ _ _,zam _ _⟩
  case round=>
   obtain ⟨k,rfl,hk,hgk,hown,hb⟩:=hrel;have Ho:=zab hown;have Hb:=zab hb;have hsz:=hb.size;by_cases hlt:k<l.length
   ·obtain ⟨t,ht⟩:∃ t,l[k]?=some t:=⟨l[k],zxI hlt⟩;obtain ⟨bv,hbv⟩:∃ bv,pvs[k]?=some bv:=⟨_,zxI (by rw[H1.o];exact hlt)⟩;have hc:=zbB l pvs k t bv ht hbv;have hob:=HO.o k bv hbv;have sb:=fun (W:World) (a:Addr) (m:Mode)=>run_store Tryz.prog W a bv m hob
    have hrow:=HR.o.1.kept (zaf none hb) (zfu _);have c0:=(hrow.cellAt (k*3) (by omega)).trans hc.1;have c1:=(hrow.cellAt (k*3+1) (by omega)).trans hc.2.1;have c2:=(hrow.cellAt (k*3+2) (by omega)).trans hc.2.2;have hg:=(hrow.lt g rfl).2;have Ht:=zab (zaJ ht);have hown2:=(hown.alloc (.cells #[.string ⟨t.s.toArray⟩,.int .i64 t.at_,bv] 312)).alloc (.cells #[.string ⟨t.s.toArray⟩] 9);clear hown hb ht hc hrow hbv;go_wp2_with (at_builtin;refine wpList_append_own _ rfl _ _ 38 rfl w.heap.size 9 i0 _ 1 16 Tryz.underlying38 HI.o HZ.o.1 HZ.o.2.1 HZ.o.2.2 rfl (by decide) _ _ _ rfl hown2 ⟨wr.heap.size+1,0,none⟩ 1 1 [.string ⟨t.s.toArray⟩] rfl rfl (World.news_of_block (cs:=#[.string ⟨t.s.toArray⟩]) (t:=9) (fr:=(0,0)) (by have:=heap_alloc_new (wr.alloc (.cells #[.string ⟨t.s.toArray⟩,.int .i64 t.at_,bv] 312)) (.cells #[.string ⟨t.s.toArray⟩] 9);simpa using this)) (by simp[Value.oneCell']) (by unfold maxLen;omega) (by omega) (by simp;omega) ?_;intro v' w3 hown' hgrow _)
    go_roundg (l.length-(k+1))
    case measure=>omega
    case rel=>
     refine ⟨k+1,by go_num,by omega,zxJ _,?_,zbi (zi4 (zad (zad (zaf none Hb.o) (zag _ _ _)) (zag _ _ _)) hown2 hgrow)⟩;rw[Ht.o,show Th.texts (l.take k++[t])=Th.texts (l.take k)++[t.s] from by simp[Th.texts],zej];exact hown'
   ·have hk2:k=l.length:=by omega
    have Hk:=zab hk2;clear hown hb hk2;go_wp2_with fail
    go_ret
    refine ⟨_,rfl,?_,Hb.o⟩;have ho:=Ho.o;rw[Hk.o,zx4 (zxJ _)]at ho;exact ho
end Go.Proofs.YtgahgkddaljmkaaGreatDoor
namespace Go.Proofs.YtgahgkddaljmkaaGreatDoor
open Go.RowKit
attribute [local go_sem ↓] Go.wp_at_zero Go.wp_at_succ
theorem zne:∀ (seen:List (List UInt8)) (l:List Th.Tok) (t:Th.Tok),Th.zjd seen (l++[t])=Th.zjd seen l++(if (seen++Th.texts l).contains t.s then [t.at_] else [])
 |seen,[],t=>by simp[Th.zjd,Th.texts]
 |seen,x::l,t=>by
  simp only[zx5,Th.zjd];rw[zne (seen++[x.s]) l t];simp[Th.texts]
theorem zer(l:List Th.Tok)(k:Nat):(strCells (Th.texts l)).take k=strCells (Th.texts (l.take k)):=by simp[strCells,Th.texts]
variable {w:World}
variable {c:Nat}
variable {o:Option Nat}
variable {S:Nat->Prop}
theorem zib(h:Chk w c o){nv:Value}{l:List Th.Tok}(hr:Row S w 88 2 nv l.length (zaj l))(hS:¬ S c)(hl:l.length<=1000000):
  Calls Tryz.prog 70 #[.pointer (some ⟨c,0,none⟩),nv] w fun e w'=>e=.returned (.tuple #[])/\Chk w' c (after o (Th.zjd [] l))/\w.grownBy w' (some c):=by
 have hcl:=h.lt;have H:=zab h;have HR:=zab hr;have HS:=zab hS;have hsh:=zan hr;clear h hS;rcases hsh with hv|⟨g,cap,hv⟩
 ·have hl0:l=[]:=by
   rcases hr.1.2 with ⟨_,h0⟩|⟨_,_,_,h0,_⟩
   ·exact zyj.1 h0
   ·rw[hv]at h0;cases h0
  subst hv hl0;go_enter Tryz.func70,Tryz.ntmps70
  go_wp2_with fail
  refine (zeE hr hl).mono ?_;rintro e w1 ⟨v,rfl,hrow,hb⟩;have hsh2:=zan (Row.zaE hrow);have Hb:=zab hb;clear hr hrow hb;rcases hsh2 with rfl|⟨g2,cap2,rfl⟩
  all_goals
   go_wp2_with fail
   refine wp_loop_rounds 1 ?_;rw[rounds_succ];go_wp2_with fail
   go_end0
   exact ⟨rfl,by rw[show Th.zjd [] []=[] from rfl,zb0];exact H.o.below Hb.o,zaf _ Hb.o⟩
 ·subst hv;go_enter Tryz.func70,Tryz.ntmps70
  go_wp2_with fail
  refine (zeE hr hl).mono ?_;rintro e w1 ⟨v,rfl,hrow,hb⟩;have HT:=zab hrow;have Hb:=zab hb;have hz:=hb.size;have hsh2:v=.slice none 0 0\/∃ g2 cap2,v=.slice (some ⟨g2,0,none⟩) l.length cap2:=by simpa [Th.texts] using zan (Row.zaE hrow)
  clear hr hb hrow;rcases hsh2 with rfl|⟨g2,cap2,rfl⟩
  ·have hl0:l=[]:=by
    rcases HT.o.2 with ⟨_,h0⟩|⟨_,_,_,h0,_⟩
    ·exact zyj.1 h0
    ·cases h0
   subst hl0;go_wp2_with fail
   refine wp_loop_rounds 1 ?_;rw[rounds_succ];go_wp2_with fail
   go_end0
   exact ⟨rfl,by rw[show Th.zjd [] []=[] from rfl,zb0];exact H.o.below Hb.o,zaf _ Hb.o⟩
  ·have hcap2:l.length<=cap2:=by
    rcases HT.o.2 with ⟨h0,_⟩|⟨_,_,_,h0,_,_,hn,_⟩
    ·cases h0
    ·cases h0;exact hn
   go_wp2_with fail
   go_loopg [11] l.length (fun gk i wr=>∃ k:Nat,i=.int .i64 k/\k<=l.length/\l.length-k<=gk/\Chk wr c (after o (Th.zjd [] (l.take k)))/\w1.grownBy wr (some c))
   case atStart=>exact ⟨0,rfl,zx1 _,by omega,by rw[show Th.zjd [] (l.take 0)=[] from rfl,zb0];exact H.o.below Hb.o,zcR _ _⟩
   case round=>
    obtain ⟨k,rfl,hk,hgk,hch,hg⟩:=hrel;have Hch:=zab hch;have Hg:=zab hg;have hsz:=hg.size;by_cases hlt:k<l.length
    ·obtain ⟨t,ht⟩:∃ t,l[k]?=some t:=⟨l[k],zxI hlt⟩;have hc:=zdI l k t ht;have hrow:=((HR.o.gb (zaf none Hb.o) (by simp)).gb hg (fun j hj=>by cases hj;exact HS.o)).1;have c0:=(hrow.cellAt (k*2) (by omega)).trans hc.1;have c1:=(hrow.cellAt (k*2+1) (by omega)).trans hc.2;have hgl:=(hrow.lt g rfl).2;have Ht:=zab (zaJ ht);have hk0:(0:Int)<=(k:Int):=zyJ _;have hk1:(k:Int)<=(cap2:Int):=by omega
     have hT2:=zg7 (HT.o.kept hg (zdk HT.o hcl)) (i:=k) (by omega);rw[zer]at hT2;have HT3:Hid (wr.ownsRow w.heap.size 9 1 (.slice (some ⟨g2,0,none⟩) k cap2) (Th.texts (l.take k)).length (strCells (Th.texts (l.take k)))):=zab (by
      rw[show (Th.texts (l.take k)).length=k by simp[Th.texts];omega];exact hT2)
     have CON:=zab (fun (W:World) (hW:Chk W c (after o (Th.zjd [] (l.take k)))) (hR:W.ownsRow w.heap.size 9 1 (.slice (some ⟨g2,0,none⟩) k cap2) (Th.texts (l.take k)).length (strCells (Th.texts (l.take k))))=>zgY hW ⟨t.s.toArray⟩ t.at_ hR (by simp[Th.texts];omega));have Hd:Hid (Th.zjd [] (l.take (k+1))=Th.zjd [] (l.take k)++(if (Th.texts (l.take k)).contains t.s then [t.at_] else [])):=zab (by rw[Ht.o,zne];simp);clear hch hg ht hc hrow hT2;go_wp2_with fail
     go_region_with (go_at_call 69;refine (CON.o _ ?_ ?_).mono ?_;exact Blk.drew (Blk.alloc Hch.o _);exact (HT3.o.alloc _).drew;rintro e w3 ⟨rfl,h3,hg3⟩;have H3:=zab h3;have HG3:=zab hg3;clear h3 hg3)
     all_goals
      go_wp2_with fail
      go_roundg (l.length-(k+1))
      case measure=>omega
      case rel=>
       refine ⟨k+1,by go_num,by omega,zxJ _,?_,zad (zad (zad Hg.o (zag _ _ _)) (zbO _ _)) HG3.o⟩;rw[Hd.o,zaP];exact H3.o
    ·have hk2:k=l.length:=by omega
     have Hk:=zab hk2;clear hch hg hk2;go_wp2_with fail
     go_end0
     refine ⟨rfl,?_,zad (zaf _ Hb.o) Hg.o⟩;have ho:=Hch.o;rw[Hk.o,zx4 (zxJ _)]at ho;exact ho
end Go.Proofs.YtgahgkddaljmkaaGreatDoor
namespace Go.Proofs
open Go.Shelf
def Tryz.growS_ren:Go.Shelf.Ren:=⟨fun|4=>123|n=>n,fun|22=>38|25=>9|3=>3|4=>4|9=>9|20=>20|0=>0|n=>n,fun|n=>n⟩
theorem Tryz.growS:Go.Proofs.Lays8.n4 Tryz.prog Tryz.growS_ren:={
 mixed:=by kernel_rfl
 f4:=⟨Tryz.f123.name,by decide,Tryz.func123.trans (congrArg some (by kernel_rfl))⟩
 t0:=Tryz.underlying0
 a0:=Tryz.isAgg0
 z0:=Tryz.sizeOf0
 v0:=Tryz.zeroValue0
 t3:=Tryz.underlying3
 a3:=Tryz.isAgg3
 z3:=Tryz.sizeOf3
 v3:=Tryz.zeroValue3
 t4:=Tryz.underlying4
 a4:=Tryz.isAgg4
 z4:=Tryz.sizeOf4
 v4:=Tryz.zeroValue4
 t9:=Tryz.underlying9
 a9:=Tryz.isAgg9
 z9:=Tryz.sizeOf9
 v9:=Tryz.zeroValue9
 t20:=Tryz.underlying20
 a20:=Tryz.isAgg20
 z20:=Tryz.sizeOf20
 v20:=Tryz.zeroValue20
 t22:=Tryz.underlying38
 a22:=Tryz.isAgg38
 z22:=Tryz.sizeOf38
 v22:=Tryz.zeroValue38 }
end Go.Proofs
namespace Go.Proofs.YtgahgkddaljmkaaGreatDoor
open Go.RowKit
theorem zqz(w:World)(n:Nat)(hn:n<=4000000):
  Calls Tryz.prog 123 #[.slice none 0 0,.int .i64 n] w fun e w'=>∃ v,e=.returned v/\w'.ownsRow w.heap.size 9 1 v 0 []/\Below w.heap.size w w':=by
 obtain ⟨i0,hi,hz0,hz1,hz2⟩:=info_parts zeN;by_cases h0:n=0
 ·subst h0;refine (Any8.slices_Grow_room Tryz.growS none 0 0 0 w (by omega) (by omega) (by omega) (by omega)).mono ?_;rintro e w' ⟨rfl,rfl⟩;exact ⟨_,rfl,World.ownsRow_nil _ _ _ _,Below.refl _ _⟩
 ·refine (Any8.slices_Grow_grow Tryz.growS i0 _ hi hz0 (by omega) none 0 0 n [] w (by omega) (by omega) (by rw[hz2];omega) (by omega) (by simp) (fun _=>rfl) (fun a ha=>by cases ha)).mono ?_;rintro e w' ⟨rfl,rfl⟩;refine ⟨_,rfl,?_,zbi (zad (zbO _ _) (zag _ _ _))⟩;have:=World.ownsRow_made (e:=9) (base:=w.heap.size) (size:=1) w.drew (([]:List Value).toArray++Builtin.zeroCells (Value.string ⟨#[]⟩).cells (0+n-0)++Builtin.zeroCells (Value.string ⟨#[]⟩).cells (grownCap w (0+n) 0 9-(0+n))) (grownCap w (0+n) 0 9) (by simp) (grownCap_le_maxLen _ _ _ _ (by unfold maxLen;omega)) ?_
  ·exact this
  ·have:=grownCap_ge w (0+n) 0 9;rw[Array.size_append,Array.size_append,size_zeroCells,size_zeroCells];show 0+(0+n-0)*1+(_-(0+n))*1=_;omega
variable {l:List (List UInt8)}
theorem zeU :∀ u∈strCells l,u.oneCell'=true:=by
 intro u hu;obtain ⟨s,_,rfl⟩:=zyW.1 hu;rfl
variable {w:World}
variable {base:Nat}
variable {v x:Value}
variable {l1 l2:List (List UInt8)}
variable {S:Nat->Prop}
theorem zw8(ty:TypeId)(hv:w.ownsRow base 9 1 v l1.length (strCells l1))(hx:Row S w 9 1 x l2.length (strCells l2))(h1:l1.length<=2000000)(h2:l2.length<=2000000)(hb:base<=w.heap.size):
  ∃ v' w',(Builtin.append_ #[38,38] ty #[v,x]).run Tryz.prog w=.ok v' w'/\w'.ownsRow base 9 1 v' (l1++l2).length (strCells (l1++l2))/\w.grownBy w' v.ownBlock:=by
 obtain ⟨i0,hi,hz0,hz1,hz2⟩:=info_parts zeN;rcases zan hx with rfl|⟨g,cap,rfl⟩
 ·have hl0:l2=[]:=by
   rcases hx.1.2 with ⟨_,h0⟩|⟨_,_,_,h0,_⟩
   ·exact zyj.1 h0
   ·cases h0
  subst hl0;rcases zan (Row.zaE hv) with rfl|⟨g,cap,rfl⟩
  ·refine ⟨.slice none 0 0,w,by kernel_rfl,by simpa using hv,zcR _ _⟩
  ·refine ⟨.slice (some ⟨g,0,none⟩) l1.length cap,w,?_,by simpa using hv,zcR _ _⟩;have hcap:l1.length<=cap:=by
    rcases hv.2 with ⟨h0,_⟩|⟨_,_,_,h0,_,_,hn,_⟩
    ·cases h0
    ·cases h0;exact hn
   exact run_append_room_src (P:=Tryz.prog) w 38 38 ty 9 i0 Tryz.underlying38 hi g 0 l1.length cap (.slice none 0 0) 0 [] (Src.ofNil w Tryz.underlying38 0) (by omega) (by simp) (by simp)
 ·obtain ⟨v',w',hr,ho,hg,_⟩:=run_append_own (P:=Tryz.prog) w base 38 ty 9 i0 _ 1 16 Tryz.underlying38 hi hz0 hz1 hz2 rfl (by decide) v l1.length (strCells l1) hv ⟨g,0,none⟩ l2.length cap (strCells l2) (by simp[strCells]) (hx.1.cells (g:=g) rfl) zeU (by unfold maxLen;omega) (by omega) hb;refine ⟨v',w',hr,?_,hg⟩;rw[show strCells (l1++l2)=strCells l1++strCells l2 by simp[strCells],zxP];exact ho
theorem zfj{ops:Array Oper}{rest:List Oper}{o:Oper}{a:Act}{Q:Exit->Act->World->Prop}(hgd:o.guard=none)(s x:Operand)(ho:o.op=.call { callee:=.builtin .append,args:=#[s,x],argTypes:=#[38,38] }){xv:Value}(hs:a.eval s=v)(hxe:a.eval x=xv)(hv:w.ownsRow base 9 1 v l1.length (strCells l1))(hx:Row S w 9 1 xv l2.length (strCells l2))(h1:l1.length<=2000000)(h2:l2.length<=2000000)(hb:base<=w.heap.size)(h:∀ v' w',w'.ownsRow base 9 1 v' (l1++l2).length (strCells (l1++l2))->w.grownBy w' v.ownBlock->wpList Tryz.prog ops Q rest (a.put o.dst v') w'):wpList Tryz.prog ops Q (o::rest) a w:=
 wpList_plain hgd fun _ hK=>by
  obtain ⟨v',w',hr,h3,h4⟩:=zw8 o.type hv hx h1 h2 hb;unfold Oper.wp execOp;simp only[ho,resolve,invoke,builtin,Sem.run_bind,Sem.run_pure,Result.andThen_ok,List.map_toArray,zx6,List.map_nil,hs,hxe,hr];exact hK _ _ (h v' w' h3 h4)
theorem zlw{g:Nat}{y:Value}{S1 S2:Nat->Prop}(hb:Blk w g [x,y] 38)(hx:Row S1 w 9 1 x l1.length (strCells l1))(hy:Row S2 w 9 1 y l2.length (strCells l2))(h1:l1.length<=1000000)(h2:l2.length<=1000000):
  Calls Tryz.prog 72 #[.slice (some ⟨g,0,none⟩) 2 2] w fun e w'=>∃ v,e=.returned v/\w'.ownsRow w.heap.size 9 1 v (l1++l2).length (strCells (l1++l2))/\Below w.heap.size w w':=by
 have hl:=hb.lt;have H:=zab hb;have c0:=Blk.cell hb 0;have c1:=Blk.cell hb 1;simp at c0 c1;have HX:=zab hx;have HY:=zab hy;have hsx:=zan hx;have hsy:=zan hy;clear hb hx hy;have hx0:Hid (x=.slice none 0 0->l1.length=0):=zab (fun h=>by
  rcases HX.o.1.2 with ⟨_,h0⟩|⟨_,_,_,h0,_⟩
  ·exact h0
  ·rw[h]at h0;cases h0)
 have hy0:Hid (y=.slice none 0 0->l2.length=0):=zab (fun h=>by
  rcases HY.o.1.2 with ⟨_,h0⟩|⟨_,_,_,h0,_⟩
  ·exact h0
  ·rw[h]at h0;cases h0)
 obtain ⟨xa,n1,xc,rfl,hn1⟩:∃ xa n1 xc,x=.slice xa n1 xc/\n1=l1.length:=by
  rcases hsx with h|⟨g1,c1,h⟩
  ·exact ⟨_,_,_,h,(hx0.o h).symm⟩
  ·exact ⟨_,_,_,h,rfl⟩
 obtain ⟨ya,n2,yc,rfl,hn2⟩:∃ ya n2 yc,y=.slice ya n2 yc/\n2=l2.length:=by
  rcases hsy with h|⟨g1,c1,h⟩
  ·exact ⟨_,_,_,h,(hy0.o h).symm⟩
  ·exact ⟨_,_,_,h,rfl⟩
 have hn1':n1<=1000000:=by omega
 have hn2':n2<=1000000:=by omega
 have HN:=zab (And.intro hn1 hn2);clear hn1 hn2 hsx hsy h1 h2 hx0 hy0;go_enter Tryz.func72,Tryz.ntmps72
 go_wp2_with fail
 refine wp_loop_rounds 3 ?_;rw[rounds_succ];go_wp2_with fail
 have hsum:(0:Int)<=(n1:Int)+(n2:Int):=by omega
 rw[rounds_succ];go_wp2_with fail
 rw[rounds_succ];go_wp2_with fail
 have hgr:=zqz w (n1+n2) (by omega);rw[zym]at hgr;refine hgr.mono ?_;clear hgr;rintro e w1 ⟨v,rfl,hown,hb⟩;have d0:w1.cell? ⟨g,0,none⟩=some (.slice xa n1 xc):=(World.cell?_of_block (hb.block g hl)).trans c0;have d1:w1.cell? ⟨g,1,none⟩=some (.slice ya n2 yc):=(World.cell?_of_block (hb.block g hl)).trans c1;have C1:=zab c1;have HO:Hid (w1.ownsRow w.heap.size 9 1 v ([]:List (List UInt8)).length (strCells [])):=zab hown;have hX1:=HX.o.gb (zaf none hb) (by simp);have Hb:=zab hb;have hsz:=hb.size;rcases zan (Row.zaE hown) with rfl|⟨g2,cap2,rfl⟩
 all_goals
  clear hown hb c0 c1;go_wp2_with fail
  refine wp_loop_rounds 3 ?_;rw[rounds_succ];go_wp2_with (at_builtin;refine zfj rfl _ _ rfl rfl rfl HO.o hX1 (by simp) (by have:=HN.o;omega) (by omega) ?_;intro v2 w2 hown2 hgrow2)
  have hgw:w.grownBy w2 none:=zi4 (zaf none Hb.o) HO.o hgrow2;rw[zx7]at hown2;have e1:w2.cell? ⟨g,1,none⟩=some (.slice ya n2 yc):=hgw.cell C1.o (by simp);have hY2:=HY.o.gb hgw (by simp);have hsz2:=hgw.size;have HG:=zab hgw;have HO2:=zab hown2;have hs2:=zan (Row.zaE hown2);clear hgrow2 hgw hown2 d0 d1 hX1 HO;rcases hs2 with rfl|⟨g3,cap3,rfl⟩
  all_goals
   rw[rounds_succ];go_wp2_with (at_builtin;refine zfj rfl _ _ rfl rfl rfl HO2.o hY2 (by have:=HN.o;omega) (by have:=HN.o;omega) (by omega) ?_;intro v3 w3 hown3 hgrow3)
   have HG3:Hid (w.grownBy w3 none):=zab (zi4 HG.o HO2.o hgrow3);have HO3:=zab hown3;have hs3:=zan (Row.zaE hown3);clear hgrow3 hown3 hY2 HO2;rcases hs3 with rfl|⟨g4,cap4,rfl⟩
   all_goals
    rw[rounds_succ];go_wp2_with fail
    go_ret
    exact ⟨_,rfl,HO3.o,zbi HG3.o⟩
variable {e:TypeId}
variable {size n:Nat}
variable {xs:List Value}
theorem zae(h:Row S w e size v n xs):∃ a k c,v=.slice a k c:=by
 rcases zan h with h|⟨g,cap,h⟩
 ·exact ⟨_,_,_,h⟩
 ·exact ⟨_,_,_,h⟩
theorem zaF(h:w.ownsRow base e size v n xs):∃ a k c,v=.slice a k c:=zae (Row.zaE h)
theorem zah :∀ {n:Nat} {v:Value} {e:Th.Ex},Rep S w n v e->∃ t x,v=.iface t x
 |0,_,_,h=>h.elim
 |n+1,v,e,h=>by
  rcases h with ⟨_,h⟩|⟨_,h⟩|⟨_,h⟩|⟨_,_,_,_,_,h,_⟩|⟨_,_,_,_,_,_,h,_⟩|⟨_,_,_,_,_,_,h,_⟩|⟨_,_,_,_,_,_,_,h,_⟩|⟨_,_,_,_,_,_,_,_,h,_⟩
  all_goals exact ⟨_,_,h⟩
theorem zfz{y:Value}{S1 S2:Nat->Prop}(hx:Row S1 w 9 1 x l1.length (strCells l1))(hy:Row S2 w 9 1 y l2.length (strCells l2))(h1:l1.length<=1000000)(h2:l2.length<=1000000):
  Calls Tryz.prog 72 #[.slice (some ⟨w.heap.size,0,none⟩) 2 2] (w.alloc (.cells #[x,y] 38)) fun e w'=>∃ a k c,e=.returned (.slice a k c)/\Row (fun b=>w.heap.size<=b) w' 9 1 (.slice a k c) (l1++l2).length (strCells (l1++l2))/\Below w.heap.size w w':=by
 refine (zlw (Blk.new w [x,y] _) (hx.gb (zag _ _ none) (by simp)) (hy.gb (zag _ _ none) (by simp)) h1 h2).mono ?_;rintro e w' ⟨v,rfl,ho,hb⟩;obtain ⟨a,k,c,rfl⟩:=zae (Row.zaE ho);refine ⟨a,k,c,rfl,(Row.zaE ho).mono (fun j _ hj=>?_),zbi (zad (zag _ _ none) (zaf none hb))⟩;have:=(zag w (.cells #[x,y] 38) none).size;exact zxN this hj
def zbp (l:List (Nat × Nat × Nat)):List Value:=l.flatMap fun a=>[.int .i64 a.1,.int .i64 a.2.1,.int .i64 a.2.2]
def zay:List (Nat × List Ins)->List Value->List Value
 |b::l,v::vs=>[.int .i64 b.1,v]++zay l vs
 |_,_=>[]
def zoM (Z:Nat->Prop) (w:World) (v:Value):Ins->Prop
 |.push k=>v=.iface 248 (.agg #[.int .i64 k])
 |.zcS f=>v=.iface 250 (.agg #[.int .i64 f])
 |.num x=>v=.iface 252 (.agg #[.int .i64 x])
 |.pack t c=>v=.iface 254 (.agg #[.int .i64 t,.int .i64 c])
 |.close b c=>v=.iface 257 (.agg #[.int .i64 b,.int .i64 c])
 |.hold b c=>v=.iface 258 (.agg #[.int .i64 b,.int .i64 c])
 |.fill k c=>v=.iface 260 (.agg #[.int .i64 k,.int .i64 c])
 |.wait b=>v=.iface 263 (.agg #[.int .i64 b])
 |.zbD c=>v=.iface 267 (.agg #[.int .i64 c])
 |.zcf c=>v=.iface 268 (.agg #[.int .i64 c])
 |.zbV=>v=.iface 269 (.agg #[])
 |.comp sg=>v=.iface 272 (.agg #[.string sg])
 |.enter=>v=.iface 185 (.agg #[])
 |.jump b=>v=.iface 273 (.agg #[.int .i64 b])
 |.choose zao=>∃ av,v=.iface 276 (.agg #[av])/\Row Z w 290 3 av zao.length (zbp zao)/\zao≠[]
def zdY (Z:Nat->Prop) (w:World) (vs:List Value) (is:List Ins):Prop:=vs.length=is.length/\∀ (j:Nat) (v:Value) (x:Ins),vs[j]?=some v->is[j]?=some x->zoM Z w v x
def ziA (Z:Nat->Prop) (w:World) (kv:Value) (is:List Ins):Prop:=∃ vs,Row Z w 154 1 kv is.length vs/\zdY Z w vs is
variable {K:Nat->Prop}
variable {w':World}
theorem Fr.gb(f:Fr K w w'):∀ {e:TypeId} {size n:Nat} {v:Value} {xs:List Value},w.ownsRow 0 e size v n xs->(∀ k,v.ownBlock=some k->¬ K k)->w'.ownsRow 0 e size v n xs:=by
 intro e size n v xs h hk;obtain ⟨h1,h2⟩:=h;refine ⟨h1,?_⟩;rcases h2 with h2|⟨g,cap,cur,hv,hg,hb,r⟩
 ·exact .inl h2
 ·refine .inr ⟨g,cap,cur,hv,hg,?_,r⟩;rw[f.block g (zxU.1 hb).1 (hk g (by rw[hv];rfl))];exact hb
variable {Z Z':Nat->Prop}
theorem Row.frz(h:Row Z w e size v n xs)(f:Fr K w w')(hK:∀ k,k<w.heap.size->Z k->¬ K k)(hZ:∀ k,k<w.heap.size->Z k->Z' k):Row Z' w' e size v n xs:=by
 have hl:=fun k hk=>(h.1.lt k hk).2
 exact ⟨f.gb h.1 (fun k hk=>hK k (hl k hk) (h.2 k hk)),fun k hk=>hZ k (hl k hk) (h.2 k hk)⟩
theorem zoM.frz{Z Z' K:Nat->Prop}{w w':World}{v:Value}{i:Ins}(h:zoM Z w v i)(f:Fr K w w')(hK:∀ k,k<w.heap.size->Z k->¬ K k)(hZ:∀ k,k<w.heap.size->Z k->Z' k):zoM Z' w' v i:=by
 cases i <;> first|exact h|(obtain ⟨av,h1,h2,h3⟩:=h;exact ⟨av,h1,h2.frz f hK hZ,h3⟩)
theorem zdY.frz{Z Z' K:Nat->Prop}{w w':World}{vs:List Value}{is:List Ins}(h:zdY Z w vs is)(f:Fr K w w')(hK:∀ k,k<w.heap.size->Z k->¬ K k)(hZ:∀ k,k<w.heap.size->Z k->Z' k):zdY Z' w' vs is:=
 ⟨h.1,fun j v x hv hx=>(h.2 j v x hv hx).frz f hK hZ⟩
theorem ziA.frz{Z Z' K:Nat->Prop}{w w':World}{v:Value}{is:List Ins}(h:ziA Z w v is)(f:Fr K w w')(hK:∀ k,k<w.heap.size->Z k->¬ K k)(hZ:∀ k,k<w.heap.size->Z k->Z' k):ziA Z' w' v is:=by
 obtain ⟨vs,h1,h2⟩:=h;exact ⟨vs,h1.frz f hK hZ,h2.frz f hK hZ⟩
variable {is:List Ins}
variable {i:Ins}
theorem zdY.snoc{vs:List Value}(h:zdY Z w vs is)(hi:zoM Z w v i):zdY Z w (vs++[v]) (is++[i]):=by
 refine ⟨by simp[h.1],fun j u x hu hx=>?_⟩;rw[zyd]at hu hx;by_cases hj:j<is.length
 ·rw[if_pos (by rw[h.1];exact hj)]at hu;rw[if_pos hj]at hx;exact h.2 j u x hu hx
 ·rw[if_neg (by rw[h.1];exact hj)]at hu;rw[if_neg hj]at hx;rw[h.1]at hu;have h1:j-is.length=0:=by
   have:=(zxH.1 hx).1;simp at this;omega
  rw[h1]at hu hx;simp only[zyh,zxL]at hu hx;rw[<-hu,<-hx];exact hi
theorem zqu(h:zoM Z w v i):∃ t x,v=.iface t x:=by
 cases i <;> first|exact ⟨_,_,h⟩|(obtain ⟨av,h1,_⟩:=h;exact ⟨_,_,h1⟩)
def KL (cb bb:Nat) (rv sv kv:Value) (k:Nat):Prop:=k=cb\/k=bb\/rv.ownBlock=some k\/sv.ownBlock=some k\/kv.ownBlock=some k
structure BS (Z:Nat->Prop) (w:World) (cb bb:Nat) (rv sv kv:Value) (fns:List Cp.Nm) (q:Cp.Bs):Prop where
 zkk:∃ fv,Blk w cb [fv,rv] 86/\Row Z w 9 1 fv fns.length (strCells fns)
 zbW:Blk w bb [.pointer (some ⟨cb,0,none⟩),sv,kv] 159
 zkF:∃ cvs,cvs.length=q.blocks.length/\w.ownsRow 0 96 2 rv q.blocks.length (zay q.blocks cvs)/\∀ (i:Nat) (b:Nat × List Ins) (cv:Value),q.blocks[i]?=some b->cvs[i]?=some cv->ziA Z w cv b.2
 ziJ:w.ownsRow 0 9 1 sv q.zac.length (strCells q.zac)
 znO:∃ vs,w.ownsRow 0 154 1 kv q.code.length vs/\zdY Z w vs q.code
 zlt:∀ k,Z k->k<w.heap.size
 zk:∀ k,Z k->¬ KL cb bb rv sv kv k
 ne:cb≠bb
 rc:rv.ownBlock≠some cb/\rv.ownBlock≠some bb
 sc:sv.ownBlock≠some cb/\sv.ownBlock≠some bb
 kc:kv.ownBlock≠some cb/\kv.ownBlock≠some bb
 rs:∀ k,rv.ownBlock=some k->sv.ownBlock≠some k
 rk:∀ k,rv.ownBlock=some k->kv.ownBlock≠some k
 sk:∀ k,sv.ownBlock=some k->kv.ownBlock≠some k
def New (w:World) (v v':Value):Prop:=∀ k,v'.ownBlock=some k->v.ownBlock=some k\/w.heap.size<=k
theorem New.refl(w:World)(v:Value):New w v v:=fun _ h=>.inl h
theorem New.trans{w1:World}{a b c:Value}(h:New w a b)(k:New w1 b c)(hs:w.heap.size<=w1.heap.size):New w a c:=fun i hi=>by
 rcases k i hi with h1|h1
 ·exact h i h1
 ·exact .inr (zxN hs h1)
def Did (Z:Nat->Prop) (w:World) (cb bb:Nat) (rv sv kv:Value) (fns:List Cp.Nm) (q':Cp.Bs) (w':World):Prop:=
 ∃ Z' rv' sv' kv',(∀ k,k<w.heap.size->(Z' k↔Z k))/\BS Z' w' cb bb rv' sv' kv' fns q'/\Fr (KL cb bb rv sv kv) w w'/\New w rv rv'/\New w sv sv'/\New w kv kv'
variable {cb bb:Nat}
variable {rv sv kv sv' kv':Value}
theorem KL.new{k:Nat}{rv':Value}(h:KL cb bb rv' sv' kv' k)(h1:New w rv rv')(h2:New w sv sv')(h3:New w kv kv')(hk:k<w.heap.size):KL cb bb rv sv kv k:=by
 rcases h with h|h|h|h|h
 ·exact .inl h
 ·exact .inr (.inl h)
 ·rcases h1 k h with e|e
  ·exact .inr (.inr (.inl e))
  ·omega
 ·rcases h2 k h with e|e
  ·exact .inr (.inr (.inr (.inl e)))
  ·omega
 ·rcases h3 k h with e|e
  ·exact .inr (.inr (.inr (.inr e)))
  ·omega
theorem Did.trans{Z Z1:Nat->Prop}{w w1 w2:World}{cb bb:Nat}{rv sv kv rv1 sv1 kv1:Value}{fns:List Cp.Nm}{q2:Cp.Bs}(hz:∀ k,k<w.heap.size->(Z1 k↔Z k))(hf:Fr (KL cb bb rv sv kv) w w1)(h1:New w rv rv1)(h2:New w sv sv1)(h3:New w kv kv1)(d:Did Z1 w1 cb bb rv1 sv1 kv1 fns q2 w2):Did Z w cb bb rv sv kv fns q2 w2:=by
 obtain ⟨Z2,rv2,sv2,kv2,e1,e2,e3,e4,e5,e6⟩:=d;have hs:=hf.size;refine ⟨Z2,rv2,sv2,kv2,fun k hk=>(e1 k (zxO hk hs)).trans (hz k hk),e2,?_,h1.trans e4 hs,h2.trans e5 hs,h3.trans e6 hs⟩;refine ⟨e3.os.trans hf.os,e3.tape.trans hf.tape,e3.output.trans hf.output,zxN hs e3.size,fun i hi hK=>(e3.block i (zxO hi hs) (fun hn=>hK (KL.new hn h1 h2 h3 hi))).trans (hf.block i hi hK)⟩
theorem Did.refl{Z:Nat->Prop}{w:World}{cb bb:Nat}{rv sv kv:Value}{fns:List Cp.Nm}{q:Cp.Bs}(h:BS Z w cb bb rv sv kv fns q):Did Z w cb bb rv sv kv fns q w:=
 ⟨Z,rv,sv,kv,fun _ _=>zzs,h,Fr.refl _ _,New.refl _ _,New.refl _ _,New.refl _ _⟩
variable {fns:List Cp.Nm}
variable {q:Cp.Bs}
theorem BS.clt(h:BS Z w cb bb rv sv kv fns q):cb<w.heap.size:=by obtain ⟨fv,h1,_⟩:=h.zkk;exact h1.lt
theorem BS.rlt(h:BS Z w cb bb rv sv kv fns q):∀ k,rv.ownBlock=some k->k<w.heap.size:=by obtain ⟨cvs,_,h2,_⟩:=h.zkF;exact fun k hk=>(h2.lt k hk).2
theorem BS.slt(h:BS Z w cb bb rv sv kv fns q):∀ k,sv.ownBlock=some k->k<w.heap.size:=fun k hk=>(h.ziJ.lt k hk).2
theorem BS.klt(h:BS Z w cb bb rv sv kv fns q):∀ k,kv.ownBlock=some k->k<w.heap.size:=by obtain ⟨vs,h1,_⟩:=h.znO;exact fun k hk=>(h1.lt k hk).2
theorem BS.up{sl:List Cp.Nm}{co:List Ins}(h:BS Z w cb bb rv sv kv fns q)(f:Fr (fun k=>k=bb\/sv.ownBlock=some k\/kv.ownBlock=some k) w w')(hb:Blk w' bb [.pointer (some ⟨cb,0,none⟩),sv',kv'] 159)(hs:w'.ownsRow 0 9 1 sv' sl.length (strCells sl))(hk:∃ vs,w'.ownsRow 0 154 1 kv' co.length vs/\zdY Z w' vs co)(ns:New w sv sv')(nk:New w kv kv')(sk':∀ k,sv'.ownBlock=some k->kv'.ownBlock≠some k):BS Z w' cb bb rv sv' kv' fns ⟨q.blocks,sl,co⟩:=by
 have hz:∀ k,k<w.heap.size->Z k->¬ (k=bb\/sv.ownBlock=some k\/kv.ownBlock=some k):=fun k _ hk he=>h.zk k hk (by
  rcases he with e|e|e
  ·exact .inr (.inl e)
  ·exact .inr (.inr (.inr (.inl e)))
  ·exact .inr (.inr (.inr (.inr e))))
 have hbl:=h.zbW.lt;obtain ⟨fv,hc1,hc2⟩:=h.zkk;have hcl:=hc1.lt;obtain ⟨cvs,hr1,hr2,hr3⟩:=h.zkF;have hrl:=h.rlt;refine ⟨⟨fv,Fr.blk hc1 f ?_,hc2.frz f hz (fun _ _ x=>x)⟩,hb,⟨cvs,hr1,f.gb hr2 (fun k hk he=>?_),fun i b cv h1 h2=>(hr3 i b cv h1 h2).frz f hz (fun _ _ x=>x)⟩,hs,hk,fun k hk=>zxO (h.zlt k hk) f.size,fun k hk he=>?_,h.ne,h.rc,?_,?_,?_,?_,sk'⟩
 ·rintro (e|e|e)
  ·exact h.ne e
  ·exact h.sc.1 e
  ·exact h.kc.1 e
 ·rcases he with e|e|e
  ·exact h.rc.2 (by rw[hk,e])
  ·exact h.rs k hk e
  ·exact h.rk k hk e
 ·exact h.zk k hk (KL.new he (New.refl _ _) ns nk (h.zlt k hk))
 ·exact ⟨fun e=>by rcases ns cb e with e|e;exact h.sc.1 e;omega,fun e=>by rcases ns bb e with e|e;exact h.sc.2 e;omega⟩
 ·exact ⟨fun e=>by rcases nk cb e with e|e;exact h.kc.1 e;omega,fun e=>by rcases nk bb e with e|e;exact h.kc.2 e;omega⟩
 ·intro k hk e;rcases ns k e with e|e
  ·exact h.rs k hk e
  ·have:=hrl k hk;omega
 ·intro k hk e;rcases nk k e with e|e
  ·exact h.rk k hk e
  ·have:=hrl k hk;omega
theorem Did.up{q':Cp.Bs}(h:BS Z w' cb bb rv sv' kv' fns q')(f:Fr (fun k=>k=bb\/sv.ownBlock=some k\/kv.ownBlock=some k) w w')(ns:New w sv sv')(nk:New w kv kv'):Did Z w cb bb rv sv kv fns q' w':=
 ⟨Z,rv,sv',kv',fun _ _=>zzs,h,f.mono (fun i hi=>by rcases hi with e|e|e;exact .inr (.inl e);exact .inr (.inr (.inr (.inl e)));exact .inr (.inr (.inr (.inr e)))),New.refl _ _,ns,nk⟩
end Go.Proofs.YtgahgkddaljmkaaGreatDoor
