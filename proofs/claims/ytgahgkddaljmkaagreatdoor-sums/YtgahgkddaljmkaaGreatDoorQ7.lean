/- Scope2 .. Mach38 -/
import Derived.Test.YtgahgkddaljmkaaGreatDoorQ6
import Derived.Shelf.Spec.SlicesGrow
set_option maxRecDepth 100000
set_option maxHeartbeats 4000000
namespace Go.Proofs.YtgahgkddaljmkaaGreatDoor
open Tryz
open Go.RowKit
theorem zdH:∀ (l:List Th.Tok) (i:Nat) (t:Th.Tok),l[i]?=some t->(zaj l)[i*2]?=some (.string ⟨t.s.toArray⟩)/\(zaj l)[i*2+1]?=some (.int .i64 t.at_)
 |[],i,t,h=>by simp at h
 |x::l,0,t,h=>by
  simp only[zzl,zyP]at h;subst h;exact ⟨rfl,rfl⟩
 |x::l,i+1,t,h=>by
  have ih:=zdH l i t (by simpa using h);have e:∀ c,(zaj (x::l))[(i+1)*2+c]?=(zaj l)[i*2+c]?:=by
   intro c;rw[show zaj (x::l)=zbP x++zaj l from rfl,zy3 (by simp[zbP];omega)];congr 1;simp[zbP];omega
  refine ⟨?_,?_⟩
  ·have:=e 0;simp only[zzO]at this;rw[this];exact ih.1
  ·rw[e 1];exact ih.2
theorem zbA:∀ (l:List Th.Tok) (vs:List Value) (i:Nat) (t:Th.Tok) (v:Value),l[i]?=some t->vs[i]?=some v->(zaM l vs)[i*3]?=some (.string ⟨t.s.toArray⟩)/\(zaM l vs)[i*3+1]?=some (.int .i64 t.at_)/\(zaM l vs)[i*3+2]?=some v
 |[],_,i,t,v,h,_=>by simp at h
 |_::_,[],i,t,v,_,h=>by simp at h
 |x::l,y::vs,0,t,v,h,h2=>by
  simp only[zzl,zyP]at h h2;subst h h2;exact ⟨rfl,rfl,rfl⟩
 |x::l,y::vs,i+1,t,v,h,h2=>by
  have ih:=zbA l vs i t v (by simpa using h) (by simpa using h2);have e:∀ c,(zaM (x::l) (y::vs))[(i+1)*3+c]?=(zaM l vs)[i*3+c]?:=by
   intro c;rw[zaM,zy3 (by simp;omega)];congr 1;simp;omega
  refine ⟨?_,?_,?_⟩
  ·have:=e 0;simp only[zzO]at this;rw[this];exact ih.1
  ·rw[e 1];exact ih.2.1
  ·rw[e 2];exact ih.2.2
theorem zdx:∀ (l:List (Nat × List Th.Tok)) (ns vs:List Value) (i:Nat) (a:Nat × List Th.Tok) (n v:Value),l[i]?=some a->ns[i]?=some n->vs[i]?=some v->(za7 l ns vs)[i*3]?=some (.int .i64 a.1)/\(za7 l ns vs)[i*3+1]?=some n/\(za7 l ns vs)[i*3+2]?=some v
 |[],_,_,i,_,_,_,h,_,_=>by simp at h
 |_::_,[],_,i,_,_,_,_,h,_=>by simp at h
 |_::_,_::_,[],i,_,_,_,_,_,h=>by simp at h
 |x::l,m::ns,y::vs,0,a,n,v,h,h2,h3=>by
  simp only[zzl,zyP]at h h2 h3;subst h h2 h3;exact ⟨rfl,rfl,rfl⟩
 |x::l,m::ns,y::vs,i+1,a,n,v,h,h2,h3=>by
  have ih:=zdx l ns vs i a n v (by simpa using h) (by simpa using h2) (by simpa using h3);have e:∀ c,(za7 (x::l) (m::ns) (y::vs))[(i+1)*3+c]?=(za7 l ns vs)[i*3+c]?:=by
   intro c;rw[za7,zy3 (by simp;omega)];congr 1;simp;omega
  refine ⟨?_,?_,?_⟩
  ·have:=e 0;simp only[zzO]at this;rw[this];exact ih.1
  ·rw[e 1];exact ih.2.1
  ·rw[e 2];exact ih.2.2
theorem zcm:∀ (l:List Th.zbr) (ns vs:List Value) (i:Nat) (a:Th.zbr) (n v:Value),l[i]?=some a->ns[i]?=some n->vs[i]?=some v->(zaR l ns vs)[i*4]?=some (.string ⟨a.name.s.toArray⟩)/\(zaR l ns vs)[i*4+1]?=some (.int .i64 a.name.at_)/\(zaR l ns vs)[i*4+2]?=some n/\(zaR l ns vs)[i*4+3]?=some v
 |[],_,_,i,_,_,_,h,_,_=>by simp at h
 |_::_,[],_,i,_,_,_,_,h,_=>by simp at h
 |_::_,_::_,[],i,_,_,_,_,_,h=>by simp at h
 |x::l,m::ns,y::vs,0,a,n,v,h,h2,h3=>by
  simp only[zzl,zyP]at h h2 h3;subst h h2 h3;exact ⟨rfl,rfl,rfl,rfl⟩
 |x::l,m::ns,y::vs,i+1,a,n,v,h,h2,h3=>by
  have ih:=zcm l ns vs i a n v (by simpa using h) (by simpa using h2) (by simpa using h3);have e:∀ c,(zaR (x::l) (m::ns) (y::vs))[(i+1)*4+c]?=(zaR l ns vs)[i*4+c]?:=by
   intro c;rw[zaR,zy3 (by simp;omega)];congr 1;simp;omega
  refine ⟨?_,?_,?_,?_⟩
  ·have:=e 0;simp only[zzO]at this;rw[this];exact ih.1
  ·rw[e 1];exact ih.2.1
  ·rw[e 2];exact ih.2.2.1
  ·rw[e 3];exact ih.2.2.2
theorem zeR:(prog.info? 9).map (fun i=>(i.zero,i.size,i.bytes))=some (some (.string ⟨#[]⟩),1,16):=by kernel_rfl
theorem zen(l:List (List UInt8))(s:List UInt8):strCells (l++[s])=strCells l++[.string ⟨s.toArray⟩]:=by simp[strCells]
theorem zaJ{α:Type}{l:List α}{k:Nat}{t:α}(h:l[k]?=some t):l.take (k+1)=l.take k++[t]:=by
 rw[zAn,h];rfl
variable {w:World}{S:Nat->Prop}{l:List Th.Tok}
theorem ze4{nv:Value}(hr:Row S w 88 2 nv l.length (zaj l))(hl:l.length<=1000000):
  Calls prog 52 #[nv] w fun e w'=>∃ v,e=.returned v/\w'.ownsRow w.heap.size 9 1 v l.length (strCells (Th.texts l))/\Below w.heap.size w w':=by
 obtain ⟨i0,hi,bq,aP,bF⟩:=info_parts zeR;have HI:=zab hi;clear hi;have HZ:=zab (And.intro bq (And.intro aP bF));clear bq aP bF;have HR:=zab hr;rcases zan hr with hv|⟨g,cap,hv⟩
 ·have da:l=[]:=by
   rcases hr.1.2 with ⟨_,h0⟩|⟨_,_,_,h0,_⟩
   ·exact zzn.1 h0
   ·rw[hv]at h0;cases h0
  subst hv da;clear hr HR;go_enter func52,ntmps52
  go_wp2_with fail
  refine wp_loop_rounds 1 ?_;rw[rounds_succ];go_wp2_with fail
  go_ret
  exact ⟨_,rfl,World.ownsRow_nil _ _ _ _,Below.refl _ _⟩
 ·subst hv;clear hr;go_enter func52,ntmps52
  go_wp2_with fail
  go_loopg [3,8] l.length (fun gk v i wr=>∃ k:Nat,i=.int .i64 k/\k<=l.length/\l.length-k<=gk/\wr.ownsRow w.heap.size 9 1 v k (strCells (Th.texts (l.take k)))/\Below w.heap.size w wr)
  case atStart=>exact ⟨0,rfl,zy5 _,by omega,World.ownsRow_nil _ _ _ _,Below.refl _ _⟩
  case round=>
   obtain ⟨k,rfl,hk,jm,ai,hb⟩:=hrel;have Ho:=zab ai;have Hb:=zab hb;have cT:=hb.size;by_cases aj:k<l.length
   ·obtain ⟨t,ht⟩:∃ t,l[k]?=some t:=⟨l[k],zyM aj⟩;have hc:=zdH l k t ht;have af:=HR.o.1.kept (zaf none hb) (zfy _);have c0:=(af.cellAt (k*2) (by omega)).trans hc.1;have c1:=(af.cellAt (k*2+1) (by omega)).trans hc.2;have hg:=(af.lt g rfl).2;have Ht:=zab (zaJ ht);have bB:=(ai.alloc (.cells #[.string ⟨t.s.toArray⟩,.int .i64 t.at_] 88)).alloc (.cells #[.string ⟨t.s.toArray⟩] 9);clear ai hb ht hc af;go_wp2_with (at_builtin;refine wpList_append_own _ rfl _ _ 38 rfl w.heap.size 9 i0 _ 1 16 underlying38 HI.o HZ.o.1 HZ.o.2.1 HZ.o.2.2 rfl (by decide) _ _ _ rfl bB ⟨wr.heap.size+1,0,none⟩ 1 1 [.string ⟨t.s.toArray⟩] rfl rfl (World.news_of_block (cs:=#[.string ⟨t.s.toArray⟩]) (t:=9) (fr:=(0,0)) (by have:=heap_alloc_new (wr.alloc (.cells #[.string ⟨t.s.toArray⟩,.int .i64 t.at_] 88)) (.cells #[.string ⟨t.s.toArray⟩] 9);simpa using this)) (by simp[Value.oneCell']) (by unfold maxLen;omega) (by omega) (by simp;omega) ?_;intro v' w3 dR ah _)
    go_roundg (l.length-(k+1))
    case measure=>omega
    case rel=>
     refine ⟨k+1,by go_num,by omega,zyN _,?_,zbk (zjh (zad (zad (zaf none Hb.o) (zag _ _ _)) (zag _ _ _)) bB ah)⟩;rw[Ht.o,show Th.texts (l.take k++[t])=Th.texts (l.take k)++[t.s] from by simp[Th.texts],zen];exact dR
   ·have aG:k=l.length:=by omega
    have Hk:=zab aG;clear ai hb aG;go_wp2_with fail
    go_ret
    refine ⟨_,rfl,?_,Hb.o⟩;have ho:=Ho.o;rw[Hk.o,zy9 (zyN _)]at ho;exact ho
theorem ztU :∀ {n:Nat} {v:Value} {e:Th.Ex},Rep S w n v e->One v
 |0,_,_,h=>h.elim
 |n+1,v,e,h=>by
  rcases h with ⟨_,h⟩|⟨_,h⟩|⟨_,h⟩|⟨_,_,_,_,_,h,_⟩|⟨_,_,_,_,_,_,h,_⟩|⟨_,_,_,_,_,_,h,_⟩|⟨_,_,_,_,_,_,_,h,_⟩|⟨_,_,_,_,_,_,_,_,h,_⟩
  all_goals exact ⟨.inr ⟨_,_,h⟩⟩
theorem zdS{pv:Value}{l:List Th.zbr}{nvs bvs:List Value}(hr:Row S w 93 4 pv l.length (zaR l nvs bvs))(h1:nvs.length=l.length)(h2:bvs.length=l.length)(ho:∀ (i:Nat) (nv bv:Value),nvs[i]?=some nv->bvs[i]?=some bv->nv.oneCell'=true/\bv.oneCell'=true)(hl:l.length<=1000000):
  Calls prog 49 #[pv] w fun e w'=>∃ v,e=.returned v/\w'.ownsRow w.heap.size 9 1 v l.length (strCells (Th.zaq l))/\Below w.heap.size w w':=by
 obtain ⟨i0,hi,bq,aP,bF⟩:=info_parts zeR;have HI:=zab hi;clear hi;have HZ:=zab (And.intro bq (And.intro aP bF));clear bq aP bF;have HR:=zab hr;rcases zan hr with hv|⟨g,cap,hv⟩
 ·have da:l=[]:=by
   rcases hr.1.2 with ⟨_,h0⟩|⟨_,_,_,h0,_⟩
   ·exact zzn.1 h0
   ·rw[hv]at h0;cases h0
  subst hv da;clear hr HR ho h1 h2;go_enter func49,ntmps49
  go_wp2_with fail
  refine wp_loop_rounds 1 ?_;rw[rounds_succ];go_wp2_with fail
  go_ret
  exact ⟨_,rfl,World.ownsRow_nil _ _ _ _,Below.refl _ _⟩
 ·subst hv;have HO:=zab ho;have H1:=zab h1;have H2:=zab h2;clear hr ho h1 h2;go_enter func49,ntmps49
  go_wp2_with fail
  go_loopg [3,8] l.length (fun gk v i wr=>∃ k:Nat,i=.int .i64 k/\k<=l.length/\l.length-k<=gk/\wr.ownsRow w.heap.size 9 1 v k (strCells (Th.zaq (l.take k)))/\Below w.heap.size w wr)
  case atStart=>exact ⟨0,rfl,zy5 _,by omega,World.ownsRow_nil _ _ _ _,Below.refl _ _⟩
  case round=>
   obtain ⟨k,rfl,hk,jm,ai,hb⟩:=hrel;have Ho:=zab ai;have Hb:=zab hb;have cT:=hb.size;by_cases aj:k<l.length
   ·obtain ⟨t,ht⟩:∃ t,l[k]?=some t:=⟨l[k],zyM aj⟩;obtain ⟨nv,ay⟩:∃ nv,nvs[k]?=some nv:=⟨_,zyM (by rw[H1.o];exact aj)⟩;obtain ⟨bv,cC⟩:∃ bv,bvs[k]?=some bv:=⟨_,zyM (by rw[H2.o];exact aj)⟩;have hc:=zcm l nvs bvs k t nv bv ht ay cC;have xT:=(HO.o k nv bv ay cC).1;have jr:=(HO.o k nv bv ay cC).2;have sn:=fun (W:World) (a:Addr) (m:Mode)=>run_store prog W a nv m xT
    have sb:=fun (W:World) (a:Addr) (m:Mode)=>run_store prog W a bv m jr
    have af:=HR.o.1.kept (zaf none hb) (zfy _);have c0:=(af.cellAt (k*4) (by omega)).trans hc.1;have c1:=(af.cellAt (k*4+1) (by omega)).trans hc.2.1;have c2:=(af.cellAt (k*4+2) (by omega)).trans hc.2.2.1;have c3:=(af.cellAt (k*4+3) (by omega)).trans hc.2.2.2;have hg:=(af.lt g rfl).2;have Ht:=zab (zaJ ht);have bB:=(ai.alloc (.cells #[.string ⟨t.name.s.toArray⟩,.int .i64 t.name.at_,nv,bv] 93)).alloc (.cells #[.string ⟨t.name.s.toArray⟩] 9);clear ai hb ht hc af ay cC;go_wp2_with (at_builtin;refine wpList_append_own _ rfl _ _ 38 rfl w.heap.size 9 i0 _ 1 16 underlying38 HI.o HZ.o.1 HZ.o.2.1 HZ.o.2.2 rfl (by decide) _ _ _ rfl bB ⟨wr.heap.size+1,0,none⟩ 1 1 [.string ⟨t.name.s.toArray⟩] rfl rfl (World.news_of_block (cs:=#[.string ⟨t.name.s.toArray⟩]) (t:=9) (fr:=(0,0)) (by have:=heap_alloc_new (wr.alloc (.cells #[.string ⟨t.name.s.toArray⟩,.int .i64 t.name.at_,nv,bv] 93)) (.cells #[.string ⟨t.name.s.toArray⟩] 9);simpa using this)) (by simp[Value.oneCell']) (by unfold maxLen;omega) (by omega) (by simp;omega) ?_;intro v' w3 dR ah _)
    go_roundg (l.length-(k+1))
    case measure=>omega
    case rel=>
     refine ⟨k+1,by go_num,by omega,zyN _,?_,zbk (zjh (zad (zad (zaf none Hb.o) (zag _ _ _)) (zag _ _ _)) bB ah)⟩;rw[Ht.o,show Th.zaq (l.take k++[t])=Th.zaq (l.take k)++[t.name.s] from by simp[Th.zaq],zen];exact dR
   ·have aG:k=l.length:=by omega
    have Hk:=zab aG;clear ai hb aG;go_wp2_with fail
    go_ret
    refine ⟨_,rfl,?_,Hb.o⟩;have ho:=Ho.o;rw[Hk.o,zy9 (zyN _)]at ho;exact ho
theorem zcX{pv:Value}{pvs:List Value}{rb:Bool}{bt:TypeId}{bx:Value}(hr:Row S w 312 3 pv l.length (zaM l pvs))(h1:pvs.length=l.length)(ho:∀ (i:Nat) (bv:Value),pvs[i]?=some bv->bv.oneCell'=true)(hl:l.length<=1000000):
  Calls prog 197 #[.agg #[.bool rb,pv,.iface bt bx]] w fun e w'=>∃ v,e=.returned v/\w'.ownsRow w.heap.size 9 1 v l.length (strCells (Th.texts l))/\Below w.heap.size w w':=by
 obtain ⟨i0,hi,bq,aP,bF⟩:=info_parts zeR;have HI:=zab hi;clear hi;have HZ:=zab (And.intro bq (And.intro aP bF));clear bq aP bF;have HR:=zab hr;rcases zan hr with hv|⟨g,cap,hv⟩
 ·have da:l=[]:=by
   rcases hr.1.2 with ⟨_,h0⟩|⟨_,_,_,h0,_⟩
   ·exact zzn.1 h0
   ·rw[hv]at h0;cases h0
  subst hv da;clear hr HR ho h1;go_enter func197,ntmps197
  go_wp2_with fail
  refine wp_loop_rounds 1 ?_;rw[rounds_succ];go_wp2_with fail
  go_ret
  exact ⟨_,rfl,World.ownsRow_nil _ _ _ _,zam _ _⟩
 ·subst hv;have HO:=zab ho;have H1:=zab h1;clear hr ho h1;go_enter func197,ntmps197
  go_wp2_with fail
  go_loopg [3,9] l.length (fun gk v i wr=>∃ k:Nat,i=.int .i64 k/\k<=l.length/\l.length-k<=gk/\wr.ownsRow w.heap.size 9 1 v k (strCells (Th.texts (l.take k)))/\Below w.heap.size w wr)
  case atStart=>exact ⟨0,rfl,zy5 _,by omega,World.ownsRow_nil _ _ _ _,zam _ _⟩
  case round=>
   obtain ⟨k,rfl,hk,jm,ai,hb⟩:=hrel;have Ho:=zab ai;have Hb:=zab hb;have cT:=hb.size;by_cases aj:k<l.length
   ·obtain ⟨t,ht⟩:∃ t,l[k]?=some t:=⟨l[k],zyM aj⟩;obtain ⟨bv,cC⟩:∃ bv,pvs[k]?=some bv:=⟨_,zyM (by rw[H1.o];exact aj)⟩;have hc:=zbA l pvs k t bv ht cC;have jr:=HO.o k bv cC;have sb:=fun (W:World) (a:Addr) (m:Mode)=>run_store prog W a bv m jr
    have af:=HR.o.1.kept (zaf none hb) (zfy _);have c0:=(af.cellAt (k*3) (by omega)).trans hc.1;have c1:=(af.cellAt (k*3+1) (by omega)).trans hc.2.1;have c2:=(af.cellAt (k*3+2) (by omega)).trans hc.2.2;have hg:=(af.lt g rfl).2;have Ht:=zab (zaJ ht);have bB:=(ai.alloc (.cells #[.string ⟨t.s.toArray⟩,.int .i64 t.at_,bv] 312)).alloc (.cells #[.string ⟨t.s.toArray⟩] 9);clear ai hb ht hc af cC;go_wp2_with (at_builtin;refine wpList_append_own _ rfl _ _ 38 rfl w.heap.size 9 i0 _ 1 16 underlying38 HI.o HZ.o.1 HZ.o.2.1 HZ.o.2.2 rfl (by decide) _ _ _ rfl bB ⟨wr.heap.size+1,0,none⟩ 1 1 [.string ⟨t.s.toArray⟩] rfl rfl (World.news_of_block (cs:=#[.string ⟨t.s.toArray⟩]) (t:=9) (fr:=(0,0)) (by have:=heap_alloc_new (wr.alloc (.cells #[.string ⟨t.s.toArray⟩,.int .i64 t.at_,bv] 312)) (.cells #[.string ⟨t.s.toArray⟩] 9);simpa using this)) (by simp[Value.oneCell']) (by unfold maxLen;omega) (by omega) (by simp;omega) ?_;intro v' w3 dR ah _)
    go_roundg (l.length-(k+1))
    case measure=>omega
    case rel=>
     refine ⟨k+1,by go_num,by omega,zyN _,?_,zbk (zjh (zad (zad (zaf none Hb.o) (zag _ _ _)) (zag _ _ _)) bB ah)⟩;rw[Ht.o,show Th.texts (l.take k++[t])=Th.texts (l.take k)++[t.s] from by simp[Th.texts],zen];exact dR
   ·have aG:k=l.length:=by omega
    have Hk:=zab aG;clear ai hb aG;go_wp2_with fail
    go_ret
    refine ⟨_,rfl,?_,Hb.o⟩;have ho:=Ho.o;rw[Hk.o,zy9 (zyN _)]at ho;exact ho
end Go.Proofs.YtgahgkddaljmkaaGreatDoor
namespace Go.Proofs.YtgahgkddaljmkaaGreatDoor
open Tryz
open Go.RowKit
attribute [local go_sem ↓] Go.wp_at_zero Go.wp_at_succ
theorem znL:∀ (seen:List (List UInt8)) (l:List Th.Tok) (t:Th.Tok),Th.zjc seen (l++[t])=Th.zjc seen l++(if (seen++Th.texts l).contains t.s then [t.at_] else [])
 |seen,[],t=>by simp[Th.zjc,Th.texts]
 |seen,x::l,t=>by
  simp only[zy7,Th.zjc];rw[znL (seen++[x.s]) l t];simp[Th.texts]
theorem zeo(l:List Th.Tok)(k:Nat):(strCells (Th.texts l)).take k=strCells (Th.texts (l.take k)):=by simp[strCells,Th.texts]
variable {w:World}{c:Nat}{S:Nat->Prop}{l:List Th.Tok}
theorem zia{o:Option Nat}(h:Chk w c o){nv:Value}(hr:Row S w 88 2 nv l.length (zaj l))(hS:¬ S c)(hl:l.length<=1000000):
  Calls prog 70 #[.pointer (some ⟨c,0,none⟩),nv] w fun e w'=>e=.returned (.tuple #[])/\Chk w' c (after o (Th.zjc [] l))/\w.grownBy w' (some c):=by
 have aN:=h.lt;have H:=zab h;have HR:=zab hr;have HS:=zab hS;have gV:=zan hr;clear h hS;rcases gV with hv|⟨g,cap,hv⟩
 ·have da:l=[]:=by
   rcases hr.1.2 with ⟨_,h0⟩|⟨_,_,_,h0,_⟩
   ·exact zzn.1 h0
   ·rw[hv]at h0;cases h0
  subst hv da;go_enter func70,ntmps70
  go_wp2_with fail
  refine (ze4 hr hl).mono ?_;rintro e w1 ⟨v,rfl,af,hb⟩;have mV:=zan (Row.zaE af);have Hb:=zab hb;clear hr af hb;rcases mV with rfl|⟨g2,fI,rfl⟩
  all_goals
   go_wp2_with fail
   refine wp_loop_rounds 1 ?_;rw[rounds_succ];go_wp2_with fail
   go_end0
   exact ⟨rfl,by rw[show Th.zjc [] []=[] from rfl,zbZ];exact H.o.below Hb.o,zaf _ Hb.o⟩
 ·subst hv;go_enter func70,ntmps70
  go_wp2_with fail
  refine (ze4 hr hl).mono ?_;rintro e w1 ⟨v,rfl,af,hb⟩;have HT:=zab af;have Hb:=zab hb;have hz:=hb.size;have mV:v=.slice none 0 0\/∃ g2 fI,v=.slice (some ⟨g2,0,none⟩) l.length fI:=by simpa [Th.texts] using zan (Row.zaE af)
  clear hr hb af;rcases mV with rfl|⟨g2,fI,rfl⟩
  ·have da:l=[]:=by
    rcases HT.o.2 with ⟨_,h0⟩|⟨_,_,_,h0,_⟩
    ·exact zzn.1 h0
    ·cases h0
   subst da;go_wp2_with fail
   refine wp_loop_rounds 1 ?_;rw[rounds_succ];go_wp2_with fail
   go_end0
   exact ⟨rfl,by rw[show Th.zjc [] []=[] from rfl,zbZ];exact H.o.below Hb.o,zaf _ Hb.o⟩
  ·have kT:l.length<=fI:=by
    rcases HT.o.2 with ⟨h0,_⟩|⟨_,_,_,h0,_,_,hn,_⟩
    ·cases h0
    ·cases h0;exact hn
   go_wp2_with fail
   go_loopg [11] l.length (fun gk i wr=>∃ k:Nat,i=.int .i64 k/\k<=l.length/\l.length-k<=gk/\Chk wr c (after o (Th.zjc [] (l.take k)))/\w1.grownBy wr (some c))
   case atStart=>exact ⟨0,rfl,zy5 _,by omega,by rw[show Th.zjc [] (l.take 0)=[] from rfl,zbZ];exact H.o.below Hb.o,zcT _ _⟩
   case round=>
    obtain ⟨k,rfl,hk,jm,fV,hg⟩:=hrel;have jQ:=zab fV;have Hg:=zab hg;have cT:=hg.size;by_cases aj:k<l.length
    ·obtain ⟨t,ht⟩:∃ t,l[k]?=some t:=⟨l[k],zyM aj⟩;have hc:=zdH l k t ht;have af:=((HR.o.gb (zaf none Hb.o) (by simp)).gb hg (fun j hj=>by cases hj;exact HS.o)).1;have c0:=(af.cellAt (k*2) (by omega)).trans hc.1;have c1:=(af.cellAt (k*2+1) (by omega)).trans hc.2;have fX:=(af.lt g rfl).2;have Ht:=zab (zaJ ht);have dF:(0:Int)<=(k:Int):=zzN _;have cK:(k:Int)<=(fI:Int):=by omega
     have gl:=zg6 (HT.o.kept hg (zdi HT.o aN)) (i:=k) (by omega);rw[zeo]at gl;have oE:Hid (wr.ownsRow w.heap.size 9 1 (.slice (some ⟨g2,0,none⟩) k fI) (Th.texts (l.take k)).length (strCells (Th.texts (l.take k)))):=zab (by
      rw[show (Th.texts (l.take k)).length=k by simp[Th.texts];omega];exact gl)
     have dn:=zab (fun (W:World) (hW:Chk W c (after o (Th.zjc [] (l.take k)))) (hR:W.ownsRow w.heap.size 9 1 (.slice (some ⟨g2,0,none⟩) k fI) (Th.texts (l.take k)).length (strCells (Th.texts (l.take k))))=>zgW hW ⟨t.s.toArray⟩ t.at_ hR (by simp[Th.texts];omega));have Hd:Hid (Th.zjc [] (l.take (k+1))=Th.zjc [] (l.take k)++(if (Th.texts (l.take k)).contains t.s then [t.at_] else [])):=zab (by rw[Ht.o,znL];simp);clear fV hg ht hc af gl;go_wp2_with fail
     go_region_with (go_at_call 69;refine (dn.o _ ?_ ?_).mono ?_;exact Blk.drew (Blk.alloc jQ.o _);exact (oE.o.alloc _).drew;rintro e w3 ⟨rfl,h3,aS⟩;have H3:=zab h3;have gC:=zab aS;clear h3 aS)
     all_goals
      go_wp2_with fail
      go_roundg (l.length-(k+1))
      case measure=>omega
      case rel=>
       refine ⟨k+1,by go_num,by omega,zyN _,?_,zad (zad (zad Hg.o (zag _ _ _)) (zbO _ _)) gC.o⟩;rw[Hd.o,zaQ];exact H3.o
    ·have aG:k=l.length:=by omega
     have Hk:=zab aG;clear fV hg aG;go_wp2_with fail
     go_end0
     refine ⟨rfl,?_,zad (zaf _ Hb.o) Hg.o⟩;have ho:=jQ.o;rw[Hk.o,zy9 (zyN _)]at ho;exact ho
end Go.Proofs.YtgahgkddaljmkaaGreatDoor
namespace Go.Proofs
open Go.Shelf
def Tryz.growS_ren:Go.Shelf.Ren:=⟨fun|4=>123|n=>n,fun|22=>38|25=>9|3=>3|4=>4|9=>9|20=>20|0=>0|n=>n,fun|n=>n⟩
theorem Tryz.growS:Go.Proofs.Lays8.n4 prog Tryz.growS_ren:={
 mixed:=by kernel_rfl
 f4:=⟨Tryz.f123.name,by decide,func123.trans (congrArg some (by kernel_rfl))⟩
 t0:=underlying0
 a0:=isAgg0
 z0:=sizeOf0
 v0:=zeroValue0
 t3:=underlying3
 a3:=isAgg3
 z3:=sizeOf3
 v3:=zeroValue3
 t4:=underlying4
 a4:=isAgg4
 z4:=sizeOf4
 v4:=zeroValue4
 t9:=underlying9
 a9:=isAgg9
 z9:=sizeOf9
 v9:=zeroValue9
 t20:=underlying20
 a20:=isAgg20
 z20:=sizeOf20
 v20:=zeroValue20
 t22:=underlying38
 a22:=isAgg38
 z22:=sizeOf38
 v22:=zeroValue38 }
end Go.Proofs
namespace Go.Proofs.YtgahgkddaljmkaaGreatDoor
open Tryz
open Go.RowKit
theorem zqx(w:World)(n:Nat)(hn:n<=4000000):
  Calls prog 123 #[.slice none 0 0,.int .i64 n] w fun e w'=>∃ v,e=.returned v/\w'.ownsRow w.heap.size 9 1 v 0 []/\Below w.heap.size w w':=by
 obtain ⟨i0,hi,bq,aP,bF⟩:=info_parts zeR;by_cases h0:n=0
 ·subst h0;refine (Any8.slices_Grow_room Tryz.growS none 0 0 0 w (by omega) (by omega) (by omega) (by omega)).mono ?_;rintro e w' ⟨rfl,rfl⟩;exact ⟨_,rfl,World.ownsRow_nil _ _ _ _,Below.refl _ _⟩
 ·refine (Any8.slices_Grow_grow Tryz.growS i0 _ hi bq (by omega) none 0 0 n [] w (by omega) (by omega) (by rw[bF];omega) (by omega) (by simp) (fun _=>rfl) (fun a ha=>by cases ha)).mono ?_;rintro e w' ⟨rfl,rfl⟩;refine ⟨_,rfl,?_,zbk (zad (zbO _ _) (zag _ _ _))⟩;have:=World.ownsRow_made (e:=9) (base:=w.heap.size) (size:=1) w.drew (([]:List Value).toArray++Builtin.zeroCells (Value.string ⟨#[]⟩).cells (0+n-0)++Builtin.zeroCells (Value.string ⟨#[]⟩).cells (grownCap w (0+n) 0 9-(0+n))) (grownCap w (0+n) 0 9) (by simp) (grownCap_le_maxLen _ _ _ _ (by unfold maxLen;omega)) ?_
  ·exact this
  ·have:=grownCap_ge w (0+n) 0 9;rw[Array.size_append,Array.size_append,size_zeroCells,size_zeroCells];show 0+(0+n-0)*1+(_-(0+n))*1=_;omega
theorem ze1{l:List (List UInt8)}:∀ u∈strCells l,u.oneCell'=true:=by
 intro u hu;obtain ⟨s,_,rfl⟩:=zz1.1 hu;rfl
variable {w:World}{base:Nat}{v x:Value}{l1 l2:List (List UInt8)}{S:Nat->Prop}
theorem zxJ(ty:TypeId)(hv:w.ownsRow base 9 1 v l1.length (strCells l1))(hx:Row S w 9 1 x l2.length (strCells l2))(h1:l1.length<=2000000)(h2:l2.length<=2000000)(hb:base<=w.heap.size):
  ∃ v' w',(Builtin.append_ #[38,38] ty #[v,x]).run prog w=.ok v' w'/\w'.ownsRow base 9 1 v' (l1++l2).length (strCells (l1++l2))/\w.grownBy w' v.ownBlock:=by
 obtain ⟨i0,hi,bq,aP,bF⟩:=info_parts zeR;rcases zan hx with rfl|⟨g,cap,rfl⟩
 ·have da:l2=[]:=by
   rcases hx.1.2 with ⟨_,h0⟩|⟨_,_,_,h0,_⟩
   ·exact zzn.1 h0
   ·cases h0
  subst da;rcases zan (Row.zaE hv) with rfl|⟨g,cap,rfl⟩
  ·refine ⟨.slice none 0 0,w,by kernel_rfl,by simpa using hv,zcT _ _⟩
  ·refine ⟨.slice (some ⟨g,0,none⟩) l1.length cap,w,?_,by simpa using hv,zcT _ _⟩;have kS:l1.length<=cap:=by
    rcases hv.2 with ⟨h0,_⟩|⟨_,_,_,h0,_,_,hn,_⟩
    ·cases h0
    ·cases h0;exact hn
   exact run_append_room_src (P:=prog) w 38 38 ty 9 i0 underlying38 hi g 0 l1.length cap (.slice none 0 0) 0 [] (Src.ofNil w underlying38 0) (by omega) (by simp) (by simp)
 ·obtain ⟨v',w',hr,ho,hg,_⟩:=run_append_own (P:=prog) w base 38 ty 9 i0 _ 1 16 underlying38 hi bq aP bF rfl (by decide) v l1.length (strCells l1) hv ⟨g,0,none⟩ l2.length cap (strCells l2) (by simp[strCells]) (hx.1.cells (g:=g) rfl) ze1 (by unfold maxLen;omega) (by omega) hb;refine ⟨v',w',hr,?_,hg⟩;rw[show strCells (l1++l2)=strCells l1++strCells l2 by simp[strCells],zyT];exact ho
theorem zfG{ops:Array Oper}{rest:List Oper}{o:Oper}{a:Act}{Q:Exit->Act->World->Prop}(oY:o.guard=none)(s x:Operand)(ho:o.op=.call { callee:=.builtin .append,args:=#[s,x],argTypes:=#[38,38] }){xv:Value}(hs:a.eval s=v)(uT:a.eval x=xv)(hv:w.ownsRow base 9 1 v l1.length (strCells l1))(hx:Row S w 9 1 xv l2.length (strCells l2))(h1:l1.length<=2000000)(h2:l2.length<=2000000)(hb:base<=w.heap.size)(h:∀ v' w',w'.ownsRow base 9 1 v' (l1++l2).length (strCells (l1++l2))->w.grownBy w' v.ownBlock->wpList prog ops Q rest (a.put o.dst v') w'):wpList prog ops Q (o::rest) a w:=
 wpList_plain oY fun _ hK=>by
  obtain ⟨v',w',hr,h3,h4⟩:=zxJ o.type hv hx h1 h2 hb;unfold Oper.wp execOp;simp only[ho,resolve,invoke,builtin,Sem.run_bind,Sem.run_pure,Result.andThen_ok,List.map_toArray,zza,List.map_nil,hs,uT,hr];exact hK _ _ (h v' w' h3 h4)
variable {g:Nat}
theorem zlj{y:Value}{S1 S2:Nat->Prop}(hb:Blk w g [x,y] 38)(hx:Row S1 w 9 1 x l1.length (strCells l1))(hy:Row S2 w 9 1 y l2.length (strCells l2))(h1:l1.length<=1000000)(h2:l2.length<=1000000):
  Calls prog 72 #[.slice (some ⟨g,0,none⟩) 2 2] w fun e w'=>∃ v,e=.returned v/\w'.ownsRow w.heap.size 9 1 v (l1++l2).length (strCells (l1++l2))/\Below w.heap.size w w':=by
 have hl:=hb.lt;have H:=zab hb;have c0:=Blk.cell hb 0;have c1:=Blk.cell hb 1;simp at c0 c1;have HX:=zab hx;have HY:=zab hy;have oc:=zan hx;have AO:=zan hy;clear hb hx hy;have cX:Hid (x=.slice none 0 0->l1.length=0):=zab (fun h=>by
  rcases HX.o.1.2 with ⟨_,h0⟩|⟨_,_,_,h0,_⟩
  ·exact h0
  ·rw[h]at h0;cases h0)
 have aT:Hid (y=.slice none 0 0->l2.length=0):=zab (fun h=>by
  rcases HY.o.1.2 with ⟨_,h0⟩|⟨_,_,_,h0,_⟩
  ·exact h0
  ·rw[h]at h0;cases h0)
 obtain ⟨xa,n1,xc,rfl,cR⟩:∃ xa n1 xc,x=.slice xa n1 xc/\n1=l1.length:=by
  rcases oc with h|⟨g1,c1,h⟩
  ·exact ⟨_,_,_,h,(cX.o h).symm⟩
  ·exact ⟨_,_,_,h,rfl⟩
 obtain ⟨ya,n2,yc,rfl,eY⟩:∃ ya n2 yc,y=.slice ya n2 yc/\n2=l2.length:=by
  rcases AO with h|⟨g1,c1,h⟩
  ·exact ⟨_,_,_,h,(aT.o h).symm⟩
  ·exact ⟨_,_,_,h,rfl⟩
 have xM:n1<=1000000:=by omega
 have EU:n2<=1000000:=by omega
 have HN:=zab (And.intro cR eY);clear cR eY oc AO h1 h2 cX aT;go_enter func72,ntmps72
 go_wp2_with fail
 refine wp_loop_rounds 3 ?_;rw[rounds_succ];go_wp2_with fail
 have dh:(0:Int)<=(n1:Int)+(n2:Int):=by omega
 rw[rounds_succ];go_wp2_with fail
 rw[rounds_succ];go_wp2_with fail
 have pY:=zqx w (n1+n2) (by omega);rw[zzq]at pY;refine pY.mono ?_;clear pY;rintro e w1 ⟨v,rfl,ai,hb⟩;have d0:w1.cell? ⟨g,0,none⟩=some (.slice xa n1 xc):=(World.cell?_of_block (hb.block g hl)).trans c0;have d1:w1.cell? ⟨g,1,none⟩=some (.slice ya n2 yc):=(World.cell?_of_block (hb.block g hl)).trans c1;have C1:=zab c1;have HO:Hid (w1.ownsRow w.heap.size 9 1 v ([]:List (List UInt8)).length (strCells [])):=zab ai;have kM:=HX.o.gb (zaf none hb) (by simp);have Hb:=zab hb;have cT:=hb.size;rcases zan (Row.zaE ai) with rfl|⟨g2,fI,rfl⟩
 all_goals
  clear ai hb c0 c1;go_wp2_with fail
  refine wp_loop_rounds 3 ?_;rw[rounds_succ];go_wp2_with (at_builtin;refine zfG rfl _ _ rfl rfl rfl HO.o kM (by simp) (by have:=HN.o;omega) (by omega) ?_;intro v2 w2 bB fL)
  have fq:w.grownBy w2 none:=zjh (zaf none Hb.o) HO.o fL;rw[zzb]at bB;have e1:w2.cell? ⟨g,1,none⟩=some (.slice ya n2 yc):=fq.cell C1.o (by simp);have zY:=HY.o.gb fq (by simp);have j6:=fq.size;have HG:=zab fq;have mA:=zab bB;have aI:=zan (Row.zaE bB);clear fL fq bB d0 d1 kM HO;rcases aI with rfl|⟨g3,wq,rfl⟩
  all_goals
   rw[rounds_succ];go_wp2_with (at_builtin;refine zfG rfl _ _ rfl rfl rfl mA.o zY (by have:=HN.o;omega) (by have:=HN.o;omega) (by omega) ?_;intro v3 w3 eL kY)
   have gC:Hid (w.grownBy w3 none):=zab (zjh HG.o mA.o kY);have qB:=zab eL;have bP:=zan (Row.zaE eL);clear kY eL zY mA;rcases bP with rfl|⟨g4,DE,rfl⟩
   all_goals
    rw[rounds_succ];go_wp2_with fail
    go_ret
    exact ⟨_,rfl,qB.o,zbk gC.o⟩
variable {e:TypeId}{size n:Nat}{xs:List Value}
theorem zae(h:Row S w e size v n xs):∃ a k c,v=.slice a k c:=by
 rcases zan h with h|⟨g,cap,h⟩
 ·exact ⟨_,_,_,h⟩
 ·exact ⟨_,_,_,h⟩
theorem zaF(h:w.ownsRow base e size v n xs):∃ a k c,v=.slice a k c:=zae (Row.zaE h)
theorem zah :∀ {n:Nat} {v:Value} {e:Th.Ex},Rep S w n v e->∃ t x,v=.iface t x
 |0,_,_,h=>h.elim
 |n+1,v,e,h=>by
  rcases h with ⟨_,h⟩|⟨_,h⟩|⟨_,h⟩|⟨_,_,_,_,_,h,_⟩|⟨_,_,_,_,_,_,h,_⟩|⟨_,_,_,_,_,_,h,_⟩|⟨_,_,_,_,_,_,_,h,_⟩|⟨_,_,_,_,_,_,_,_,h,_⟩
  all_goals exact ⟨_,_,h⟩
theorem zfs{y:Value}{S1 S2:Nat->Prop}(hx:Row S1 w 9 1 x l1.length (strCells l1))(hy:Row S2 w 9 1 y l2.length (strCells l2))(h1:l1.length<=1000000)(h2:l2.length<=1000000):
  Calls prog 72 #[.slice (some ⟨w.heap.size,0,none⟩) 2 2] (w.alloc (.cells #[x,y] 38)) fun e w'=>∃ a k c,e=.returned (.slice a k c)/\Row (fun b=>w.heap.size<=b) w' 9 1 (.slice a k c) (l1++l2).length (strCells (l1++l2))/\Below w.heap.size w w':=by
 refine (zlj (Blk.new w [x,y] _) (hx.gb (zag _ _ none) (by simp)) (hy.gb (zag _ _ none) (by simp)) h1 h2).mono ?_;rintro e w' ⟨v,rfl,ho,hb⟩;obtain ⟨a,k,c,rfl⟩:=zae (Row.zaE ho);refine ⟨a,k,c,rfl,(Row.zaE ho).mono (fun j _ hj=>?_),zbk (zad (zag _ _ none) (zaf none hb))⟩;have:=(zag w (.cells #[x,y] 38) none).size;exact zyR this hj
def zbs (l:List (Nat × Nat × Nat)):List Value:=l.flatMap fun a=>[.int .i64 a.1,.int .i64 a.2.1,.int .i64 a.2.2]
def zaz:List (Nat × List Ins)->List Value->List Value
 |b::l,v::vs=>[.int .i64 b.1,v]++zaz l vs
 |_,_=>[]
def zo5 (Z:Nat->Prop) (w:World) (v:Value):Ins->Prop
 |.push k=>v=.iface 248 (.agg #[.int .i64 k])
 |.zcW f=>v=.iface 250 (.agg #[.int .i64 f])
 |.num x=>v=.iface 252 (.agg #[.int .i64 x])
 |.pack t c=>v=.iface 254 (.agg #[.int .i64 t,.int .i64 c])
 |.close b c=>v=.iface 257 (.agg #[.int .i64 b,.int .i64 c])
 |.hold b c=>v=.iface 258 (.agg #[.int .i64 b,.int .i64 c])
 |.fill k c=>v=.iface 260 (.agg #[.int .i64 k,.int .i64 c])
 |.wait b=>v=.iface 263 (.agg #[.int .i64 b])
 |.zbF c=>v=.iface 267 (.agg #[.int .i64 c])
 |.zci c=>v=.iface 268 (.agg #[.int .i64 c])
 |.zbX=>v=.iface 269 (.agg #[])
 |.comp sg=>v=.iface 272 (.agg #[.string sg])
 |.enter=>v=.iface 185 (.agg #[])
 |.jump b=>v=.iface 273 (.agg #[.int .i64 b])
 |.choose zao=>∃ av,v=.iface 276 (.agg #[av])/\Row Z w 290 3 av zao.length (zbs zao)/\zao≠[]
def zdO (Z:Nat->Prop) (w:World) (vs:List Value) (is:List Ins):Prop:=vs.length=is.length/\∀ (j:Nat) (v:Value) (x:Ins),vs[j]?=some v->is[j]?=some x->zo5 Z w v x
def zir (Z:Nat->Prop) (w:World) (kv:Value) (is:List Ins):Prop:=∃ vs,Row Z w 154 1 kv is.length vs/\zdO Z w vs is
variable {K:Nat->Prop}{w':World}
theorem Fr.gb(f:Fr K w w'):∀ {e:TypeId} {size n:Nat} {v:Value} {xs:List Value},w.ownsRow 0 e size v n xs->(∀ k,v.ownBlock=some k->¬ K k)->w'.ownsRow 0 e size v n xs:=by
 intro e size n v xs h hk;obtain ⟨h1,h2⟩:=h;refine ⟨h1,?_⟩;rcases h2 with h2|⟨g,cap,cur,hv,hg,hb,r⟩
 ·exact .inl h2
 ·refine .inr ⟨g,cap,cur,hv,hg,?_,r⟩;rw[f.block g (zyY.1 hb).1 (hk g (by rw[hv];rfl))];exact hb
variable {Z Z':Nat->Prop}
theorem Row.frz(h:Row Z w e size v n xs)(f:Fr K w w')(hK:∀ k,k<w.heap.size->Z k->¬ K k)(hZ:∀ k,k<w.heap.size->Z k->Z' k):Row Z' w' e size v n xs:=by
 have hl:=fun k hk=>(h.1.lt k hk).2
 exact ⟨f.gb h.1 (fun k hk=>hK k (hl k hk) (h.2 k hk)),fun k hk=>hZ k (hl k hk) (h.2 k hk)⟩
theorem zo5.frz{Z Z' K:Nat->Prop}{w w':World}{v:Value}{i:Ins}(h:zo5 Z w v i)(f:Fr K w w')(hK:∀ k,k<w.heap.size->Z k->¬ K k)(hZ:∀ k,k<w.heap.size->Z k->Z' k):zo5 Z' w' v i:=by
 cases i <;> first|exact h|(obtain ⟨av,h1,h2,h3⟩:=h;exact ⟨av,h1,h2.frz f hK hZ,h3⟩)
theorem zdO.frz{Z Z' K:Nat->Prop}{w w':World}{vs:List Value}{is:List Ins}(h:zdO Z w vs is)(f:Fr K w w')(hK:∀ k,k<w.heap.size->Z k->¬ K k)(hZ:∀ k,k<w.heap.size->Z k->Z' k):zdO Z' w' vs is:=
 ⟨h.1,fun j v x hv hx=>(h.2 j v x hv hx).frz f hK hZ⟩
theorem zir.frz{Z Z' K:Nat->Prop}{w w':World}{v:Value}{is:List Ins}(h:zir Z w v is)(f:Fr K w w')(hK:∀ k,k<w.heap.size->Z k->¬ K k)(hZ:∀ k,k<w.heap.size->Z k->Z' k):zir Z' w' v is:=by
 obtain ⟨vs,h1,h2⟩:=h;exact ⟨vs,h1.frz f hK hZ,h2.frz f hK hZ⟩
variable {vs:List Value}{is:List Ins}{i:Ins}
theorem zdO.snoc(h:zdO Z w vs is)(hi:zo5 Z w v i):zdO Z w (vs++[v]) (is++[i]):=by
 refine ⟨by simp[h.1],fun j u x hu hx=>?_⟩;rw[zzj]at hu hx;by_cases hj:j<is.length
 ·rw[if_pos (by rw[h.1];exact hj)]at hu;rw[if_pos hj]at hx;exact h.2 j u x hu hx
 ·rw[if_neg (by rw[h.1];exact hj)]at hu;rw[if_neg hj]at hx;rw[h.1]at hu;have h1:j-is.length=0:=by
   have:=(zyL.1 hx).1;simp at this;omega
  rw[h1]at hu hx;simp only[zzl,zyP]at hu hx;rw[<-hu,<-hx];exact hi
theorem zqA(h:zo5 Z w v i):∃ t x,v=.iface t x:=by
 cases i <;> first|exact ⟨_,_,h⟩|(obtain ⟨av,h1,_⟩:=h;exact ⟨_,_,h1⟩)
def KL (cb bb:Nat) (rv sv kv:Value) (k:Nat):Prop:=k=cb\/k=bb\/rv.ownBlock=some k\/sv.ownBlock=some k\/kv.ownBlock=some k
structure BS (Z:Nat->Prop) (w:World) (cb bb:Nat) (rv sv kv:Value) (fns:List Cp.Nm) (q:Cp.Bs):Prop where
 zkt:∃ fv,Blk w cb [fv,rv] 86/\Row Z w 9 1 fv fns.length (strCells fns)
 zbY:Blk w bb [.pointer (some ⟨cb,0,none⟩),sv,kv] 159
 zkI:∃ cP,cP.length=q.blocks.length/\w.ownsRow 0 96 2 rv q.blocks.length (zaz q.blocks cP)/\∀ (i:Nat) (b:Nat × List Ins) (cv:Value),q.blocks[i]?=some b->cP[i]?=some cv->zir Z w cv b.2
 ziW:w.ownsRow 0 9 1 sv q.zac.length (strCells q.zac)
 znV:∃ vs,w.ownsRow 0 154 1 kv q.code.length vs/\zdO Z w vs q.code
 zlt:∀ k,Z k->k<w.heap.size
 zk:∀ k,Z k->¬ KL cb bb rv sv kv k
 ne:cb≠bb
 rc:rv.ownBlock≠some cb/\rv.ownBlock≠some bb
 sc:sv.ownBlock≠some cb/\sv.ownBlock≠some bb
 kc:kv.ownBlock≠some cb/\kv.ownBlock≠some bb
 rs:∀ k,rv.ownBlock=some k->sv.ownBlock≠some k
 rk:∀ k,rv.ownBlock=some k->kv.ownBlock≠some k
 sk:∀ k,sv.ownBlock=some k->kv.ownBlock≠some k
def New (w:World) (v v':Value):Prop:=∀ k,v'.ownBlock=some k->v.ownBlock=some k\/w.heap.size<=k
theorem New.refl(w:World)(v:Value):New w v v:=fun _ h=>.inl h
theorem New.trans{w1:World}{a b c:Value}(h:New w a b)(k:New w1 b c)(hs:w.heap.size<=w1.heap.size):New w a c:=fun i hi=>by
 rcases k i hi with h1|h1
 ·exact h i h1
 ·exact .inr (zyR hs h1)
def Did (Z:Nat->Prop) (w:World) (cb bb:Nat) (rv sv kv:Value) (fns:List Cp.Nm) (q':Cp.Bs) (w':World):Prop:=
 ∃ Z' aO sv' bG,(∀ k,k<w.heap.size->(Z' k↔Z k))/\BS Z' w' cb bb aO sv' bG fns q'/\Fr (KL cb bb rv sv kv) w w'/\New w rv aO/\New w sv sv'/\New w kv bG
variable {cb bb:Nat}{rv sv kv sv' bG:Value}
theorem KL.new{k:Nat}{aO:Value}(h:KL cb bb aO sv' bG k)(h1:New w rv aO)(h2:New w sv sv')(h3:New w kv bG)(hk:k<w.heap.size):KL cb bb rv sv kv k:=by
 rcases h with h|h|h|h|h
 ·exact .inl h
 ·exact .inr (.inl h)
 ·rcases h1 k h with e|e
  ·exact .inr (.inr (.inl e))
  ·omega
 ·rcases h2 k h with e|e
  ·exact .inr (.inr (.inr (.inl e)))
  ·omega
 ·rcases h3 k h with e|e
  ·exact .inr (.inr (.inr (.inr e)))
  ·omega
theorem Did.trans{Z Z1:Nat->Prop}{w w1 w2:World}{cb bb:Nat}{rv sv kv bh bf cA:Value}{fns:List Cp.Nm}{q2:Cp.Bs}(hz:∀ k,k<w.heap.size->(Z1 k↔Z k))(hf:Fr (KL cb bb rv sv kv) w w1)(h1:New w rv bh)(h2:New w sv bf)(h3:New w kv cA)(d:Did Z1 w1 cb bb bh bf cA fns q2 w2):Did Z w cb bb rv sv kv fns q2 w2:=by
 obtain ⟨Z2,im,iq,ik,e1,e2,e3,e4,e5,e6⟩:=d;have hs:=hf.size;refine ⟨Z2,im,iq,ik,fun k hk=>(e1 k (zyS hk hs)).trans (hz k hk),e2,?_,h1.trans e4 hs,h2.trans e5 hs,h3.trans e6 hs⟩;refine ⟨e3.os.trans hf.os,e3.tape.trans hf.tape,e3.output.trans hf.output,zyR hs e3.size,fun i hi hK=>(e3.block i (zyS hi hs) (fun hn=>hK (KL.new hn h1 h2 h3 hi))).trans (hf.block i hi hK)⟩
theorem Did.refl{Z:Nat->Prop}{w:World}{cb bb:Nat}{rv sv kv:Value}{fns:List Cp.Nm}{q:Cp.Bs}(h:BS Z w cb bb rv sv kv fns q):Did Z w cb bb rv sv kv fns q w:=
 ⟨Z,rv,sv,kv,fun _ _=>zAz,h,Fr.refl _ _,New.refl _ _,New.refl _ _,New.refl _ _⟩
variable {fns:List Cp.Nm}{q:Cp.Bs}
theorem BS.clt(h:BS Z w cb bb rv sv kv fns q):cb<w.heap.size:=by obtain ⟨fv,h1,_⟩:=h.zkt;exact h1.lt
theorem BS.rlt(h:BS Z w cb bb rv sv kv fns q):∀ k,rv.ownBlock=some k->k<w.heap.size:=by obtain ⟨cP,_,h2,_⟩:=h.zkI;exact fun k hk=>(h2.lt k hk).2
theorem BS.slt(h:BS Z w cb bb rv sv kv fns q):∀ k,sv.ownBlock=some k->k<w.heap.size:=fun k hk=>(h.ziW.lt k hk).2
theorem BS.klt(h:BS Z w cb bb rv sv kv fns q):∀ k,kv.ownBlock=some k->k<w.heap.size:=by obtain ⟨vs,h1,_⟩:=h.znV;exact fun k hk=>(h1.lt k hk).2
theorem BS.up{sl:List Cp.Nm}{co:List Ins}(h:BS Z w cb bb rv sv kv fns q)(f:Fr (fun k=>k=bb\/sv.ownBlock=some k\/kv.ownBlock=some k) w w')(hb:Blk w' bb [.pointer (some ⟨cb,0,none⟩),sv',bG] 159)(hs:w'.ownsRow 0 9 1 sv' sl.length (strCells sl))(hk:∃ vs,w'.ownsRow 0 154 1 bG co.length vs/\zdO Z w' vs co)(ns:New w sv sv')(nk:New w kv bG)(FP:∀ k,sv'.ownBlock=some k->bG.ownBlock≠some k):BS Z w' cb bb rv sv' bG fns ⟨q.blocks,sl,co⟩:=by
 have hz:∀ k,k<w.heap.size->Z k->¬ (k=bb\/sv.ownBlock=some k\/kv.ownBlock=some k):=fun k _ hk he=>h.zk k hk (by
  rcases he with e|e|e
  ·exact .inr (.inl e)
  ·exact .inr (.inr (.inr (.inl e)))
  ·exact .inr (.inr (.inr (.inr e))))
 have cV:=h.zbY.lt;obtain ⟨fv,bH,bT⟩:=h.zkt;have aN:=bH.lt;obtain ⟨cP,dd,cg,jc⟩:=h.zkI;have bd:=h.rlt;refine ⟨⟨fv,Fr.blk bH f ?_,bT.frz f hz (fun _ _ x=>x)⟩,hb,⟨cP,dd,f.gb cg (fun k hk he=>?_),fun i b cv h1 h2=>(jc i b cv h1 h2).frz f hz (fun _ _ x=>x)⟩,hs,hk,fun k hk=>zyS (h.zlt k hk) f.size,fun k hk he=>?_,h.ne,h.rc,?_,?_,?_,?_,FP⟩
 ·rintro (e|e|e)
  ·exact h.ne e
  ·exact h.sc.1 e
  ·exact h.kc.1 e
 ·rcases he with e|e|e
  ·exact h.rc.2 (by rw[hk,e])
  ·exact h.rs k hk e
  ·exact h.rk k hk e
 ·exact h.zk k hk (KL.new he (New.refl _ _) ns nk (h.zlt k hk))
 ·exact ⟨fun e=>by rcases ns cb e with e|e;exact h.sc.1 e;omega,fun e=>by rcases ns bb e with e|e;exact h.sc.2 e;omega⟩
 ·exact ⟨fun e=>by rcases nk cb e with e|e;exact h.kc.1 e;omega,fun e=>by rcases nk bb e with e|e;exact h.kc.2 e;omega⟩
 ·intro k hk e;rcases ns k e with e|e
  ·exact h.rs k hk e
  ·have:=bd k hk;omega
 ·intro k hk e;rcases nk k e with e|e
  ·exact h.rk k hk e
  ·have:=bd k hk;omega
theorem Did.up{q':Cp.Bs}(h:BS Z w' cb bb rv sv' bG fns q')(f:Fr (fun k=>k=bb\/sv.ownBlock=some k\/kv.ownBlock=some k) w w')(ns:New w sv sv')(nk:New w kv bG):Did Z w cb bb rv sv kv fns q' w':=
 ⟨Z,rv,sv',bG,fun _ _=>zAz,h,f.mono (fun i hi=>by rcases hi with e|e|e;exact .inr (.inl e);exact .inr (.inr (.inr (.inl e)));exact .inr (.inr (.inr (.inr e)))),New.refl _ _,ns,nk⟩
end Go.Proofs.YtgahgkddaljmkaaGreatDoor
namespace Go.Proofs.YtgahgkddaljmkaaGreatDoor
open Tryz
open Go.RowKit
attribute [local go_sem ↓] Go.wp_at_zero Go.wp_at_succ
theorem zxs:(prog.info? 154).map (fun i=>(i.zero,i.size,i.bytes))=some (some .nilIface,1,16):=by kernel_rfl
variable {K:Nat->Prop}{w:World}
theorem Fr.zjj{a b:World}{row:Option Nat}(h:Fr K w a)(hg:a.grownBy b row)(hr:∀ k,k<w.heap.size->row=some k->K k):Fr K w b:=
 ⟨hg.os.trans h.os,hg.tape.trans h.tape,hg.output.trans h.output,zyR h.size hg.size,fun i hi hK=>(hg.block i (zyS hi h.size) (fun e=>hK (hr i hi e.symm))).trans (h.block i hi hK)⟩
theorem zdV(w:World):Calls prog 155 #[] w fun e w'=>e=.returned (.slice (some ⟨w.heap.size,0,none⟩) 1 1)/\w'=w.alloc (.cells #[.string ⟨#[]⟩] 9):=by
 go_enter func155,ntmps155
 go_wp2_with fail
 go_ret
 exact ⟨rfl,rfl⟩
variable {Z:Nat->Prop}{cb bb g cap:Nat}{rv sv kv v:Value}{fns:List Cp.Nm}{q:Cp.Bs}{i:Ins}{vs:List Value}
theorem BS.wrote{w3:World}{b:Obj}(h:BS Z w cb bb rv sv kv fns q)(hi:zo5 Z w v i)(gW:zdO Z w vs q.code)(ai:w3.ownsRow 0 154 1 (.slice (some ⟨g,0,none⟩) (q.code.length+1) cap) (q.code.length+1) (vs++[v]))(ah:(w.alloc b).grownBy w3 kv.ownBlock)(aV:kv.ownBlock=some g\/g=w.heap.size+1):
  Blk w3 bb [.pointer (some ⟨cb,0,none⟩),sv,kv] 159/\Did Z w cb bb rv sv kv fns (q.write i) (w3.setCell ⟨bb,2,none⟩ (.slice (some ⟨g,0,none⟩) (q.code.length+1) cap)):=by
 have cV:=h.zbY.lt;have aA:Blk (w.alloc b) bb [.pointer (some ⟨cb,0,none⟩),sv,kv] 159:=Fr.blk (K:=fun _=>False) h.zbY ((Fr.refl _ _).alloc b) (by simp);have bD:=aA.grown ah (fun e=>h.kc.2 e.symm);have so:g≠bb:=by
  rcases aV with e|e
  ·intro e2;subst e2;exact h.kc.2 e
  ·omega
 have f0:Fr (fun k=>k=bb\/kv.ownBlock=some k) w (w3.setCell ⟨bb,2,none⟩ (.slice (some ⟨g,0,none⟩) (q.code.length+1) cap)):=
  (((Fr.refl _ _).alloc b).zjj ah (fun k _ e=>.inr e)).set _ _ (.inl (.inl rfl))
 have f1:Fr (fun k=>k=bb\/sv.ownBlock=some k\/kv.ownBlock=some k) w (w3.setCell ⟨bb,2,none⟩ (.slice (some ⟨g,0,none⟩) (q.code.length+1) cap)):=f0.mono (fun k hk=>by rcases hk with e|e;exact .inl e;exact .inr (.inr e));have hz:∀ k,k<w.heap.size->Z k->¬ (k=bb\/kv.ownBlock=some k):=fun k _ hk he=>h.zk k hk (by
  rcases he with e|e
  ·exact .inr (.inl e)
  ·exact .inr (.inr (.inr (.inr e))))
 have nk:New w kv (.slice (some ⟨g,0,none⟩) (q.code.length+1) cap):=by
  intro k hk;simp only[Value.ownBlock,zyP]at hk;rcases aV with e|e
  ·exact .inl (by rw[e,hk])
  ·exact .inr (by omega)
 have aK:=h.slt;refine ⟨bD,Did.up (h.up f1 (bD.set 2 _) (f0.gb h.ziW (fun k hk he=>?_)) ⟨vs++[v],?_,(gW.frz f0 hz (fun _ _ x=>x)).snoc (hi.frz f0 hz (fun _ _ x=>x))⟩ (New.refl _ _) nk ?_) f1 (New.refl _ _) nk⟩
 ·rcases he with e|e
  ·exact h.sc.2 (by rw[hk,e])
  ·exact h.sk k hk e
 ·have f3:Fr (fun k=>k=bb) w3 (w3.setCell ⟨bb,2,none⟩ (.slice (some ⟨g,0,none⟩) (q.code.length+1) cap)):=(Fr.refl _ _).set _ _ (.inl rfl);rw[zyT,zy0];exact f3.gb ai (fun k hk=>by simp only[Value.ownBlock,zyP]at hk;omega)
 ·intro k hk e;simp only[Value.ownBlock,zyP]at e;have:=aK k hk;rcases aV with e2|e2
  ·exact h.sk k hk (by rw[e2,e])
  ·omega
theorem zbS(h:BS Z w cb bb rv sv kv fns q)(hi:zo5 Z w v i)(hl:q.code.length<=1000000000):
  Calls prog 157 #[.pointer (some ⟨bb,0,none⟩),v] w fun e w'=>e=.returned (.tuple #[])/\Did Z w cb bb rv sv kv fns (q.write i) w':=by
 obtain ⟨i0,dt,bq,aP,bF⟩:=info_parts zxs;have HI:=zab dt;clear dt;have HZ:=zab (And.intro bq (And.intro aP bF));clear bq aP bF;obtain ⟨t,x,rfl⟩:=zqA hi;obtain ⟨vs,gW,af⟩:=h.znV;obtain ⟨ka,kn,kc,rfl⟩:=zaF gW;have c2:=Blk.cell h.zbY 2;simp at c2;have cV:w.heap.size≠bb:=by have:=h.zbY.lt;omega
 have jO:=zab ((Fr.refl (fun _=>False) w).alloc (.cells #[.iface t x] 154)|>.gb gW (by simp));have HH:=zab h;have oz:=zab hi;have CO:=zab af;clear h hi af gW;go_enter func157,ntmps157
 go_wp2_with (at_builtin;refine wpList_append_lies _ rfl _ _ _ rfl 0 154 i0 _ 1 16 underlying94 HI.o HZ.o.1 HZ.o.2.1 HZ.o.2.2 rfl (by omega) _ q.code.length vs rfl jO.o ⟨w.heap.size,0,none⟩ 1 1 [.iface t x] rfl rfl (World.news_of_block (cs:=#[.iface t x]) (t:=154) (fr:=(0,0)) (heap_alloc_new w _)) (by simp[Value.oneCell']) (by omega) (by unfold maxLen;omega) (by omega) (zy5 _) (w.heap.size+1) (by simp) ?_;intro g cap w3 ai ah aV aj;have AD:=zab (HH.o.wrote oz.o CO.o ai ah aV);have d2:=Blk.cell AD.o.1 2;have df:=Blk.frozen AD.o.1 2;simp at d2;clear ai ah aV aj)
 first|go_end0|refine bodyPost_ret (results_none rfl _ _ _) rfl ?_
 exact ⟨rfl,AD.o.2⟩
theorem BS.zuu{a w3:World}{n':Nat}{sl:List Cp.Nm}(h:BS Z w cb bb rv sv kv fns q)(fa:Fr (fun _=>False) w a)(hn:n'=sl.length)(ai:w3.ownsRow 0 9 1 (.slice (some ⟨g,0,none⟩) n' cap) n' (strCells sl))(ah:a.grownBy w3 sv.ownBlock)(aV:sv.ownBlock=some g\/w.heap.size<=g):
  Blk w3 bb [.pointer (some ⟨cb,0,none⟩),sv,kv] 159/\Did Z w cb bb rv sv kv fns ⟨q.blocks,sl,q.code⟩ (w3.setCell ⟨bb,1,none⟩ (.slice (some ⟨g,0,none⟩) n' cap)):=by
 subst hn;have cV:=h.zbY.lt;have aA:Blk a bb [.pointer (some ⟨cb,0,none⟩),sv,kv] 159:=Fr.blk h.zbY fa (by simp);have bD:=aA.grown ah (fun e=>h.sc.2 e.symm);have so:g≠bb:=by
  rcases aV with e|e
  ·intro e2;subst e2;exact h.sc.2 e
  ·omega
 have f0:Fr (fun k=>k=bb\/sv.ownBlock=some k) w (w3.setCell ⟨bb,1,none⟩ (.slice (some ⟨g,0,none⟩) sl.length cap)):=
  ((fa.mono (fun _ h=>h.elim)).zjj ah (fun k _ e=>.inr e)).set _ _ (.inl (.inl rfl))
 have f1:Fr (fun k=>k=bb\/sv.ownBlock=some k\/kv.ownBlock=some k) w (w3.setCell ⟨bb,1,none⟩ (.slice (some ⟨g,0,none⟩) sl.length cap)):=f0.mono (fun k hk=>by rcases hk with e|e;exact .inl e;exact .inr (.inl e));have hz:∀ k,k<w.heap.size->Z k->¬ (k=bb\/sv.ownBlock=some k):=fun k _ hk he=>h.zk k hk (by
  rcases he with e|e
  ·exact .inr (.inl e)
  ·exact .inr (.inr (.inr (.inl e))))
 have ns:New w sv (.slice (some ⟨g,0,none⟩) sl.length cap):=by
  intro k hk;simp only[Value.ownBlock,zyP]at hk;rcases aV with e|e
  ·exact .inl (by rw[e,hk])
  ·exact .inr (by omega)
 have nS:=h.klt;obtain ⟨vs,cK,aG⟩:=h.znV;refine ⟨bD,Did.up (h.up f1 (bD.set 1 _) ?_ ⟨vs,f0.gb cK (fun k hk he=>?_),aG.frz f0 hz (fun _ _ x=>x)⟩ ns (New.refl _ _) ?_) f1 ns (New.refl _ _)⟩
 ·have f3:Fr (fun k=>k=bb) w3 (w3.setCell ⟨bb,1,none⟩ (.slice (some ⟨g,0,none⟩) sl.length cap)):=(Fr.refl _ _).set _ _ (.inl rfl);exact f3.gb ai (fun k hk=>by simp only[Value.ownBlock,zyP]at hk;omega)
 ·rcases he with e|e
  ·exact h.kc.2 (by rw[hk,e])
  ·exact h.sk k e hk
 ·intro k hk e;simp only[Value.ownBlock,zyP]at hk;have:=nS k e;rcases aV with e2|e2
  ·exact h.sk k (by rw[e2,hk]) e
  ·omega
theorem zbn(h:BS Z w cb bb rv sv kv fns q)(hi:zo5 Z w v i)(hl:q.code.length<=1000000000)(aC:q.zac.length<=1000000000):
  Calls prog 145 #[.pointer (some ⟨bb,0,none⟩),v] w fun e w'=>e=.returned (.tuple #[])/\Did Z w cb bb rv sv kv fns (q.push i) w':=by
 obtain ⟨i0,dt,bq,aP,bF⟩:=info_parts zeR;have HI:=zab dt;clear dt;have HZ:=zab (And.intro bq (And.intro aP bF));clear bq aP bF;have CW:=zab (zbS h hi hl);clear h hi;go_enter func145,ntmps145
 go_wp2_with fail
 refine CW.o.mono ?_;rintro e w1 ⟨rfl,Z1,bh,bf,cA,aP,aA,f1,n1,n2,n3⟩;have HD:=zab (And.intro aP (And.intro f1 (And.intro n1 (And.intro n2 n3))));obtain ⟨sa,sn,sc,rfl⟩:=zaF aA.ziW;have cB:=zab aA;have c1:=Blk.cell aA.zbY 1;simp at c1;have cV:w1.heap.size≠bb:=by have:=aA.zbY.lt;omega
 have a1:(w1.alloc (.cells #[.string ⟨#[]⟩] 9)).drew.cell? ⟨bb,1,none⟩=some (.slice sa sn sc):=by
  have:=Blk.cell (Fr.blk (K:=fun _=>False) aA.zbY ((Fr.refl _ _).alloc (.cells #[.string ⟨#[]⟩] 9)).drew (by simp)) 1;simpa using this
 clear aP aA f1 n1 n2 n3 CW;go_wp2_with fail
 go_region_law (first
  |(refine step_append_lies _ (by rfl) _ _ _ (by rfl) 0 9 i0 _ 1 16 underlying38 HI.o HZ.o.1 HZ.o.2.1 HZ.o.2.2 rfl (by omega) (.slice sa sn sc) q.zac.length (strCells q.zac) (by rfl) (Fr.gb (K:=fun _=>False) (w:=w1) (by first|exact ((Fr.refl _ _).alloc _).drew|exact (Fr.refl _ _).drew.alloc _) cB.o.ziW (by simp)) ⟨w1.heap.size,0,none⟩ 1 1 [.string ⟨#[]⟩] (by rfl) (by rfl) (World.news_of_block (cs:=#[.string ⟨#[]⟩]) (t:=9) (fr:=(0,0)) (heap_alloc_new w1 _)) (by simp[Value.oneCell']) (by omega) (by unfold maxLen;omega) (by omega) (zy5 _) (w1.heap.size+1) (by simp) ?_;intro g cap w3 ai ah aV aj;have AD:=zab (cB.o.zuu (g:=g) (n':=q.zac.length+1) (cap:=cap) (sl:=q.zac++[[]]) (by first|exact ((Fr.refl _ _).alloc _).drew|exact (Fr.refl _ _).drew.alloc _) (by simp[]) (by simpa [strCells] using ai) ah (by rcases aV with e|e;exact .inl e;exact .inr (by omega)));have d1:=Blk.cell AD.o.1 1;have df:=Blk.frozen AD.o.1 1;simp at d1;clear ai ah aV aj)
  |(go_simp;go_wp2_with (go_at_call 155;refine (zdV _).mono ?_;rintro e w2 ⟨rfl,aB⟩;subst w2)))
 all_goals
  first|go_end0|refine bodyPost_ret (results_none rfl _ _ _) rfl ?_
  exact ⟨rfl,Did.trans HD.o.1 HD.o.2.1 HD.o.2.2.1 HD.o.2.2.2.1 HD.o.2.2.2.2 AD.o.2⟩
variable {n:Nat}
theorem zql{d:Nat}(hd:d<=cap):∀ W:World,(Instr.slice 38 (.slice (some ⟨g,0,none⟩) n cap) none (some (.int .i64 (d:Int))) none).run prog W=.ok (.slice (some ⟨g,0,none⟩) d cap) W:=by
 intro W;rw[run_slice_h W 38 _ _ _ underlying38 .i64 _ (by omega) (by omega)];have e3:prog.elem 38=9:=by kernel_rfl
 rw[e3,sizeOf9];simp[Result.andThen,sliced,zbe]
theorem zvm:∀ W:World,(Instr.slice 38 (.slice none 0 0) none (some (.int .i64 0)) none).run prog W=.ok (.slice none 0 0) W:=by
 intro W;rw[run_slice_h W 38 _ _ _ underlying38 .i64 _ (by omega) (by omega)];have e3:prog.elem 38=9:=by kernel_rfl
 rw[e3,sizeOf9];simp[Result.andThen,sliced]
theorem BS.drew{Z:Nat->Prop}{w:World}{cb bb:Nat}{rv sv kv:Value}{fns:List Cp.Nm}{q:Cp.Bs}(h:BS Z w cb bb rv sv kv fns q):BS Z w.drew cb bb rv sv kv fns q:=by
 have f0:Fr (fun _=>False) w w.drew:=(Fr.refl _ _).drew;have hz:∀ k,k<w.heap.size->Z k->¬ False:=fun _ _ _ h=>h
 obtain ⟨fv,bH,bT⟩:=h.zkt;obtain ⟨cP,dd,cg,jc⟩:=h.zkI;obtain ⟨vs,cK,aG⟩:=h.znV;exact ⟨⟨fv,bH,bT.frz f0 hz (fun _ _ x=>x)⟩,h.zbY,⟨cP,dd,f0.gb cg (by simp),fun i b cv h1 h2=>(jc i b cv h1 h2).frz f0 hz (fun _ _ x=>x)⟩,f0.gb h.ziW (by simp),⟨vs,f0.gb cK (by simp),aG.frz f0 hz (fun _ _ x=>x)⟩,h.zlt,h.zk,h.ne,h.rc,h.sc,h.kc,h.rs,h.rk,h.sk⟩
theorem Did.drew{Z:Nat->Prop}{w w':World}{cb bb:Nat}{rv sv kv:Value}{fns:List Cp.Nm}{q:Cp.Bs}(h:Did Z w cb bb rv sv kv fns q w'):Did Z w cb bb rv sv kv fns q w'.drew:=by
 obtain ⟨Z',aO,sv',bG,h1,h2,h3,h4,h5,h6⟩:=h;exact ⟨Z',aO,sv',bG,h1,h2.drew,h3.drew,h4,h5,h6⟩
variable {c:Nat}{sv':Value}
theorem BS.cut(h:BS Z w cb bb rv sv kv fns q)(hs:w.ownsRow 0 9 1 sv' (q.drop c).zac.length (strCells (q.drop c).zac))(he:sv'.ownBlock=sv.ownBlock):Did Z w cb bb rv sv kv fns (q.drop c) (w.setCell ⟨bb,1,none⟩ sv'):=by
 have f0:Fr (fun k=>k=bb) w (w.setCell ⟨bb,1,none⟩ sv'):=(Fr.refl _ _).set _ _ (.inl rfl);have f1:Fr (fun k=>k=bb\/sv.ownBlock=some k\/kv.ownBlock=some k) w (w.setCell ⟨bb,1,none⟩ sv'):=f0.mono (fun k e=>.inl e);have hz:∀ k,k<w.heap.size->Z k->¬ (k=bb):=fun k _ hk he=>h.zk k hk (.inr (.inl he))
 have ns:New w sv sv':=fun k hk=>.inl (by rw[<-he];exact hk)
 obtain ⟨vs,cK,aG⟩:=h.znV;exact Did.up (h.up f1 (h.zbY.set 1 _) (f0.gb hs (fun k hk e=>h.sc.2 (by rw[<-he,hk,e]))) ⟨vs,f0.gb cK (fun k hk e=>h.kc.2 (by rw[hk,e])),aG.frz f0 hz (fun _ _ x=>x)⟩ ns (New.refl _ _) (fun k hk=>h.sk k (by rw[<-he];exact hk))) f1 ns (New.refl _ _)
theorem zeg(h:BS Z w cb bb rv sv kv fns q)(aC:q.zac.length<=1000000000)(hc:c<=q.zac.length):
  Calls prog 166 #[.pointer (some ⟨bb,0,none⟩),.int .i64 c] w fun e w'=>e=.returned (.tuple #[])/\Did Z w cb bb rv sv kv fns (q.drop c) w':=by
 have HH:=zab h;have c1:=Blk.cell h.zbY 1;simp at c1;have df:=Blk.frozen h.zbY 1;rcases zan (Row.zaE h.ziW) with hv|⟨g,cap,hv⟩
 ·subst hv;have hlen:q.zac.length=0:=by
   rcases h.ziW.2 with ⟨_,h0⟩|⟨_,_,_,h0,_⟩
   ·exact h0
   ·cases h0
  obtain rfl:c=0:=by omega
  have py:=zvm;have GO:IntKind.i64.wrap 0=0:=by decide
  have HF:=zab (HH.o.cut (c:=0) (sv':=.slice none 0 0) (by simpa [Cp.Bs.drop] using h.ziW) rfl);clear h hlen;go_enter func166,ntmps166
  go_wp2_with fail
  go_region_law (fail)
  all_goals
   first|go_end0|refine bodyPost_ret (results_none rfl _ _ _) rfl ?_
   exact ⟨rfl,HF.o.drew⟩
 ·subst hv;obtain ⟨d,hd⟩:∃ d,q.zac.length=d+c:=⟨q.zac.length-c,by omega⟩;have pg:IntKind.i64.wrap ((d:Int)+(c:Int)-(c:Int))=(d:Int):=by rw[zbc _ (by omega) (by omega)];omega
  have kS:d<=cap:=by
   rcases h.ziW.2 with ⟨h0,_⟩|⟨_,_,_,h0,_,_,hn,_⟩
   ·cases h0
   ·cases h0;omega
  rw[hd]at c1;have py:=zql (g:=g) (n:=d+c) kS;have oh:IntKind.i64.wrap (d:Int)=(d:Int):=zbc _ (by omega) (by omega);have e1:(q.drop c).zac.length=d:=by simp[Cp.Bs.drop];omega
  have HF:=zab (HH.o.cut (c:=c) (sv':=.slice (some ⟨g,0,none⟩) d cap) (by
   have:=zg6 h.ziW (i:=d) (by omega);rw[e1];have e2:strCells (q.drop c).zac=(strCells q.zac).take d:=by simp[Cp.Bs.drop,strCells,hd]
   rw[e2];exact this) rfl)
  clear h;go_enter func166,ntmps166
  go_wp2_with fail
  go_region_law (fail)
  all_goals
   first|go_end0|refine bodyPost_ret (results_none rfl _ _ _) rfl ?_
   exact ⟨rfl,HF.o.drew⟩
end Go.Proofs.YtgahgkddaljmkaaGreatDoor
namespace Go.Proofs.YtgahgkddaljmkaaGreatDoor
open Tryz
open Go.RowKit Go.Shelf
attribute [local go_sem] Oper.semAt_some
def zrT (P:Program) (l:Nat) (R:Ending->World->Prop):Exit->Act->World->Prop
 |.normal,_,w=>∃ v w',(Instr.endRound l none).run P w=.ok v w'/\R (.returned v) w'
 |.panic chain,a,w=>a.defers=[]/\R (.panicked chain) w
 |_,_,_=>False
variable {n:Nat}{f:FuncId}{assign body:Code}{w:World}{R:Ending->World->Prop}
theorem zkH{F:Fence}{P:Program}{l:Nat}{fn:Func}{tmps:Array Value}(hF:F.fn f)(fj:P.funcs[f]?=some fn)(h:assign.wpIn (F.inRound l) n P (Exit.then (fun a₁ w₁=>∃ w₂,(Instr.beginRound l).run P w₁=.ok () w₂/\body.wpIn (F.inRound l) n P (zrT P l R) a₁ w₂) (fun _ _ _=>False))
   { tmps:=tmps,defers:=[] } w):
  RoundIn F n P l f tmps assign body w R:=by
 refine ⟨hF,fun c cs hr=>?_⟩
 let b:Frame:={ (default:Frame) with fn:=f,kind:=.normal,roundOf:=some l }
 have kf:Frame.round l f tmps assign body .normal=b.atR { tmps:=tmps,defers:=[] } [.code assign,.beginRound,.code body]:=by
  simp[Frame.round,Frame.atR,b]
 have ju:(F.inRound l).room ((c::cs).length+1+n):=hr;have rC:(F.inRound l).fn b.fn:=hF;obtain ⟨e,a₁,w₁,hq,bj⟩:=h b [.beginRound,.code body] (c::cs) rfl rC ju;rw[<-kf]at bj;cases e with
 |normal=>
  obtain ⟨w₂,pT,iE⟩:=hq;have s1:StepsIn (Machine.fenced P (F.inRound l)) P (lone (b.atR a₁ [.beginRound,.code body]) (c::cs) w₁) (lone (b.atR a₁ [.code body]) (c::cs) w₂):=
   .one (fenced_calm (fr:=b.atR a₁ [.beginRound,.code body]) rC ju rfl) (stepR_beginRound rfl pT)
  obtain ⟨e₂,a₂,w₃,hq₂,harr₂⟩:=iE b [] (c::cs) rfl rC ju;cases e₂ with
  |normal=>
   obtain ⟨v,w₄,cJ,hR⟩:=hq₂;exact ⟨.returned v,w₄,hR,(StepsIn.trans bj s1).trans (StepsIn.trans harr₂ (.one (fenced_calm (fr:=b.atR a₂ []) rC ju rfl) (stepR_round_end rfl rfl cJ)))⟩
  |panic chain=>
   obtain ⟨hd,hR⟩:=hq₂;obtain ⟨todo,hs⟩:=harr₂;have fM:({ b.atR a₂ todo with mode:=.panicking chain }:Frame).leaving P w₃ (.panicked chain):=⟨rfl,hd,fn,fj⟩;exact ⟨.panicked chain,w₃,hR,(StepsIn.trans bj s1).trans (StepsIn.trans hs (.one (fenced_leaving (fr:={ b.atR a₂ todo with mode:=.panicking chain }) rC ju fM) (step_leave_panicked fM)))⟩
  |ret=>exact hq₂.elim
  |exit id=>exact hq₂.elim
  |goto t=>exact hq₂.elim
  |outgrown=>exact hq₂.elim
 |exit id=>exact hq.elim
 |goto t=>exact hq.elim
 |ret=>exact hq.elim
 |panic chain=>exact hq.elim
 |outgrown=>exact hq.elim
theorem zcY{l:Nat}{P:Program}{args:Array Value}(h:Calls P f args w R):CallsIn (Fence.wide.inRound l) n P f args w R:=
 ⟨trivial,fun cs _=>let ⟨e,w',fr,r,s,x⟩:=h cs;⟨e,w',fr,r,comesIn_wide.2 s,x⟩⟩
theorem zsj(l Bn cb cap:Nat)(vs:List Value)(dJ:vs.length<=1000000000)(J:Nat->World->Prop)(Jx:List PanicEntry->World->Prop)(hY:∀ i v W,J i W->vs[i]?=some v->YieldAt Fence.wide 0 prog l #[v] W fun e W'=>(e=.returned (.bool true)/\J (i+1) W')\/(∃ ch,e=.panicked ch/\Jx ch W'))(hJc:∀ i W,J i W->W.cell? ⟨Bn,0,none⟩=some (.slice (some ⟨cb,0,none⟩) vs.length cap)/\∀ j v,vs[j]?=some v->W.cell? ⟨cb,j,none⟩=some v)(W:World)(h0:J 0 W):
  CallsIn Fence.wide 1 prog 206 #[.func (.yield l) #[] #[],.pointer (some ⟨Bn,0,none⟩)] W fun e W'=>(∃ v,e=.returned v/\J vs.length W')\/(∃ ch,e=.panicked ch/\Jx ch W'):=by
 have HY:=zab hY;have lT:=zab hJc;clear hY hJc;have c0:=(lT.o 0 W h0).1;have qx:=zab h0;clear h0;refine callsIn_of_wp func206 rfl trivial ?_ rfl;simp only[ntmps206,zzr,zy8,zzm,Nat.reduceAdd,Nat.reduceSub,zzB,zzC,zzH,zzE,zzb,zy7]
 gi_wp2
 gi_loopw [7] (fun i wr=>∃ k:Nat,i=.int .i64 k/\k<=vs.length/\Hid (J k wr)) (fun i _=>vs.length+1-(intOf i).toNat)
 case atStart=>exact ⟨0,rfl,zy5 _,qx⟩
 case round=>
  obtain ⟨k,rfl,hk,hJ⟩:=hrel;by_cases aj:k<vs.length
  ·have gu:(k:Int)<(vs.length:Int):=by omega
   have dF:(0:Int)<=(k:Int):=by omega
   obtain ⟨v,hv⟩:∃ v,vs[k]?=some v:=⟨_,zyM aj⟩;have cv:=(lT.o k wr hJ.o).2 k v hv;obtain ⟨fn,tmps,assign,body,hy,hR⟩:=HY.o k v wr hJ.o hv;have HR:=zab hR;have HV:=zab hv;clear hR hv c0
   gi_wp2
   refine HR.o.mono ?_;rintro e w3 (⟨rfl,gP⟩|⟨ch,rfl,hx⟩)
   ·have iu:=zab gP;clear gP hy HR cv
    gi_wp2
    go_roundw
    case rel=>exact ⟨k+1,by go_num,by omega,iu⟩
    case measure=>
     simp[intOf];omega
   ·exact ⟨rfl,.inr ⟨ch,rfl,hx⟩⟩
  ·have gu:¬ (k:Int)<(vs.length:Int):=by omega
   have nQ:k=vs.length:=by omega
   have iu:Hid (J vs.length wr):=by rw[<-nQ];exact hJ
   clear nQ c0
   gi_wp2
   first|go_end0|refine bodyPost_ret (results_none rfl _ _ _) rfl ?_
   exact .inl ⟨⟨_,rfl⟩,iu.o⟩
end Go.Proofs.YtgahgkddaljmkaaGreatDoor
namespace Go.Proofs.YtgahgkddaljmkaaGreatDoor
open Tryz
open Go.RowKit Go.Shelf
def wpV (P:Program) (c:Code) (Q:Exit->Act->World->Prop) (a:Act) (w:World):Prop:=
 ∀ (b:Frame) (k:List Item) (cs:List Frame),(P.funcs[b.fn]?).isSome=true->∃ e a' w',Q e a' w'/\Arrives P (lone (b.at a (.code c::k)) cs w) b k cs e a' w'
section
variable {P:Program} {Q:Exit->Act->World->Prop} {a:Act} {w:World}
theorem zuS{c:Code}(h:c.wp P Q a w):wpV P c Q a w:=fun b k cs _=>h b k cs
theorem zx9{x y:Code}(h:wpV P x (Exit.then (wpV P y Q) Q) a w):wpV P (Code.seq x y) Q a w:=by
 intro b k cs hv;obtain ⟨e,a₁,w₁,hq,bj⟩:=h b (.code y::k) cs hv;cases e with
 |normal=>
  obtain ⟨e₂,a₂,w₂,hq₂,harr₂⟩:=hq b k cs hv;exact ⟨e₂,a₂,w₂,hq₂,.of_steps (.head step_seq bj) harr₂⟩
 |exit id=>exact ⟨_,a₁,w₁,hq,.of_steps (.one step_seq) (.pass (x:=.code y) rfl (fun _ _=>.inl (by simp)) bj)⟩
 |goto l=>exact ⟨_,a₁,w₁,hq,.of_steps (.one step_seq) (.pass (x:=.code y) rfl (fun _ _=>.inl (by simp)) bj)⟩
 |ret=>exact ⟨_,a₁,w₁,hq,.of_steps (.one step_seq) (.pass (x:=.code y) rfl (fun _ _=>.inl (by simp)) bj)⟩
 |panic ch=>exact ⟨_,a₁,w₁,hq,.of_steps (.one step_seq) (.pass (x:=.code y) rfl (fun _ _=>.inl (by simp)) bj)⟩
 |outgrown=>exact ⟨_,a₁,w₁,hq,.of_steps (.one step_seq) (.pass (x:=.code y) rfl (fun _ _=>.inl (by simp)) bj)⟩
theorem zfl{x y:Code}(h:∀ K:Act->World->Prop,(∀ a w,wpV P y Q a w->K a w)->x.wp P (Exit.then K Q) a w):wpV P (Code.seq x y) Q a w:=zx9 (zuS (h _ fun _ _ h=>h))
theorem zks{id:Nat}{c:Code}(h:wpV P c (Exit.inBlock id Q) a w):wpV P (Code.block id c) Q a w:=by
 intro b k cs hv;obtain ⟨e,a₁,w₁,hq,bj⟩:=h b (.inBlock id::k) cs hv;cases e with
 |normal=>exact ⟨.normal,a₁,w₁,hq,.head step_block (Steps.trans bj (.one step_inBlock))⟩
 |exit id'=>
  by_cases hid:id'=id
  ·simp only[Exit.inBlock,hid,if_true]at hq;exact ⟨.normal,a₁,w₁,hq,.head step_block (bj k (by simp[exitTo,hid]))⟩
  ·simp only[Exit.inBlock,hid,if_false]at hq;refine ⟨.exit id',a₁,w₁,hq,fun k' hk=>.head step_block (bj k' ?_)⟩;have:(id == id')=false:=by simp;exact fun h=>hid h.symm
   simp[exitTo,this,hk]
 |goto l=>exact ⟨_,a₁,w₁,hq,fun k' hk=>.head step_block (bj k' (by simp[gotoIn,hk]))⟩
 |ret=>exact ⟨_,a₁,w₁,hq,.of_steps (.one step_block) bj⟩
 |panic ch=>exact ⟨_,a₁,w₁,hq,.of_steps (.one step_block) bj⟩
 |outgrown=>exact ⟨_,a₁,w₁,hq,.of_steps (b:=b) (k:=k) (cs:=cs) (e:=.outgrown) (.one step_block) bj⟩
theorem zwI{c:Code}(I:Nat->Act->World->Prop)(n₀:Nat)(h₀:I n₀ a w)(round:∀ n a w,I n a w->wpV P c (Exit.then (fun a' w'=>∃ n',n' < n/\I n' a' w') Q) a w):wpV P (Code.loop c) Q a w:=by
 intro b k cs hv;have key:∀ n a w,I n a w->∃ e a' w',Q e a' w'/\Arrives P (lone (b.at a (.code c::.inLoop c::k)) cs w) b k cs e a' w':=by
  intro n
  induction n using Nat.strongRecOn with
  |_ n ih=>
   intro a w hI;obtain ⟨e,a₁,w₁,hq,bj⟩:=round n a w hI b (.inLoop c::k) cs hv;cases e with
   |normal=>
    obtain ⟨n',aj,hI₁⟩:=hq;obtain ⟨e₂,a₂,w₂,hq₂,harr₂⟩:=ih n' aj a₁ w₁ hI₁;exact ⟨e₂,a₂,w₂,hq₂,.of_steps (Steps.trans bj (.one step_inLoop)) harr₂⟩
   |exit id=>exact ⟨_,a₁,w₁,hq,.pass (x:=.inLoop c) rfl (fun _ _=>.inl (by simp)) bj⟩
   |goto l=>exact ⟨_,a₁,w₁,hq,.pass (x:=.inLoop c) rfl (fun _ _=>.inl (by simp)) bj⟩
   |ret=>exact ⟨_,a₁,w₁,hq,.pass (x:=.inLoop c) rfl (fun _ _=>.inl (by simp)) bj⟩
   |panic ch=>exact ⟨_,a₁,w₁,hq,.pass (x:=.inLoop c) rfl (fun _ _=>.inl (by simp)) bj⟩
   |outgrown=>exact ⟨_,a₁,w₁,hq,.pass (x:=.inLoop c) rfl (fun _ _=>.inl (by simp)) bj⟩
 obtain ⟨e,a',w',hq,bj⟩:=key n₀ a w h₀;exact ⟨e,a',w',hq,.of_steps (.one step_loop) bj⟩
theorem zsn{c:Code}(I:Nat->Act->World->Prop)(n₀:Nat)(h₀:I n₀ a w)(round:∀ n a w,I n a w->∀ K:Act->World->Prop,(∀ a' w',(∃ n',n' < n/\I n' a' w')->K a' w')->wpV P c (Exit.then K Q) a w):wpV P (Code.loop c) Q a w:=
 zwI I n₀ h₀ fun n a w h=>round n a w h _ fun _ _ q=>q
def zrR (P:Program) (l:Nat) (Q:Exit->Act->World->Prop) (a':Act):Ending->World->Prop
 |.returned _,w₃=>∃ w₄,(Instr.endLoop l).run P w₃=.ok none w₄/\Q .normal a' w₄
 |.panicked chain,w₃=>Q (.panic chain) a' w₃
 |.outgrown,_=>False
variable {assign body:Code}
theorem zng{g:Operand}{ps:Array Tmp}(h:∀ fn,(P.funcs[fn]?).isSome=true->∃ (l:Nat) (mark:List Deferred) (w₁:World) (d:Deferred) (w₁':World) (f:FuncId) (args:Array Value) (w₂:World),
   (Instr.enterLoop fn a.tmps ps assign body none).run P w=.ok (l,mark) w₁/\(resolve a.eval (rangeCall g l) 0).run P w₁=.ok d w₁'/\(invoke d.target d.args).run P w₁'=.ok (.enter f args) w₂ /\
   Calls P f args w₂ (zrR P l Q { a with defers:=mark++a.defers })):
  wpV P (Code.rangeFunc g ps assign body) Q a w:=by
 intro b k cs hv
 let b0:Frame:={ b with roundOf:=none }
 have aV:∀ a k,b.at a k=b0.atR a k:=fun a k=>rfl
 obtain ⟨l,mark,w₁,d,w₁',f,args,w₂,he,xZ,hinv,rU⟩:=h b.fn hv;have gR:=stepR_rangeFunc (P:=P) (b:=b0) (a:=a) (k:=k) (cs:=cs) (w:=w) he xZ hinv;obtain ⟨e,w₃,fr,hR,lD,fj,fM⟩:=rU (b0.atR { a with defers:=mark++a.defers } (.inRangeFunc l::k)::cs);cases e with
 |outgrown=>exact hR.elim
 |returned v=>
  obtain ⟨w₄,cJ,hj⟩:=hR;refine ⟨.normal,_,w₄,hj,?_⟩;rw[aV];show Steps P _ (lone (b0.atR _ k) cs w₄);refine .head gR (Steps.trans lD (.head ?_ (.one (stepR_endRangeFunc cJ))));rw[<-finish_atR_inRangeFunc l v];exact step_leave_returned fM
 |panicked chain=>
  refine ⟨.panic chain,_,w₃,hR,.inRangeFunc l::k,?_⟩;rw[aV];refine .head gR (Steps.trans lD (.one ?_));rw[aV,<-Frame.raise_atR];exact step_leave_panicked fM
variable {f:FuncId}{R:Ending->World->Prop}
theorem zgQ{fn:Func}{c:Code}{args:Array Value}(hf:P.funcs[f]?=some fn)(hb:fn.body=some c)(h:wpV P c (bodyPostM Fence.wide 0 P fn R) { tmps:=args++Array.replicate (fn.ntmps-args.size) undef,defers:=[] } w):Calls P f args w R:=by
 intro cs
 let b:Frame:={ (default:Frame) with fn:=f,kind:=.normal,roundOf:=none }
 have gR:Frame.enter P f args .normal=b.at { tmps:=args++Array.replicate (fn.ntmps-args.size) undef,defers:=[] } [.code c]:=by
  simp[Frame.enter,Frame.at,hf,hb,b]
 obtain ⟨e,a',w',hq,bj⟩:=h b [] cs (by show (P.funcs[f]?).isSome=true;rw[hf];rfl);rw[<-gR]at bj;have hF:Fence.wide.fn b.fn:=trivial;have hr:Fence.wide.room (cs.length+1+0):=room_wide _;cases e with
 |normal=>
  obtain ⟨e',tR,rh,hR,hs,fj,hl⟩:=leaves_stepsInM a'.defers .returning w' { b.at a' [] with mode:=.returning } cs rfl rfl rfl hf rfl hF hr hq;exact ⟨e',tR,rh,hR,Comes.of_steps (Steps.trans bj (.one step_end)) (comesIn_wide.1 hs),fj,hl⟩
 |ret=>
  obtain ⟨todo,hs₀⟩:=bj;obtain ⟨e',tR,rh,hR,hs,fj,hl⟩:=leaves_stepsInM a'.defers .returning w' { b.at a' todo with mode:=.returning } cs rfl rfl rfl hf rfl hF hr hq;exact ⟨e',tR,rh,hR,Comes.of_steps hs₀ (comesIn_wide.1 hs),fj,hl⟩
 |panic chain=>
  obtain ⟨todo,hs₀⟩:=bj;obtain ⟨e',tR,rh,hR,hs,fj,hl⟩:=leaves_stepsInM a'.defers (.panicking chain) w' { b.at a' todo with mode:=.panicking chain } cs rfl rfl rfl hf rfl hF hr hq;exact ⟨e',tR,rh,hR,Comes.of_steps hs₀ (comesIn_wide.1 hs),fj,hl⟩
 |exit id=>exact hq.elim
 |goto l=>exact hq.elim
 |outgrown=>exact ⟨.outgrown,w',b,hq,bj.resolve_left (by simp[b]),rfl,trivial⟩
end
def bodyP (B:Nat) (J:Nat->World->Prop) (Jx:List PanicEntry->World->Prop) (i:Nat) (W2:World):Exit->Act->World->Prop
 |.normal,_,W3=>J (i+1) W3/\W3.heap[B]?=W2.heap[B]?/\W3.heap[B+1]?=W2.heap[B+1]?
 |.panic ch,a,W3=>a.defers=[]/\Jx ch W3/\W3.heap[B]?=W2.heap[B]?
 |_,_,_=>False
variable {assign body:Code}{w:World}{cb cap:Nat}{vs:List Value}
theorem zuT{p:Nat}{g:Operand}{Q:Exit->Act->World->Prop}{a:Act}{Bn:Nat}(hg:a.eval g=.func (.func 206) #[] #[.pointer (some ⟨Bn,0,none⟩)])(dJ:vs.length<=1000000000)(J:Nat->World->Prop)(Jx:List PanicEntry->World->Prop)(hall:∀ i W o,J i W->J i (W.alloc o))(hput:∀ i W l x o,J i W->w.heap.size<=l->W.heap[l]?=some x->(∀ cs t f,x≠.cells cs t f)->J i (W.putObj l o))(h0:J 0 w)(hJc:∀ i W,J i W->W.cell? ⟨Bn,0,none⟩=some (.slice (some ⟨cb,0,none⟩) vs.length cap)/\∀ j v,vs[j]?=some v->W.cell? ⟨cb,j,none⟩=some v)(hround:∀ l i v W,J i W->vs[i]?=some v->assign.wpIn (Fence.wide.inRound l) 0 prog (Exit.then (fun a₁ W₁=>W₁=W/\∀ W2,J i W2->W2.heap[w.heap.size]?=some (.deferred (some []))->(∃ r,W2.heap[w.heap.size+1]?=some (.loop r)) ->
   body.wpIn (Fence.wide.inRound l) 0 prog (bodyP w.heap.size J Jx i W2) a₁ W2) (fun _ _ _=>False)) { tmps:=a.tmps.setIfInBounds p v,defers:=[] } W)(hdone:∀ W,J vs.length W->W.heap[w.heap.size]?=some (.deferred (some []))->Q .normal { a with defers:={ target:=.collected w.heap.size,args:=#[] }::a.defers } W)(hpan:∀ ch W,Jx ch W->W.heap[w.heap.size]?=some (.deferred (some []))->Q (.panic ch) { a with defers:={ target:=.collected w.heap.size,args:=#[] }::a.defers } W):
  wpV prog (Code.rangeFunc g #[p] assign body) Q a w:=by
 refine zng ?_;intro fn fj;obtain ⟨fd,oW⟩:=Option.isSome_iff_exists.1 fj;obtain ⟨rec,de⟩:∃ rec:LoopState->Option Code->Loop,rec=fun st pe=>{ state:=st,pending:=pe,fn,tmps:=a.tmps,params:=#[p],assign,body,defers:=w.heap.size }:=⟨_,rfl⟩
 obtain ⟨W1,eG⟩:∃ W1,(w.alloc (.deferred (some []))).alloc (.loop (rec .ready none))=W1:=⟨_,rfl⟩;have wV:W1.heap[w.heap.size+1]?=some (.loop (rec .ready none)):=by
  rw[<-eG];have:=World.alloc_heap_new (w.alloc (.deferred (some []))) (.loop (rec .ready none));rwa [World.size_alloc]at this
 have oN:W1.heap[w.heap.size]?=some (.deferred (some [])):=by
  rw[<-eG];exact (Below.heap_alloc _ _ _ (by simp)).trans (World.alloc_heap_new w _)
 have wQ:J 0 W1:=by rw[<-eG];exact hall _ _ _ (hall _ _ _ h0)
 have eg:∀ args w,(callFunc 206 args).run prog w=.ok (.enter 206 args) w:=enters_of func206 (by kernel_rfl) rfl;refine ⟨w.heap.size+1,[{ target:=.collected w.heap.size,args:=#[] }],W1,{ target:=.fn (.func 206) #[.pointer (some ⟨Bn,0,none⟩)],args:=#[.func (.yield (w.heap.size+1)) #[] #[]] },W1,206,
  #[.func (.yield (w.heap.size+1)) #[] #[],.pointer (some ⟨Bn,0,none⟩)],W1,?_,?_,?_,?_⟩
 ·rw[<-eG,de];exact run_enterLoop_outer _ _ _ _ _
 ·simp only[resolve,hg];simp[go_sem]
 ·simp[invoke,go_sem,eg]
 ·refine (callsIn_wide.1 (zsj (w.heap.size+1) Bn cb cap vs dJ (fun i W=>J i W/\W.heap[w.heap.size+1]?=some (.loop (rec .ready none))/\W.heap[w.heap.size]?=some (.deferred (some [])))
   (fun ch W=>Jx ch W/\W.heap[w.heap.size]?=some (.deferred (some []))) ?_ (fun i W hW=>hJc i W hW.1) W1 ⟨wQ,wV,oN⟩)).mono ?_
  ·rintro i v W ⟨hi,hl,hk⟩ hv;have aj:w.heap.size+1<W.heap.size:=(zyY.1 hl).1;have hy:=run_yield (P:=prog) (args:=#[v]) hl (by rw[de];rfl);rw[de]at hy;have et:(((#[p]:Array Tmp).zip #[v]).foldl (fun tmps (t,a)=>tmps.setIfInBounds t a) a.tmps)=a.tmps.setIfInBounds p v:=by simp
   simp only at hy;rw[et]at hy;refine ⟨fn,_,assign,body,hy,zkH trivial oW ?_⟩;have hr:=hround (w.heap.size+1) i v W hi hv;refine wpIn_mono hr ?_;rintro e a1 oG hp;cases e with
   |normal=>
    obtain ⟨rfl,iE⟩:=hp;refine ⟨_,run_beginRound hl (by rw[de]),?_⟩;have aC:(oG.putObj (w.heap.size+1) (.loop { rec .ready none with state:=.busy })).heap[w.heap.size+1]?=some (.loop { rec .ready none with state:=.busy }):=World.putObj_heap_same aj;have aG:(oG.putObj (w.heap.size+1) (.loop { rec .ready none with state:=.busy })).heap[w.heap.size]?=some (.deferred (some [])):=(World.putObj_heap_other (by omega)).trans hk;refine wpIn_mono (iE _ (hput i oG _ _ _ hi (by omega) hl (by simp)) aG ⟨_,aC⟩) ?_;rintro e3 a3 W3 j4;cases e3 with
    |normal=>
     obtain ⟨gP,dG,cW⟩:=j4;rw[aG]at dG;rw[aC]at cW;have cJ:=run_endRound (P:=prog) none cW;refine ⟨_,_,cJ,.inl ⟨rfl,hput _ W3 _ _ _ gP (by omega) cW (by simp),?_,(World.putObj_heap_other (by omega)).trans dG⟩⟩;rw[World.putObj_heap_same (zyY.1 cW).1,de];rfl
    |panic ch=>
     obtain ⟨Em,gP,dG⟩:=j4;rw[aG]at dG;exact ⟨Em,.inr ⟨ch,rfl,gP,dG⟩⟩
    |ret=>exact j4.elim
    |exit id=>exact j4.elim
    |goto t=>exact j4.elim
    |outgrown=>exact j4.elim
   |panic ch=>exact hp.elim
   |ret=>exact hp.elim
   |exit id=>exact hp.elim
   |goto t=>exact hp.elim
   |outgrown=>exact hp.elim
  ·rintro e W2 (⟨v,rfl,hi,hl,hk⟩|⟨ch,rfl,hx,hk⟩)
   ·refine ⟨_,by have:=run_endLoop (P:=prog) hl (by rw[de];simp);rw[de]at this;exact this,hdone _ (hput _ _ _ _ _ hi (by omega) hl (by simp)) ((World.putObj_heap_other (by omega)).trans hk)⟩
   ·exact hpan ch W2 hx hk
end Go.Proofs.YtgahgkddaljmkaaGreatDoor
namespace Go.Proofs.YtgahgkddaljmkaaGreatDoor
open Tryz
open Go.RowKit
variable {m m':MSt}{c:Nat}
theorem zb4{f:MSt->Option (Except Nat MSt)}(hf:∀ m1,f m1=some (.ok m')->m'.o.pb=m1.o.pb)(h:aft (m.zdI c) f=some (.ok m')):m'.o.pb=m.o.pb:=by
 unfold aft at h;split at h
 ·cases h
 ·cases h
 ·next m1 hn=>rw[hf m1 h,zqH hn]
theorem zha{s:Option Sto}(h:m.put s=some (.ok m')):m'.o.pb=m.o.pb:=by
 unfold MSt.put at h;cases s with
 |none=>cases h
 |some q=>cases h;rfl
theorem zco{v:Int}(h:m.zau v=some (.ok m')):m'.o.pb=m.o.pb:=zb4 (fun _ h1=>zha h1) h
theorem zl6{hd:Int}(h:m.build hd c=some (.ok m')):m'.o.pb=m.o.pb:=by
 unfold MSt.build at h;refine zb4 (fun m1 h1=>?_) h
 first
  |exact zha h1
  |(split at h1 <;> first|exact zha h1|cases h1)
theorem zik{b:Bool}(h:m.zcN b=some (.ok m')):m'.o.pb=m.o.pb:=zl6 h
theorem zrj{sg:ByteArray}(h:m.compute sg=some (.ok m')):m'.o.pb=m.o.pb:=by
 unfold MSt.compute at h;split at h
 ·cases h
 ·cases h
 ·split at h
  ·cases h
  ·cases h
  ·split at h
   ·cases h
   ·next s1 hs=>
    unfold MSt.calc at h;split at h
    ·(have:=zco h;exact this)
    ·split at h
     ·(have:=zco h;exact this)
     ·split at h
      ·(have:=zco h;exact this)
      ·split at h
       ·split at h
        ·cases h
        ·(have:=zco h;exact this)
       ·split at h
        ·(have:=zik h;exact this)
        ·split at h
         ·(have:=zik h;exact this)
         ·cases h
theorem zu9(h:m.zdy=some (.ok m')):m'.o.pb=m.o.pb:=by
 unfold MSt.zdy at h;split at h
 ·cases h
 ·refine zb4 (fun m1 h1=>?_) h;simp only[zyX,zAb,exists_eq_right]at h1;unfold MSt.begun at h1;split at h1
  ·cases h1
  ·split at h1
   ·cases h1
   ·split at h1
    ·cases h1
    ·split at h1
     ·cases h1
     ·split at h1
      ·cases h1
      ·split at h1
       ·cases h1
       ·cases h1;rfl
theorem zxe{a b:Nat}(h:m.call a b=some (.ok m')):m'.o.pb=m.o.pb:=by
 unfold MSt.call at h;split at h
 ·cases h
 ·refine zb4 (fun m1 h1=>?_) h;simp only[zyX,zAb,exists_eq_right]at h1;unfold MSt.called at h1;split at h1
  ·cases h1
  ·split at h1
   ·cases h1
   ·split at h1
    ·cases h1
    ·split at h1
     ·cases h1
     ·split at h1
      ·cases h1
      ·split at h1
       ·cases h1
       ·split at h1
        ·cases h1
        ·cases h1;rfl
variable {sl:List Nat}
theorem zi1{b:Bool}(h:m.za5 sl c=some (.ok (b,m'))):m'.o.pb=m.o.pb:=by
 unfold MSt.za5 at h;split at h
 ·cases h
 ·split at h
  ·cases h
  ·split at h
   ·cases h
   ·split at h
    ·split at h
     ·cases h
     ·cases h
     ·next hx=>cases h;rw[zqt hx]
    ·split at h
     ·cases h
     ·split at h
      ·cases h
      ·cases h
      ·next hx=>cases h;exact zxe hx
theorem zji{sl:List Nat}:∀ {g:Nat} {m m':MSt},MSt.za1 sl g m=some (.ok m')->m'.o.pb=m.o.pb
 |0,_,_,h=>by cases h
 |g+1,m,m',h=>by
  rw[MSt.za1]at h;split at h
  ·cases h;rfl
  ·split at h
   ·cases h
   ·split at h
    ·cases h
    ·split at h
     ·split at h
      ·cases h
      ·(have:=zji h;exact this)
     ·split at h
      ·split at h
       ·cases h
       ·simp only[zyX,zAb]at h;obtain ⟨s',_,rfl⟩:=h;rfl
      ·split at h
       ·split at h
        ·cases h
        ·cases h
        ·next q hq=>
         obtain ⟨b,m2⟩:=q;split at h
         ·cases h;exact zi1 hq
         ·rw[zji h];exact zi1 hq
       ·cases h
theorem zlm{a:Nat}(h:m.zcy sl a=some (.ok m')):m'.o.pb=m.o.pb:=by
 unfold MSt.zcy at h;split at h
 ·cases h
 ·split at h
  ·cases h
  ·split at h
   ·cases h
   ·split at h
    ·exact zu9 h
    ·exact zji h
theorem zqo(h:m.enter sl=some (.ok m')):m'.o.pb=m.o.pb:=by
 unfold MSt.enter at h;split at h
 ·cases h
 ·split at h
  ·split at h
   ·cases h
   ·(have:=zlm h;exact this)
  ·exact zlm h
theorem zwk{b:Nat}(h:m.split c b=some (.ok m')):m'.o.pb=m.o.pb:=by
 unfold MSt.split at h;split at h
 ·cases h
 ·split at h
  ·refine zb4 (fun m1 h1=>?_) h;simp only[zyX,zAb,exists_eq_right]at h1;unfold MSt.zqM at h1;split at h1
   ·cases h1
   ·split at h1
    ·cases h1
    ·split at h1
     ·cases h1
     ·split at h1
      ·cases h1
      ·cases h1;rfl
  ·cases h
theorem znw{m m':MSt}{y:Int}:∀ {zao:List (Nat × Nat × Nat)},m.zcc y zao=some (.ok m')->m'.o.pb=m.o.pb
 |[],h=>by cases h
 |(t,c,b)::l,h=>by
  rw[MSt.zcc]at h;split at h
  ·exact zwk h
  ·exact znw h
variable {i:Ins}
theorem zxT(h:m.step sl i=some (.ok m')):m'.o.pb=m.o.pb:=by
 cases i with
 |push k=>
  refine zb4 (fun m1 h1=>?_) h;split at h1
  ·cases h1
  ·split at h1
   ·cases h1
   ·exact zha h1
 |zcW f=>
  refine zb4 (fun m1 h1=>?_) h;split at h1
  ·cases h1
  ·exact zha h1
 |num x=>exact zco h
 |pack t c=>
  simp only[MSt.step,MSt.pack]at h;split at h
  ·exact zl6 h
  ·cases h
 |close b c=>
  simp only[MSt.step,MSt.pack]at h;split at h
  ·exact zl6 h
  ·cases h
 |hold b c=>
  simp only[MSt.step,MSt.hold]at h;split at h
  ·exact zb4 (fun m1 h1=>zha h1) h
  ·cases h
 |fill k c=>
  simp only[MSt.step,MSt.zln]at h;split at h
  ·cases h
  ·split at h
   ·cases h
   ·split at h
    ·cases h
    ·split at h
     ·cases h
     ·split at h
      ·exact zha h
      ·cases h
 |wait b=>
  simp only[MSt.step,MSt.zcH]at h;split at h
  ·exact zb4 (fun m1 h1=>zha h1) h
  ·cases h
 |zbF c=>
  simp only[MSt.step,MSt.zcH]at h;split at h
  ·exact zb4 (fun m1 h1=>zha h1) h
  ·cases h
 |zci c=>
  simp only[MSt.step,zyX,zAb,exists_eq_right]at h;unfold MSt.zci at h;split at h
  ·cases h;rfl
  ·cases h
 |zbX=>
  simp only[MSt.step,zyX]at h;obtain ⟨q,_,h2⟩:=h;cases q with
  |error k=>cases h2
  |ok v=>cases h2;rfl
 |comp sg=>exact zrj h
 |enter=>exact zqo h
 |jump b=>cases h;rfl
 |choose zao=>
  simp only[MSt.step,MSt.choose]at h;split at h
  ·cases h
  ·split at h
   ·exact znw h
   ·cases h
theorem zxb(h:m.zsJ=.ok m'):m'.o.pb=m.o.pb:=by
 unfold MSt.zsJ at h;split at h
 ·cases h
 ·cases h;rfl
end Go.Proofs.YtgahgkddaljmkaaGreatDoor
