/- Cmp5 .. Ta -/
import Derived.Test.YtgahgkddaljmkaaGreatDoorV18
import Derived.Test.YtgahgkddaljmkaaGreatDoorV0
import Derived.Test.YtgahgkddaljmkaaGreatDoorV1
set_option maxRecDepth 100000
set_option maxHeartbeats 4000000
namespace Go.Proofs.YtgahgkddaljmkaaGreatDoor
open Go.RowKit Go.Shelf
attribute [local go_sem ↓] Go.wp_at_zero Go.wp_at_succ
attribute [local go_sem] Oper.semAt_some
variable {Z K:Nat->Prop}
variable {w w':World}
variable {e:TypeId}
variable {size n:Nat}
variable {v:Value}
variable {xs:List Value}
theorem Row.frc(h:Row Z w e size v n xs)(f:Fr K w w')(hK:∀ k cs t z,w.heap[k]?=some (.cells cs t z)->¬ K k):Row Z w' e size v n xs:=by
 refine ⟨?_,h.2⟩;obtain ⟨⟨h1,h2⟩,_⟩:=h;refine ⟨h1,?_⟩;rcases h2 with h2|⟨g,cap,cur,hv,hg,hb,r⟩
 ·exact .inl h2
 ·exact .inr ⟨g,cap,cur,hv,hg,by rw[f.block g (zxU.1 hb).1 (hK g _ _ _ hb)];exact hb,r⟩
theorem zhQ(h:w.ownsRow 0 e size v n xs)(f:Fr K w w')(hK:∀ k cs t z,w.heap[k]?=some (.cells cs t z)->¬ K k):w'.ownsRow 0 e size v n xs:=
 (Row.frc (Z:=fun _=>True) ⟨h,fun _ _=>trivial⟩ f hK).1
theorem zoM.frc{Z K:Nat->Prop}{w w':World}{v:Value}{i:Ins}(h:zoM Z w v i)(f:Fr K w w')(hK:∀ k cs t z,w.heap[k]?=some (.cells cs t z)->¬ K k):zoM Z w' v i:=by
 cases i <;> first|exact h|(obtain ⟨av,h1,h2,h3⟩:=h;exact ⟨av,h1,h2.frc f hK,h3⟩)
theorem zdY.frc{Z K:Nat->Prop}{w w':World}{vs:List Value}{is:List Ins}(h:zdY Z w vs is)(f:Fr K w w')(hK:∀ k cs t z,w.heap[k]?=some (.cells cs t z)->¬ K k):zdY Z w' vs is:=
 ⟨h.1,fun j v x hv hx=>(h.2 j v x hv hx).frc f hK⟩
theorem ziA.frc{Z K:Nat->Prop}{w w':World}{v:Value}{is:List Ins}(h:ziA Z w v is)(f:Fr K w w')(hK:∀ k cs t z,w.heap[k]?=some (.cells cs t z)->¬ K k):ziA Z w' v is:=by
 obtain ⟨vs,h1,h2⟩:=h;exact ⟨vs,h1.frc f hK,h2.frc f hK⟩
variable {vs:List Value}
theorem Blk.frc{b:Nat}{t:TypeId}(h:Blk w b vs t)(f:Fr K w w')(hK:∀ k cs t z,w.heap[k]?=some (.cells cs t z)->¬ K k):Blk w' b vs t:=Fr.blk h f (hK b _ _ _ h)
theorem BS.frc{Z K:Nat->Prop}{w w':World}{cb bb:Nat}{rv sv kv:Value}{fns:List Cp.Nm}{q:Cp.Bs}(h:BS Z w cb bb rv sv kv fns q)(f:Fr K w w')(hK:∀ k cs t z,w.heap[k]?=some (.cells cs t z)->¬ K k):BS Z w' cb bb rv sv kv fns q:=by
 obtain ⟨fv,hc1,hc2⟩:=h.zkk;obtain ⟨cvs,hr1,hr2,hr3⟩:=h.zkF;obtain ⟨vs,hk1,hk2⟩:=h.znO;exact ⟨⟨fv,hc1.frc f hK,hc2.frc f hK⟩,h.zbW.frc f hK,⟨cvs,hr1,zhQ hr2 f hK,fun i b cv h1 h2=>(hr3 i b cv h1 h2).frc f hK⟩,zhQ h.ziJ f hK,⟨vs,zhQ hk1 f hK,hk2.frc f hK⟩,fun k hk=>zxO (h.zlt k hk) f.size,h.zk,h.ne,h.rc,h.sc,h.kc,h.rs,h.rk,h.sk⟩
variable {cb bb:Nat}
variable {rv sv kv:Value}
variable {fns:List Cp.Nm}
variable {q:Cp.Bs}
theorem BS.fr0(h:BS Z w cb bb rv sv kv fns q)(f0:Fr (fun _=>False) w w'):BS Z w' cb bb rv sv kv fns q:=h.frc f0 (by simp)
theorem zhS{k:Nat}(h:w.ownsRow 0 e size v n xs)(hk:v.ownBlock=some k):∃ cs t z,w.heap[k]?=some (.cells cs t z):=by
 rcases h.2 with ⟨rfl,_⟩|⟨g,cap,cur,rfl,_,hb,_⟩
 ·cases hk
 ·simp only[Value.ownBlock,zxL]at hk;subst hk;exact ⟨_,_,_,hb⟩
theorem BS.zfp{k:Nat}(h:BS Z w cb bb rv sv kv fns q)(hk:KL cb bb rv sv kv k):∃ cs t z,w.heap[k]?=some (.cells cs t z):=by
 obtain ⟨fv,hc1,_⟩:=h.zkk;obtain ⟨cvs,_,hr2,_⟩:=h.zkF;obtain ⟨vs,hk1,_⟩:=h.znO;rcases hk with rfl|rfl|e|e|e
 ·exact ⟨_,_,_,hc1⟩
 ·exact ⟨_,_,_,h.zbW⟩
 ·exact zhS hr2 e
 ·exact zhS h.ziJ e
 ·exact zhS hk1 e
theorem ztk{l:Nat}{x:Obj}(hx:w.heap[l]?=some x)(hc:∀ cs t f,x≠.cells cs t f):∀ k cs t z,w.heap[k]?=some (.cells cs t z)->¬ k=l:=by
 intro k cs t z hk e;subst e;rw[hk]at hx;cases hx;exact hc _ _ _ rfl
theorem Did.alloc{Z:Nat->Prop}{w w':World}{cb bb:Nat}{rv sv kv:Value}{fns:List Cp.Nm}{q:Cp.Bs}(h:Did Z w cb bb rv sv kv fns q w')(o:Obj):Did Z w cb bb rv sv kv fns q (w'.alloc o):=by
 obtain ⟨Z',rv',sv',kv',h1,h2,h3,h4,h5,h6⟩:=h;exact ⟨Z',rv',sv',kv',h1,h2.fr0 ((Fr.refl _ _).alloc _),h3.alloc _,h4,h5,h6⟩
theorem Did.putObj{Z:Nat->Prop}{w w':World}{cb bb l:Nat}{rv sv kv:Value}{fns:List Cp.Nm}{q:Cp.Bs}(h:Did Z w cb bb rv sv kv fns q w'){x:Obj}(o:Obj)(hl:w.heap.size<=l)(hx:w'.heap[l]?=some x)(hc:∀ cs t f,x≠.cells cs t f):Did Z w cb bb rv sv kv fns q (w'.putObj l o):=by
 obtain ⟨Z',rv',sv',kv',h1,h2,h3,h4,h5,h6⟩:=h;have f:Fr (fun k=>k=l) w' (w'.putObj l o):=⟨rfl,rfl,rfl,by rw[World.putObj_size];exact zxJ _,fun i _ hi=>World.putObj_heap_other hi⟩;exact ⟨Z',rv',sv',kv',h1,h2.frc f (ztk hx hc),h3.putObj _ hl,h4,h5,h6⟩
theorem Did.fr0{w1 w2:World}{q2:Cp.Bs}(f0:Fr (fun _=>False) w w1)(d:Did Z w1 cb bb rv sv kv fns q2 w2):Did Z w cb bb rv sv kv fns q2 w2:=
 Did.trans (fun _ _=>zzs) (f0.mono (fun _ h=>h.elim)) (New.refl _ _) (New.refl _ _) (New.refl _ _) d
theorem zxi{a b:List UInt8}:((⟨a.toArray⟩:ByteArray)=⟨b.toArray⟩)↔a=b:=by
 constructor
 ·intro e;simpa using congrArg (fun b:ByteArray=>b.data.toList) e
 ·rintro rfl;rfl
theorem zlv(x:Cp.Nm):∀ (l:List Cp.Nm) (i:Nat),x∈l->Lib.idxFromS (l.map fun s=>(⟨s.toArray⟩:ByteArray)) ⟨x.toArray⟩ i=((i+l.idxOf x:Nat):Int)
 |[],_,h=>by cases h
 |y::l,i,h=>by
  by_cases hyx:y=x
  ·subst hyx;simp[Lib.idxFromS]
  ·have hx:x∈l:=by
    rcases zyk.1 h with e|e
    ·exact absurd e.symm hyx
    ·exact e
   have ih:=zlv x l (i+1) hx;have hne:¬ ((⟨y.toArray⟩:ByteArray)=⟨x.toArray⟩):=fun e=>hyx (zxi.1 e)
   simp only[zx6,Lib.idxFromS,hne,if_false,ih];rw[List.idxOf_cons];simp only[show (y == x)=false by simpa using hyx,cond_false];omega
variable {l:List Cp.Nm}
variable {x:Cp.Nm}
theorem zrG(h:x∈l):Lib.idxOfS (l.map fun s=>(⟨s.toArray⟩:ByteArray)) ⟨x.toArray⟩=(l.idxOf x:Int):=by
 unfold Lib.idxOfS;rw[zlv x l 0 h,zyC]
variable {fv:Value}
theorem znr(h:Row Z w 9 1 fv fns.length (strCells fns))(hl:fns.length<=1000000000)(hx:x∈fns):
  Calls Tryz.prog 55 #[fv,.string ⟨x.toArray⟩] w fun e w'=>e=.returned (.int .i64 (fns.idxOf x:Nat))/\w'=w:=by
 have hpos:0<fns.length:=List.length_pos_of_mem hx;obtain ⟨sp,cap,g,rfl,hxl,hsp,_,hcl⟩:=zaN h.1;rw[hsp hpos];have e:=Tryz.slices_Index_string g 0 fns.length cap (fns.map fun s=>(⟨s.toArray⟩:ByteArray)) ⟨x.toArray⟩ w (by simp) (by omega) (fun j hj=>by
  rw[List.length_map]at hj;have h1:(strCells fns)[j]?=some (.string ⟨(fns[j]).toArray⟩):=by simp[strCells,hj]
  have:=hcl j _ h1;simpa [hj] using this)
 rw[zx4 (by simp),zrG hx]at e;exact e
theorem zsf(h:BS Z w cb bb rv sv kv fns q)(x:Cp.Nm)(hin:Cp.za8 q.zac x=none->x∈fns)(hl:q.code.length<=1000000000)(hl2:q.zac.length<=1000000000)(hl3:fns.length<=1000000000):
  Calls Tryz.prog 164 #[.pointer (some ⟨bb,0,none⟩),.string ⟨x.toArray⟩] w fun e w'=>e=.returned (.tuple #[])/\Did Z w cb bb rv sv kv fns (q.use fns x) w':=by
 have CS:=zab (znt h x hl2);have HH:=zab h;clear h;unfold zng at CS;unfold Cp.Bs.use;cases hs:Cp.za8 q.zac x with
 |some i=>
  rw[hs]at CS;simp only at CS;clear hin hs;have hi0:(0:Int)<=(i:Int):=by omega
  go_enter Tryz.func164,Tryz.ntmps164
  go_wp2_with fail
  refine CS.o.mono ?_;rintro e w1 ⟨rfl,f1⟩;have F1:=zab f1;have CP:=zab (zbl (i:=.push i) (HH.o.fr0 f1) rfl hl hl2);clear f1 CS;go_wp2_with fail
  refine CP.o.mono ?_;rintro e w2 ⟨rfl,D2⟩;have HD:=zab (Did.fr0 F1.o D2);clear D2;go_wp2_with fail
  first|go_end0|refine bodyPost_ret (results_none rfl _ _ _) rfl ?_
  exact ⟨rfl,HD.o⟩
 |none=>
  rw[hs]at CS;simp only at CS;have hx:=hin hs;clear hin hs;go_enter Tryz.func164,Tryz.ntmps164
  go_wp2_with fail
  refine CS.o.mono ?_;rintro e w1 ⟨rfl,f1⟩;have F1:=zab f1;have hb1:=HH.o.fr0 f1;obtain ⟨fv,hc1,hc2⟩:=hb1.zkk;have CI:=zab (znr hc2 hl3 hx);have b0:=Blk.cell hb1.zbW 0;have d0:=Blk.cell hc1 0;simp at b0 d0;have CP:=zab (zbl (i:=.zcS (fns.idxOf x)) hb1 rfl hl hl2);clear f1 CS hb1 hc1 hc2;go_wp2_with fail
  refine CI.o.mono ?_;rintro e w2 ⟨rfl,hw2⟩;subst w2;clear b0 d0 CI;go_wp2_with fail
  refine CP.o.mono ?_;rintro e w2 ⟨rfl,D2⟩;have HD:=zab (Did.fr0 F1.o D2);clear D2;go_wp2_with fail
  first|go_end0|refine bodyPost_ret (results_none rfl _ _ _) rfl ?_
  exact ⟨rfl,HD.o⟩
theorem zjW{zac:List Cp.Nm}{x:Cp.Nm}(hx:x≠[]):∀ k,k<=zac.length->Cp.zcp (zac++[[]]) x k=Cp.zcp zac x k
 |0,_=>rfl
 |k+1,hk=>by
  rw[Cp.zcp,Cp.zcp,zx8 (by omega),zjW hx k (by omega)]
theorem zpd{zac:List Cp.Nm}(hx:x≠[]):Cp.za8 (zac++[[]]) x=Cp.za8 zac x:=by
 unfold Cp.za8;rw[zxP,zxW,Cp.zcp,if_neg,zjW hx _ (zxJ _)];rw[zxZ (zxJ _),zzp];simpa using hx
theorem znk(fns:List Cp.Nm)(q:Cp.Bs)(x:Cp.Nm):(q.use fns x).zac=q.zac++[[]]/\(q.use fns x).code.length=q.code.length+1/\(q.use fns x).blocks=q.blocks:=by
 unfold Cp.Bs.use;split <;> simp[Cp.Bs.push]
theorem zbs(fns:List Cp.Nm):∀ (l:List Cp.Nm) (q:Cp.Bs),(l.foldl (Cp.Bs.use fns) q).zac.length=q.zac.length+l.length/\(l.foldl (Cp.Bs.use fns) q).code.length=q.code.length+l.length/\(∀ x,x≠[]->Cp.za8 (l.foldl (Cp.Bs.use fns) q).zac x=Cp.za8 q.zac x)
 |[],q=>⟨rfl,rfl,fun _ _=>rfl⟩
 |y::l,q=>by
  obtain ⟨h1,h2,h3⟩:=zbs fns l (q.use fns y);obtain ⟨u1,u2,_⟩:=znk fns q y;simp only[zyY,zx3];refine ⟨by rw[h1,u1,zxP,zxW];omega,by rw[h2,u2];omega,fun x hx=>?_⟩;rw[h3 x hx,u1,zpd hx]
theorem zbR{nv:Value}{names:List Cp.Nm}(h:BS Z w cb bb rv sv kv fns q)(hrow:Row Z w 9 1 nv names.length (strCells names))(hin:∀ x∈names,x≠[]/\(Cp.za8 q.zac x=none->x∈fns))(hl:q.code.length+names.length<=1000000000)(hl2:q.zac.length+names.length<=1000000000)(hl3:fns.length<=1000000000):
  Calls Tryz.prog 153 #[.pointer (some ⟨bb,0,none⟩),nv] w fun e w'=>e=.returned (.tuple #[])/\Did Z w cb bb rv sv kv fns (q.zak fns names) w':=by
 obtain ⟨sp,cap,g,hnv,hxl,hsp,hob,hcl⟩:=zaN hrow.1;subst hnv;have hzg:0<names.length->Z g:=fun h0=>hrow.2 g (hob h0)
 have HCL:=zab hcl;have HZG:=zab hzg;have HE:=zab (enters_of (P:=Tryz.prog) Tryz.func257 (by kernel_rfl) rfl);have HH:=zab h;have HIN:=zab hin;have hbl:=h.zbW.lt;clear h hcl hzg hob hrow hin;refine callsIn_wide.1 (callsIn_of_wp_marks (n:=5) Tryz.func153 rfl trivial (wpIn_wide.2 ?_) rfl);simp only[Tryz.ntmps153,zyw,zx3,zyi,Nat.reduceAdd,Nat.reduceSub,zyu,zyv,zyD,zyA,zx7,zx5];obtain ⟨Q,hQ⟩:∃ Q,bodyPostM Fence.wide 5 Tryz.prog Tryz.f153 (fun e w'=>e=.returned (.tuple #[])/\Did Z w cb bb rv sv kv fns (q.zak fns names) w')=Q:=⟨_,rfl⟩;have HQ:=zab hQ;rw[hQ];clear hQ;go_wp2_with fail
 refine (znT sp names.length cap _).mono ?_;rintro e w2 ⟨rfl,hw2⟩;simp only[World.size_alloc]at hw2 ⊢;have F2:Hid (Fr (fun _=>False) w w2):=zab (by rw[hw2];exact ((Fr.refl _ _).alloc _).alloc _);have BB0:Hid (Blk w2 w.heap.size [.pointer (some ⟨bb,0,none⟩)] 100):=zab (by rw[hw2];exact Fr.blk (K:=fun _=>False) (Blk.new w [.pointer (some ⟨bb,0,none⟩)] 100) ((Fr.refl _ _).alloc _) (by simp));have BB1:Hid (Blk w2 (w.heap.size+1) [.slice sp names.length cap] 38):=zab (by
  rw[hw2];have:=Blk.new (w.alloc (.cells #[.pointer (some ⟨bb,0,none⟩)] 100)) [.slice sp names.length cap] 38;rw[World.size_alloc]at this;exact this)
 have HS2:Hid (w2.heap.size=w.heap.size+2):=zab (by rw[hw2];simp);clear hw2;go_wp2_with fail
 have hvl:(strCells names).length=names.length:=zdB _;have hit:Iter 257 (w.heap.size+1) cap sp g (strCells names):=fun l J Jr hY hJc W h0=>znD l _ cap sp g (strCells names) (by omega) (fun h0=>hsp (by omega)) J Jr hY hJc W h0
 obtain ⟨J,hJ⟩:∃ J:Nat->World->Prop,∀ i W,J i W↔(i<=names.length/\Did Z w2 cb bb rv sv kv fns ((names.drop (names.length-i)).reverse.foldl (Cp.Bs.use fns) q) W):=⟨_,fun _ _=>zzs⟩;have HJ:=zab hJ;clear hJ;have HKL:Hid (∀ k,w.heap.size<=k->¬ KL cb bb rv sv kv k):=zab (fun k hk he=>by
  have h:=HH.o;rcases he with e|e|e|e|e
  ·have:=h.clt;omega
  ·omega
  ·have:=h.rlt k e;omega
  ·have:=h.slt k e;omega
  ·have:=h.klt k e;omega)
 refine zpq HE.o hit rfl J (fun _=>False) ?hall ?hput ?hputr ?h0 ?hJc ?hround ?hdone ?hret
 case hall=>exact fun i W o hW=>(HJ.o _ _).2 ⟨((HJ.o _ _).1 hW).1,((HJ.o _ _).1 hW).2.alloc _⟩
 case hput=>exact fun i W l xo o hW hl hx hc=>(HJ.o _ _).2 ⟨((HJ.o _ _).1 hW).1,((HJ.o _ _).1 hW).2.putObj _ hl hx hc⟩
 case hputr=>exact fun _ _ _ _ h=>h.elim
 case h0=>exact (HJ.o _ _).2 ⟨zx1 _,by rw[zzd,zy2 (zxJ _)];exact Did.refl (HH.o.fr0 F2.o)⟩
 case hJc=>
  intro i W hW;obtain ⟨_,Z',rv',sv',kv',_,_,f3,_⟩:=(HJ.o i W).1 hW;refine ⟨?_,fun j v hv=>?_⟩
  ·rw[hvl];simpa using Blk.cell (Fr.blk BB1.o f3 (HKL.o _ (by omega))) 0
  ·have h4:=HCL.o j v hv;have hj:=(zxH.1 hv).1;have hg:=HZG.o (by omega);have hgl:=HH.o.zlt g hg;refine (World.cell?_of_block (a:=⟨g,j,none⟩) (w:=w) ?_).trans h4;exact (f3.block g (zxO hgl F2.o.size) (HH.o.zk g hg)).trans (F2.o.block g hgl (by simp))
 case hret=>exact fun _ h=>h.elim
 case hdone=>
  intro W hW hD;obtain ⟨_,hd⟩:=(HJ.o _ W).1 hW;rw[hvl,zzp,zyX]at hd;show Q _ _ _;rw[<-HQ.o];refine zcc (base:=w2.heap.size) (I:=fun W'=>Did Z w2 cb bb rv sv kv fns (q.zak fns names) W') (by simp) (fun W' d hW' hd' hdd=>hW'.putObj _ hd' hdd (by simp)) (fun W' hW'=>?_) (zgT hD (zxJ _)) hd;exact ⟨_,results_none rfl _ _ _,rfl,Did.fr0 F2.o hW'⟩
 case hround=>
  intro l i c v W hJ hci hv;obtain ⟨y,hy,rfl⟩:=zj3 hv;rw[hvl]at hci;have hyl:=(zxH.1 hy).1;have HY:=zab hy;clear hv hJ hy;simp only[zxK,zxV,zxS]
  gi_wp2
  refine ⟨trivial,?_⟩;intro W2 h2 hD hlp;obtain ⟨hi,Z',rv',sv',kv',hz,hb,f3,n1,n2,n3⟩:=(HJ.o i W2).1 h2;obtain ⟨u1,u2,u3⟩:=zbs fns (names.drop (names.length-i)).reverse q;rw[zx0,zyp]at u1 u2;obtain ⟨hy1,hy2⟩:=HIN.o y (zxX HY.o);have b0:W2.cell? ⟨w.heap.size,0,none⟩=some (.pointer (some ⟨bb,0,none⟩)):=by simpa using Blk.cell (Fr.blk BB0.o f3 (HKL.o _ (zxJ _))) 0
  have CU:=zab (zsf hb y (by rw[u3 y hy1];exact hy2) (by omega) (by omega) hl3);have HFO:Hid ((names.drop (names.length-(i+1))).reverse.foldl (Cp.Bs.use fns) q=Cp.Bs.use fns ((names.drop (names.length-i)).reverse.foldl (Cp.Bs.use fns) q) y):=zab (by
   have e1:names.length-(i+1)=c:=by omega
   have e2:names.length-i=c+1:=by omega
   rw[e1,e2,zyn hyl,show names[c]=y from (zxH.1 HY.o).2,List.reverse_cons,List.foldl_append];rfl)
  have HKP:Hid (∀ w6,Fr (KL cb bb rv' sv' kv') W2 w6->w6.heap[w2.heap.size]?=W2.heap[w2.heap.size]?/\w6.heap[w2.heap.size+1]?=W2.heap[w2.heap.size+1]?):=zab (fun w6 f6=>by
   obtain ⟨rl,hrl⟩:=hlp;refine ⟨f6.block _ (zxU.1 hD).1 (fun e=>?_),f6.block _ (zxU.1 hrl).1 (fun e=>?_)⟩
   ·obtain ⟨_,_,_,h9⟩:=hb.zfp e;rw[hD]at h9;cases h9
   ·obtain ⟨_,_,_,h9⟩:=hb.zfp e;rw[hrl]at h9;cases h9)
  have HDD:=zab (And.intro hi (And.intro hz (And.intro f3 (And.intro n1 (And.intro n2 n3)))));clear h2 hD hlp hi hz hb f3 n1 n2 n3 u1 u2 u3 hy1 hy2
  gi_wp2
  refine ⟨trivial,rfl,(zc3 CU.o).mono ?_⟩;rintro e w6 ⟨rfl,D6⟩;have HD6:=zab D6;clear D6 b0
  gi_wp2
  refine ⟨(HJ.o _ _).2 ⟨by omega,?_⟩,?_⟩
  ·rw[HFO.o];obtain ⟨hi,hz,f3,n1,n2,n3⟩:=HDD.o;exact Did.trans hz f3 n1 n2 n3 HD6.o
  ·obtain ⟨_,_,_,_,_,_,f6,_⟩:=HD6.o;exact HKP.o _ f6
end Go.Proofs.YtgahgkddaljmkaaGreatDoor
namespace Go.Proofs.YtgahgkddaljmkaaGreatDoor
open Go.RowKit Go.Shelf
attribute [local go_sem ↓] Go.wp_at_zero Go.wp_at_succ
theorem zxG(w:World):(binOp .eql 38 (.slice none 0 0) (.slice none 0 0)).run Tryz.prog w=.ok (.bool true) w:=by kernel_rfl
theorem zwo(a:Addr)(n c:Nat)(w:World):(binOp .eql 38 (.slice (some a) n c) (.slice none 0 0)).run Tryz.prog w=.ok (.bool false) w:=by kernel_rfl
variable {Z:Nat->Prop}
variable {w:World}
variable {l:List Cp.Nm}
theorem znK{nv:Value}(h:Row Z w 9 1 nv l.length (strCells l))(hl:l.length<=1000000):
  Calls Tryz.prog 147 #[nv] w fun e w'=>∃ v',e=.returned v'/\w'.ownsRow w.heap.size 9 1 v' l.length (strCells l)/\Fr (fun _=>False) w w':=by
 have HH:=zab h;rcases zan h with hv|⟨g,cap,hv⟩
 ·subst hv;have hl0:l=[]:=by
   rcases h.1.2 with ⟨_,h0⟩|⟨_,_,_,h0,_⟩
   ·exact zyj.1 h0
   ·cases h0
  subst hl0;have qn:=zxG;clear h HH;go_enter Tryz.func147,Tryz.ntmps147
  go_wp2_with fail
  go_ret
  exact ⟨_,rfl,World.ownsRow_nil _ _ _ _,Fr.refl _ _⟩
 ·subst hv;have qn:=zwo;clear h;go_enter Tryz.func147,Tryz.ntmps147
  have HV:Hid ((w.alloc (.cells #[] 9)).ownsRow w.heap.size 9 1 (.slice (some ⟨w.heap.size,0,none⟩) 0 0) ([]:List Cp.Nm).length (strCells [])):=zab ⟨rfl,.inr ⟨w.heap.size,0,#[],rfl,zxJ _,Blk.new w [] 9,by simp,by simp[maxLen],rfl,rfl⟩⟩;have HX:Hid (Row Z (w.alloc (.cells #[] 9)) 9 1 (.slice (some ⟨g,0,none⟩) l.length cap) l.length (strCells l)):=zab (HH.o.frc (K:=fun _=>False) ((Fr.refl _ _).alloc _) (by simp));go_wp2_with (at_builtin;refine zfj (v:=.slice (some ⟨w.heap.size,0,none⟩) 0 0) (xv:=.slice (some ⟨g,0,none⟩) l.length cap) rfl _ _ rfl (l1:=[]) (l2:=l) (base:=w.heap.size) (S:=Z) rfl rfl HV.o HX.o (by simp) (by omega) (by simp) ?_;intro v' w' ho hg;have HO:=zab ho;have HG:=zab hg;clear ho hg)
  go_ret
  refine ⟨v',rfl,HO.o,((Fr.refl (fun _=>False) w).alloc (.cells #[] 9)).zjx HG.o (fun k hk e=>?_)⟩;simp only[Value.ownBlock,zxL]at e;omega
def zpY (w0:World) (g gf:Nat) (lb:Array Value) (p:Cp.Nm->Bool):Prop:=
 ∀ (W:World) (x:Cp.Nm),Fr (fun k=>k=g) w0 W->Calls Tryz.prog gf (#[.string ⟨x.toArray⟩]++lb) W fun e W'=>e=.returned (.bool (p x))/\Fr (fun _=>False) W W'
def zhW (p:Cp.Nm->Bool):List Cp.Nm->Nat->Int
 |[],_=>-1
 |x::l,i=>if p x=true then i else zhW p l (i+1)
variable {g cap:Nat}
theorem zlS{gf:Nat}{lb:Array Value}{p:Cp.Nm->Bool}(eg:∀ args w,(callFunc gf args).run Tryz.prog w=.ok (.enter gf args) w)(hp:zpY w g gf lb p)(h:w.ownsRow 0 9 1 (.slice (some ⟨g,0,none⟩) l.length cap) l.length (strCells l))(hl:l.length<=1000000):
  Calls Tryz.prog 211 #[.slice (some ⟨g,0,none⟩) l.length cap,.func (.func gf) #[] lb] w fun e w'=>e=.returned (.int .i64 (zhW p l 0))/\Fr (fun _=>False) w w':=by
 obtain ⟨_,_,g',hsv,hxl,_,_,hcl⟩:=zaN h;have HH:=zab h;have HP:=zab hp;have EG:=eg;clear h hp hcl eg;go_enter Tryz.func211,Tryz.ntmps211
 go_wp2_with fail
 go_loopg [8] l.length (fun gk iv wr=>∃ i:Nat,iv=.int .i64 i/\i+gk=l.length/\zhW p (l.drop i) i=zhW p l 0/\Fr (fun _=>False) w wr)
 case atStart=>exact ⟨0,rfl,by omega,rfl,Fr.refl _ _⟩
 case round=>
  obtain ⟨i,rfl,hi,hf,hfr⟩:=hrel;have HFR:=zab hfr;clear hfr;cases gk with
  |zero=>
   have hic:¬ (i:Int)<(l.length:Int):=by omega
   rw[zy2 (by omega)]at hf;have HF:=zab hf;clear hf;go_wp2_with fail
   go_ret
   exact ⟨by rw[<-HF.o];rfl,HFR.o⟩
  |succ gk=>
   have hic:(i:Int)<(l.length:Int):=by omega
   have hi0:(0:Int)<=(i:Int):=by omega
   obtain ⟨x,hx⟩:∃ x,l[i]?=some x:=⟨_,zxI (by omega)⟩;rw[zyn (by omega),show l[i]=x from (zxH.1 hx).2,zhW]at hf;have hown:=zhQ HH.o HFR.o (by simp);have cx:wr.cell? ⟨g,i,none⟩=some (.string ⟨x.toArray⟩):=by
    have:=hown.cells (g:=g) rfl i (.string ⟨x.toArray⟩) (by simp[strCells,hx]);simpa [zbb] using this
   have CP:=zab (HP.o wr x (HFR.o.mono (fun _ h=>h.elim)));have HF:=zab hf;clear hf hown hx;go_wp2_with fail
   refine CP.o.mono ?_;rintro e w2 ⟨rfl,f2⟩;have F2:=zab (HFR.o.trans f2);clear f2 cx CP;cases hpx:p x with
   |true=>
    have hf:=HF.o;rw[hpx,if_pos rfl]at hf;have HF2:=zab hf;clear hf hpx;go_wp2_with fail
    go_ret
    exact ⟨by rw[<-HF2.o];rfl,F2.o⟩
   |false=>
    have hf:=HF.o;rw[hpx,if_neg (by simp)]at hf;have HF2:=zab hf;clear hf hpx;go_wp2_with fail
    go_roundg gk
    case measure=>omega
    case rel=>exact ⟨i+1,by go_num,by omega,HF2.o,F2.o⟩
variable {n:Nat}
variable {vs:List Value}
theorem zuc{W:World}{i:Nat}(c:Nat)(ty:TypeId)(h:Blk W g vs 9)(hi:i<n)(hn:n<=vs.length):
  (Builtin.clear_ #[38] ty #[.slice (some ⟨g,i,none⟩) (n-i) c]).run Tryz.prog W=.ok (.tuple #[]) (W.setRow g (vs.take i++List.replicate (n-i) (Value.string ⟨#[]⟩)++vs.drop n).toArray):=by
 obtain ⟨i0,hi0,hz0,hz1,hz2⟩:=info_parts zeN;have hu:Tryz.prog.underlying 38=some (.slice 9):=Tryz.underlying38;obtain ⟨m,hm⟩:∃ m,n-i=m+1:=⟨n-i-1,by omega⟩;have hz:(zeroValue 9).run Tryz.prog W=.ok (.string ⟨#[]⟩) W:=by kernel_rfl
 have hzc:(Builtin.zeroCells (Value.cells (.string ⟨#[]⟩)) (m+1)).toList=List.replicate (m+1) (Value.string ⟨#[]⟩):=by
  apply List.ext_getElem
  ·simp[Builtin.zeroCells,Value.cells]
  ·intro j h1 h2;simp[Builtin.zeroCells,Value.cells,Nat.mod_one]
 have hst:=run_storeCells_at (P:=Tryz.prog) g i 9 (List.replicate (m+1) (Value.string ⟨#[]⟩)) 0 vs.toArray W h (by simp;omega) (by intro v hv;rw[zyM hv];rfl);rw[hm];unfold Builtin.clear_;simp[Sem.run_bind,run_underlying hu,Result.andThen,hz,hzc,hst];rw[show i+(m+1)=n by omega]
theorem zjO(p:Cp.Nm->Bool):∀ (l:List Cp.Nm) (i:Nat),(zhW p l i=-1/\l.filter (fun x=>!p x)=l)\/∃ k,zhW p l i=((i+k:Nat):Int)/\k<l.length/\(l.take (k+1)).filter (fun x=>!p x)=l.take k
 |[],_=>.inl ⟨rfl,rfl⟩
 |x::l,i=>by
  rw[zhW];cases hp:p x with
  |true=>
   right;refine ⟨0,by simp,by simp,?_⟩;simp[hp]
  |false=>
   rw[if_neg (by simp)];rcases zjO p l (i+1) with ⟨h1,h2⟩|⟨k,h1,h2,h3⟩
   ·exact .inl ⟨h1,by rw[List.filter_cons,hp];simp[h2]⟩
   ·refine .inr ⟨k+1,by rw[h1];congr 1;omega,by simp;omega,?_⟩;rw[List.take_succ_cons,List.filter_cons,hp];simp only[Bool.not_false,if_true];rw[h3,List.take_succ_cons]
variable {base:Nat}
variable {xs:List Value}
theorem ztA(h:w.ownsRow base 9 1 (.slice (some ⟨g,0,none⟩) n cap) n xs):∃ vs,Blk w g vs 9/\vs.length=cap/\n<=cap/\cap<=maxLen/\base<=g/\vs.take n=xs:=by
 rcases h.2 with ⟨h0,_⟩|⟨g',cap',cur,h0,hb,hg,hn,hm,hc,ht⟩
 ·cases h0
 ·cases h0;exact ⟨cur.toList,hg,by simpa using hc,hn,hm,hb,by simpa using ht⟩
theorem zgr(h:Blk w g vs 9)(h1:vs.length=cap)(h2:n<=cap)(h3:cap<=maxLen)(h4:base<=g)(h5:vs.take n=xs):w.ownsRow base 9 1 (.slice (some ⟨g,0,none⟩) n cap) n xs:=by
 refine ⟨by rw[<-h5,zyb];omega,.inr ⟨g,cap,vs.toArray,rfl,h4,h,h2,h3,by simp[h1],by simpa using h5⟩⟩
theorem zuZ{i:Nat}(hi:i<n)(hn:n<=cap):∀ W:World,(Instr.slice 38 (.slice (some ⟨g,0,none⟩) n cap) (some (.int .i64 (i:Int))) none none).run Tryz.prog W=.ok (.slice (some ⟨g,i,none⟩) (n-i) (cap-i)) W:=by
 intro W;rw[run_slice_l W 38 _ _ _ Tryz.underlying38 .i64 _ (by omega) (by omega)];have e3:Tryz.prog.elem 38=9:=by kernel_rfl
 rw[e3,Tryz.sizeOf9];simp only[Result.andThen,sliced,zxY,zzn,zyL,zbb,zyC];rw[if_neg (by omega)]
theorem zq7{W:World}{vs':List Value}(h:Blk W g vs 9):Blk (W.setRow g vs'.toArray) g vs' 9/\Fr (fun k=>k=g) W (W.setRow g vs'.toArray):=by
 refine ⟨?_,(Fr.refl _ _).setRow g _ rfl⟩;unfold Blk at *;exact setRow_heap W g _ _ 9 _ h
theorem zfU{gf:Nat}{lb:Array Value}{p:Cp.Nm->Bool}(eg:∀ args w,(callFunc gf args).run Tryz.prog w=.ok (.enter gf args) w)(hp:zpY w g gf lb p)(h:w.ownsRow base 9 1 (.slice (some ⟨g,0,none⟩) l.length cap) l.length (strCells l))(hl:l.length<=1000000):
  Calls Tryz.prog 146 #[.slice (some ⟨g,0,none⟩) l.length cap,.func (.func gf) #[] lb] w fun e w'=>∃ n',e=.returned (.slice (some ⟨g,0,none⟩) n' cap)/\n'=(l.filter (fun x=>!p x)).length/\w'.ownsRow base 9 1 (.slice (some ⟨g,0,none⟩) n' cap) n' (strCells (l.filter (fun x=>!p x)))/\Fr (fun k=>k=g) w w':=by
 obtain ⟨vs0,hb0,hv0,hnc,hcm,hbg,ht0⟩:=ztA h;have CI:=zab (zlS eg hp (zaY h (zx1 _)) hl);have HP:=zab hp;have HB0:=zab hb0;have HH:=zab h;have EG:=eg;clear h hp eg hb0;rcases zjO p l 0 with ⟨h1,h2⟩|⟨k,h1,h2,h3⟩
 ·rw[h1]at CI;have HF:=zab h2;clear h1 h2;go_enter Tryz.func146,Tryz.ntmps146
  go_wp2_with fail
  refine CI.o.mono ?_;rintro e w1 ⟨rfl,f1⟩;have F1:=zab f1;clear f1;go_wp2_with fail
  go_ret
  refine ⟨l.length,rfl,by rw[HF.o],?_,F1.o.mono (fun _ h=>h.elim)⟩;rw[HF.o];exact zgr (Fr.blk HB0.o F1.o (by simp)) hv0 hnc hcm hbg ht0
 ·rw[h1,zyC]at CI;have hkm:((k:Int) == -1)=false:=by rw[beq_eq_false_iff_ne];omega
  have HF:=zab h3;clear h1 h3;go_enter Tryz.func146,Tryz.ntmps146
  go_wp2_with fail
  refine CI.o.mono ?_;rintro e w1 ⟨rfl,f1⟩;have F1:=zab f1;clear f1;go_wp2_with fail
  go_loopg [5,6] (l.length-(k+1)) (fun gk iv jv wr=>∃ (i j:Nat) (vs:List Value),iv=.int .i64 i/\jv=.int .i64 j/\j+gk=l.length/\i<j/\Blk wr g vs 9/\vs.length=cap/\vs.take i=strCells ((l.take j).filter (fun x=>!p x))/\(∀ t,j<=t->t<l.length->vs[t]?=(strCells l)[t]?)/\Fr (fun k=>k=g) w wr)
  case atStart=>
   refine ⟨k,k+1,vs0,rfl,by go_num,by omega,by omega,Fr.blk HB0.o F1.o (by simp),hv0,?_,fun t h1 h2=>?_,F1.o.mono (fun _ h=>h.elim)⟩
   ·rw[HF.o];have:vs0.take k=(vs0.take l.length).take k:=by rw[zzk,zyO (by omega)]
    rw[this,ht0];simp[strCells]
   ·rw[<-ht0,List.getElem?_take_of_lt h2]
  case round=>
   obtain ⟨i,j,vs,rfl,rfl,hgk,hij,hb,hvl,hti,hrest,hfr⟩:=hrel;cases gk with
   |zero=>
    have hjn:j=l.length:=by omega
    subst hjn;have hjc:¬ (l.length:Int)<(l.length:Int):=by omega
    rw[zx4 (zxJ _)]at hti;have qcl:=fun ty=>zuc (cap-i) ty hb (show i<l.length by omega) (show l.length<=vs.length by omega)
    have qsl:=zuZ (g:=g) hij hnc;have qsl2:=zpW (g:=g) (n:=l.length) (d:=i) (show i<=cap by omega);obtain ⟨hb2,fb2⟩:=zq7 (vs':=vs.take i++List.replicate (l.length-i) (Value.string ⟨#[]⟩)++vs.drop l.length) hb;have fb3:=hfr.trans fb2;obtain ⟨W3,hW3⟩:∃ W3,wr.setRow g (vs.take i++List.replicate (l.length-i) (Value.string ⟨#[]⟩)++vs.drop l.length).toArray=W3:=⟨_,rfl⟩;rw[hW3]at hb2 fb3;simp only[hW3]at qcl;have HB2:=zab hb2;have FB2:=zab fb3;have HTI:=zab hti;have hlv:(vs.take i++List.replicate (l.length-i) (Value.string ⟨#[]⟩)++vs.drop l.length).length=cap:=by simp;omega
    have hlt:(vs.take i++List.replicate (l.length-i) (Value.string ⟨#[]⟩)++vs.drop l.length).take i=vs.take i:=by
     rw[zye,List.take_append_of_le_length (by rw[zyb];omega),zzk,Nat.min_self]
    have HLV:=zab (And.intro hlv hlt);have hil:i=(l.filter (fun x=>!p x)).length:=by
     have e9:(vs.take i).length=(strCells (l.filter (fun x=>!p x))).length:=by rw[hti]
     rw[zdB,zyb,zyO (by omega)]at e9;exact e9
    have HIL:=zab hil;clear hb hb2 fb2 fb3 hW3 hfr hti hlv hlt hrest hil;go_wp2_with fail
    go_ret
    refine ⟨i,rfl,HIL.o,?_,FB2.o⟩;exact zgr HB2.o HLV.o.1 (by omega) hcm hbg (HLV.o.2.trans HTI.o)
   |succ gk=>
    have hjl:j<l.length:=by omega
    have hjc:(j:Int)<(l.length:Int):=by omega
    have hj0:(0:Int)<=(j:Int):=by omega
    have hi0:(0:Int)<=(i:Int):=by omega
    have hic:(i:Int)<(l.length:Int):=by omega
    obtain ⟨x,hx⟩:∃ x,l[j]?=some x:=⟨_,zxI hjl⟩;have cx:wr.cell? ⟨g,j,none⟩=some (.string ⟨x.toArray⟩):=by
     have:=Blk.cell hb j;rw[hrest j (zxJ _) hjl]at this;rw[this];simp[strCells,hx]
    have CP:=zab (HP.o wr x hfr);have htk:l.take (j+1)=l.take j++[x]:=zaJ hx;have HTK:=zab htk;have HBW:=zab hb;have HFW:=zab hfr;have HTI:=zab hti;have HRE:=zab hrest;clear hb hfr hti hrest htk hx;go_wp2_with fail
    refine CP.o.mono ?_;rintro e w2 ⟨rfl,f2⟩;have F2:=zab (HFW.o.trans (f2.mono (fun _ h=>h.elim)));have B2:=zab (Fr.blk HBW.o f2 (by simp));clear f2 cx CP;cases hpx:p x with
    |true=>
     have HE:Hid ((l.take (j+1)).filter (fun x=>!p x)=(l.take j).filter (fun x=>!p x)):=zab (by rw[HTK.o,List.filter_append];simp[hpx]);clear hpx;go_wp2_with fail
     go_roundg gk
     case measure=>omega
     case rel=>exact ⟨i,j+1,vs,rfl,by go_num,by omega,by omega,B2.o,hvl,by rw[HE.o];exact HTI.o,fun t h1 h2=>HRE.o t (by omega) h2,F2.o⟩
    |false=>
     have HE:Hid ((l.take (j+1)).filter (fun x=>!p x)=(l.take j).filter (fun x=>!p x)++[x]):=zab (by rw[HTK.o,List.filter_append];simp[hpx]);have ci:=Blk.cell B2.o i;have hvi:vs[i]?=some vs[i]:=zxI (by omega);rw[hvi]at ci;have cf:=Blk.frozen B2.o i;have HB3:=zab (B2.o.set i (.string ⟨x.toArray⟩));have HF3:Hid (Fr (fun k=>k=g) w (w2.setCell ⟨g,i,none⟩ (.string ⟨x.toArray⟩))):=zab (F2.o.set _ _ (.inl rfl));clear hpx hvi;go_wp2_with fail
     go_roundg gk
     case measure=>omega
     case rel=>
      refine ⟨i+1,j+1,vs.set i (.string ⟨x.toArray⟩),by go_num,by go_num,by omega,by omega,HB3.o,by simpa using hvl,?_,fun t h1 h2=>?_,HF3.o⟩
      ·rw[HE.o];have e1:(vs.set i (Value.string ⟨x.toArray⟩)).take (i+1)=vs.take i++[.string ⟨x.toArray⟩]:=by
        rw[zaJ (List.getElem?_set_self (by omega)),List.take_set_of_le (zxJ _)]
       rw[e1,HTI.o];simp[strCells]
      ·rw[zzi (by omega)];exact HRE.o t (by omega) h2
variable {fv:Value}
theorem zl1 :
  Calls Tryz.prog 211 #[.slice none 0 0,fv] w fun e w'=>e=.returned (.int .i64 (-1))/\w'=w:=by
 go_enter Tryz.func211,Tryz.ntmps211
 go_wp2_with fail
 refine wp_loop_rounds 1 ?_;rw[rounds_succ];go_wp2_with fail
 go_ret
 exact ⟨rfl,rfl⟩
theorem zf6 :
  Calls Tryz.prog 146 #[.slice none 0 0,fv] w fun e w'=>e=.returned (.slice none 0 0)/\w'=w:=by
 go_enter Tryz.func146,Tryz.ntmps146
 go_wp2_with fail
 refine zl1.mono ?_;rintro e w1 ⟨rfl,hw1⟩;subst w1;go_wp2_with fail
 go_ret
 exact ⟨rfl,rfl⟩
theorem zn7{bx:Nat}{gv:Value}{gone:List Cp.Nm}(hb:Blk w bx [gv] 38)(hr:w.ownsRow 0 9 1 gv gone.length (strCells gone))(hl:gone.length<=1000000)(x:Cp.Nm):
  Calls Tryz.prog 213 #[.string ⟨x.toArray⟩,.pointer (some ⟨bx,0,none⟩)] w fun e w'=>e=.returned (.bool (gone.contains x))/\Fr (fun _=>False) w w':=by
 have c0:=Blk.cell hb 0;simp at c0;have CC0:=zcI hr hl ⟨x.toArray⟩;have e0:(⟨x.toArray⟩:ByteArray).data.toList=x:=by simp
 rw[e0]at CC0;generalize gone.contains x=bv at CC0 ⊢;have CC:=zab CC0;clear hb hr CC0;go_enter Tryz.func213,Tryz.ntmps213
 go_wp2_with fail
 refine CC.o.mono ?_;rintro e w1 ⟨rfl,hw1⟩;subst w1;go_wp2_with fail
 go_ret
 exact ⟨rfl,Fr.refl _ _⟩
theorem zjy{Z1 Z2:Nat->Prop}{lv gv:Value}{gone:List Cp.Nm}(h1:Row Z1 w 9 1 lv l.length (strCells l))(h2:Row Z2 w 9 1 gv gone.length (strCells gone))(hl1:l.length<=1000000)(hl2:gone.length<=1000000):
  Calls Tryz.prog 152 #[lv,gv] w fun e w'=>∃ v',e=.returned v'/\w'.ownsRow w.heap.size 9 1 v' (Cp.zaG l gone).length (strCells (Cp.zaG l gone))/\Fr (fun _=>False) w w':=by
 have hmf:∀ (fn:Fn) (first cap:Array Value) (w:World),(Instr.makeFunc fn first cap).run Tryz.prog w=.ok (.func fn first cap) w:=fun _ _ _ _=>rfl
 obtain ⟨gp,gc,gg,hgv,_⟩:=zaN h2.1;subst hgv;have F1:Hid (Fr (fun _=>False) w (w.alloc (.cells #[.slice gp gone.length gc] 38))):=zab ((Fr.refl _ _).alloc _);have B1:=zab (Blk.new w [.slice gp gone.length gc] 38);have CC:=zab (znK (h1.frc F1.o (by simp)) hl1);have H2:=zab h2;have EG:=enters_of (P:=Tryz.prog) Tryz.func213 (by kernel_rfl) rfl;have HEG:=zab EG;clear h1 h2 EG;go_enter Tryz.func152,Tryz.ntmps152
 go_wp2_with fail
 refine CC.o.mono ?_;rintro e w2 ⟨v',rfl,hown,f2⟩;have F2:=zab (F1.o.trans f2);have B2:=zab (Fr.blk B1.o f2 (by simp));have HO:=zab hown;have hsz:=World.size_alloc w (.cells #[.slice gp gone.length gc] 38);rcases zan (Row.zaE hown) with hv|⟨g,cap,hv⟩
 ·subst hv;have hl0:l=[]:=by
   rcases hown.2 with ⟨_,h0⟩|⟨_,_,_,h0,_⟩
   ·exact zyj.1 h0
   ·cases h0
  subst hl0;clear hown f2 CC hsz;go_wp2_with fail
  refine zf6.mono ?_;rintro e w3 ⟨rfl,hw3⟩;subst w3;go_wp2_with fail
  go_ret
  exact ⟨_,rfl,World.ownsRow_nil _ _ _ _,F2.o⟩
 ·subst hv;have hgl:w.heap.size+1<=g:=by have:=(hown.lt g rfl).1;omega
  have hp:zpY w2 g 213 #[.pointer (some ⟨w.heap.size,0,none⟩)] (fun x=>gone.contains x):=fun W x fW=>by
   have hr:Row (fun _=>True) W 9 1 (.slice gp gone.length gc) gone.length (strCells gone):=by
    refine Row.frz (Z:=fun k=>k<w.heap.size) (K:=fun k=>k=g) ?_ fW (fun k hk hz e=>by omega) (fun _ _ _=>trivial);exact ⟨(Row.frc H2.o F2.o (by simp)).1,fun k hk=>(H2.o.1.lt k hk).2⟩
   exact zn7 (Fr.blk B2.o fW (by omega)) hr.1 hl2 x
  have CD:=zab (zfU HEG.o hp hown hl1);clear hown f2 CC hp hsz;go_wp2_with fail
  refine CD.o.mono ?_;rintro e w3 ⟨n',rfl,hn,ho3,f3⟩;have HO3:=zab ho3;have F3:=zab (F2.o.drop f3 (fun i hi e=>by omega));have HN:=zab hn;clear ho3 f3 CD hn;go_wp2_with fail
  go_ret
  have hn:=HN.o;subst hn;exact ⟨_,rfl,zaY HO3.o (by rw[World.size_alloc];omega),F3.o⟩
variable {cb bb:Nat}
variable {rv sv kv:Value}
variable {fns:List Cp.Nm}
variable {q:Cp.Bs}
theorem zsV{bx:Nat}(hb:Blk w bx [.pointer (some ⟨bb,0,none⟩)] 100)(h:BS Z w cb bb rv sv kv fns q)(hl:q.zac.length<=1000000000)(x:Cp.Nm):
  Calls Tryz.prog 148 #[.string ⟨x.toArray⟩,.pointer (some ⟨bx,0,none⟩)] w fun e w'=>e=.returned (.bool (!(Cp.za8 q.zac x).isSome))/\Fr (fun _=>False) w w':=by
 have c0:=Blk.cell hb 0;simp at c0;have CC:=zab (znt h x hl);clear hb h;unfold zng at CC;cases hs:Cp.za8 q.zac x with
 |none=>
  rw[hs]at CC;simp only at CC;clear hs;go_enter Tryz.func148,Tryz.ntmps148
  go_wp2_with fail
  refine CC.o.mono ?_;rintro e w1 ⟨rfl,f1⟩;have F1:=zab f1;clear f1;go_wp2_with fail
  go_ret
  exact ⟨rfl,F1.o⟩
 |some i=>
  rw[hs]at CC;simp only at CC;have hi:¬ (i:Int)<0:=by omega
  clear hs;go_enter Tryz.func148,Tryz.ntmps148
  go_wp2_with fail
  refine CC.o.mono ?_;rintro e w1 ⟨rfl,f1⟩;have F1:=zab f1;clear f1;go_wp2_with fail
  go_ret
  refine ⟨?_,F1.o⟩;simp[hi]
theorem zch{Z1:Nat->Prop}{lv:Value}(h:BS Z w cb bb rv sv kv fns q)(h1:Row Z1 w 9 1 lv l.length (strCells l))(hl1:l.length<=1000000)(hl2:q.zac.length<=1000000000):
  Calls Tryz.prog 88 #[.pointer (some ⟨bb,0,none⟩),lv] w fun e w'=>∃ v',e=.returned v'/\w'.ownsRow w.heap.size 9 1 v' (Cp.zai q.zac l).length (strCells (Cp.zai q.zac l))/\Fr (fun _=>False) w w':=by
 have hmf:∀ (fn:Fn) (first cap:Array Value) (w:World),(Instr.makeFunc fn first cap).run Tryz.prog w=.ok (.func fn first cap) w:=fun _ _ _ _=>rfl
 have F1:Hid (Fr (fun _=>False) w (w.alloc (.cells #[.pointer (some ⟨bb,0,none⟩)] 100))):=zab ((Fr.refl _ _).alloc _);have B1:=zab (Blk.new w [.pointer (some ⟨bb,0,none⟩)] 100);have CC:=zab (znK (h1.frc F1.o (by simp)) hl1);have HH:=zab h;have HEG:=zab (enters_of (P:=Tryz.prog) Tryz.func148 (by kernel_rfl) rfl);clear h1 h;go_enter Tryz.func88,Tryz.ntmps88
 go_wp2_with fail
 refine CC.o.mono ?_;rintro e w2 ⟨v',rfl,hown,f2⟩;have F2:=zab (F1.o.trans f2);have B2:=zab (Fr.blk B1.o f2 (by simp));have hsz:=World.size_alloc w (.cells #[.pointer (some ⟨bb,0,none⟩)] 100);rcases zan (Row.zaE hown) with hv|⟨g,cap,hv⟩
 ·subst hv;have hl0:l=[]:=by
   rcases hown.2 with ⟨_,h0⟩|⟨_,_,_,h0,_⟩
   ·exact zyj.1 h0
   ·cases h0
  subst hl0;clear hown f2 CC hsz;go_wp2_with fail
  refine zf6.mono ?_;rintro e w3 ⟨rfl,hw3⟩;subst w3;go_wp2_with fail
  go_ret
  exact ⟨_,rfl,World.ownsRow_nil _ _ _ _,F2.o⟩
 ·subst hv;have hgl:w.heap.size+1<=g:=by have:=(hown.lt g rfl).1;omega
  have hp:zpY w2 g 148 #[.pointer (some ⟨w.heap.size,0,none⟩)] (fun x=>!(Cp.za8 q.zac x).isSome):=fun W x fW=>by
   have fwW:Fr (fun _=>False) w W:=F2.o.drop fW (fun i hi e=>by omega);exact zsV (Fr.blk B2.o fW (by omega)) (HH.o.fr0 fwW) hl2 x
  have CD:=zab (zfU HEG.o hp hown hl1);clear hown f2 CC hp hsz;go_wp2_with fail
  refine CD.o.mono ?_;rintro e w3 ⟨n',rfl,hn,ho3,f3⟩;have HO3:=zab ho3;have F3:=zab (F2.o.drop f3 (fun i hi e=>by omega));have HN:=zab hn;clear ho3 f3 CD hn;go_wp2_with fail
  go_ret
  have hn:=HN.o;subst hn;have e9:Cp.zai q.zac l=l.filter (fun x=>!!(Cp.za8 q.zac x).isSome):=by simp[Cp.zai]
  rw[e9];exact ⟨_,rfl,zaY HO3.o (by rw[World.size_alloc];omega),F3.o⟩
end Go.Proofs.YtgahgkddaljmkaaGreatDoor
namespace Go.Proofs.YtgahgkddaljmkaaGreatDoor
open Go.RowKit
abbrev TY (a b:TypeId):Prop:=∀ (x:Value) (w:World),(Instr.typeAssert (.iface a x) 91 b true).run Tryz.prog w=.ok (.tuple #[x,.bool true]) w
abbrev TN (a b:TypeId) (v:Value):Prop:=∀ (x:Value) (w:World),(Instr.typeAssert (.iface a x) 91 b true).run Tryz.prog w=.ok (.tuple #[v,.bool false]) w
theorem zlh:TY 215 215:=fun _ _=>by kernel_rfl
theorem znZ:TN 215 219 (.agg #[.int .i64 0,.int .i64 0]):=fun _ _=>by kernel_rfl
theorem zja:TN 215 163 (.agg #[.nilIface,.nilIface]):=fun _ _=>by kernel_rfl
theorem ziz:TN 215 166 (.agg #[.string ⟨#[]⟩,.nilIface,.nilIface]):=fun _ _=>by kernel_rfl
theorem zq2:TN 215 178 (.agg #[.bool false,.slice none 0 0,.nilIface]):=fun _ _=>by kernel_rfl
theorem zpw:TN 215 173 (.agg #[.nilIface,.slice none 0 0]):=fun _ _=>by kernel_rfl
theorem zmv:TN 215 226 (.agg #[.slice none 0 0,.nilIface]):=fun _ _=>by kernel_rfl
theorem zgJ:TN 217 215 (.agg #[.string ⟨#[]⟩,.int .i64 0]):=fun _ _=>by kernel_rfl
theorem ziy:TY 217 217:=fun _ _=>by kernel_rfl
theorem zjF:TN 217 219 (.agg #[.int .i64 0,.int .i64 0]):=fun _ _=>by kernel_rfl
theorem zdJ:TN 217 163 (.agg #[.nilIface,.nilIface]):=fun _ _=>by kernel_rfl
theorem zdc:TN 217 166 (.agg #[.string ⟨#[]⟩,.nilIface,.nilIface]):=fun _ _=>by kernel_rfl
theorem zgZ:TN 217 178 (.agg #[.bool false,.slice none 0 0,.nilIface]):=fun _ _=>by kernel_rfl
theorem zf8:TN 217 173 (.agg #[.nilIface,.slice none 0 0]):=fun _ _=>by kernel_rfl
theorem zet:TN 217 226 (.agg #[.slice none 0 0,.nilIface]):=fun _ _=>by kernel_rfl
theorem zfc:TN 219 215 (.agg #[.string ⟨#[]⟩,.int .i64 0]):=fun _ _=>by kernel_rfl
theorem zeW:TN 219 217 (.agg #[.int .i64 0]):=fun _ _=>by kernel_rfl
theorem zdE:TY 219 219:=fun _ _=>by kernel_rfl
theorem zen:TN 219 163 (.agg #[.nilIface,.nilIface]):=fun _ _=>by kernel_rfl
theorem zdv:TN 219 166 (.agg #[.string ⟨#[]⟩,.nilIface,.nilIface]):=fun _ _=>by kernel_rfl
theorem zhX:TN 219 178 (.agg #[.bool false,.slice none 0 0,.nilIface]):=fun _ _=>by kernel_rfl
theorem zhi:TN 219 173 (.agg #[.nilIface,.slice none 0 0]):=fun _ _=>by kernel_rfl
theorem ze6:TN 219 226 (.agg #[.slice none 0 0,.nilIface]):=fun _ _=>by kernel_rfl
theorem zjU:TN 163 215 (.agg #[.string ⟨#[]⟩,.int .i64 0]):=fun _ _=>by kernel_rfl
theorem zkP:TN 163 217 (.agg #[.int .i64 0]):=fun _ _=>by kernel_rfl
theorem zhb:TN 163 219 (.agg #[.int .i64 0,.int .i64 0]):=fun _ _=>by kernel_rfl
theorem zeF:TY 163 163:=fun _ _=>by kernel_rfl
theorem zkp:TN 163 226 (.agg #[.slice none 0 0,.nilIface]):=fun _ _=>by kernel_rfl
theorem zev:TN 166 215 (.agg #[.string ⟨#[]⟩,.int .i64 0]):=fun _ _=>by kernel_rfl
theorem zgl:TN 166 217 (.agg #[.int .i64 0]):=fun _ _=>by kernel_rfl
theorem zdz:TN 166 219 (.agg #[.int .i64 0,.int .i64 0]):=fun _ _=>by kernel_rfl
theorem zcA:TN 166 163 (.agg #[.nilIface,.nilIface]):=fun _ _=>by kernel_rfl
theorem zcu:TY 166 166:=fun _ _=>by kernel_rfl
theorem zgp:TN 166 226 (.agg #[.slice none 0 0,.nilIface]):=fun _ _=>by kernel_rfl
theorem zkY:TN 178 215 (.agg #[.string ⟨#[]⟩,.int .i64 0]):=fun _ _=>by kernel_rfl
theorem zlR:TN 178 217 (.agg #[.int .i64 0]):=fun _ _=>by kernel_rfl
theorem zic:TN 178 219 (.agg #[.int .i64 0,.int .i64 0]):=fun _ _=>by kernel_rfl
theorem zgo:TN 178 163 (.agg #[.nilIface,.nilIface]):=fun _ _=>by kernel_rfl
theorem zew:TN 178 166 (.agg #[.string ⟨#[]⟩,.nilIface,.nilIface]):=fun _ _=>by kernel_rfl
theorem zlC:TY 178 178:=fun _ _=>by kernel_rfl
theorem zoX:TN 178 173 (.agg #[.nilIface,.slice none 0 0]):=fun _ _=>by kernel_rfl
theorem zmb:TN 178 226 (.agg #[.slice none 0 0,.nilIface]):=fun _ _=>by kernel_rfl
theorem zjj:TN 173 215 (.agg #[.string ⟨#[]⟩,.int .i64 0]):=fun _ _=>by kernel_rfl
theorem zkO:TN 173 217 (.agg #[.int .i64 0]):=fun _ _=>by kernel_rfl
theorem zhn:TN 173 219 (.agg #[.int .i64 0,.int .i64 0]):=fun _ _=>by kernel_rfl
theorem zeK:TN 173 163 (.agg #[.nilIface,.nilIface]):=fun _ _=>by kernel_rfl
theorem zdO:TN 173 166 (.agg #[.string ⟨#[]⟩,.nilIface,.nilIface]):=fun _ _=>by kernel_rfl
theorem zpB:TN 173 178 (.agg #[.bool false,.slice none 0 0,.nilIface]):=fun _ _=>by kernel_rfl
theorem zh2:TY 173 173:=fun _ _=>by kernel_rfl
theorem zkQ:TN 173 226 (.agg #[.slice none 0 0,.nilIface]):=fun _ _=>by kernel_rfl
theorem zg4:TN 226 215 (.agg #[.string ⟨#[]⟩,.int .i64 0]):=fun _ _=>by kernel_rfl
theorem zik:TN 226 217 (.agg #[.int .i64 0]):=fun _ _=>by kernel_rfl
theorem ziX:TN 226 219 (.agg #[.int .i64 0,.int .i64 0]):=fun _ _=>by kernel_rfl
theorem zdD:TN 226 163 (.agg #[.nilIface,.nilIface]):=fun _ _=>by kernel_rfl
theorem zdg:TN 226 166 (.agg #[.string ⟨#[]⟩,.nilIface,.nilIface]):=fun _ _=>by kernel_rfl
theorem zgB:TN 226 178 (.agg #[.bool false,.slice none 0 0,.nilIface]):=fun _ _=>by kernel_rfl
theorem zfZ:TN 226 173 (.agg #[.nilIface,.slice none 0 0]):=fun _ _=>by kernel_rfl
theorem zeu:TY 226 226:=fun _ _=>by kernel_rfl
end Go.Proofs.YtgahgkddaljmkaaGreatDoor
