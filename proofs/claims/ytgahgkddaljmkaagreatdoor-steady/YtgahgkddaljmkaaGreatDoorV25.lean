/- Cmp30 .. Cmp34 -/
import Derived.Test.YtgahgkddaljmkaaGreatDoorV24
import Derived.Test.YtgahgkddaljmkaaGreatDoorV1
set_option maxRecDepth 100000
set_option maxHeartbeats 4000000
namespace Go.Proofs.YtgahgkddaljmkaaGreatDoor
open Go.RowKit Go.Shelf
attribute [local go_sem ↓] Go.wp_at_zero Go.wp_at_succ
attribute [local go_sem] Oper.semAt_some
variable {M N n:Nat}
variable {Z:Nat->Prop}
variable {w:World}
variable {cb bb below:Nat}
variable {rv sv kv:Value}
variable {fns:List Cp.Nm}
variable {q:Cp.Bs}
theorem ztM(hW:zbg M N n){t1 t2:TypeId}{x1 x2:Value}{fe:Th.Ex}{es:List Th.Ex}{ho:Cp.Bs->Th.Ex->Cp.Bs}(h:BS Z w cb bb rv sv kv fns q)(hsp:∀ W,Fr (fun _=>False) w W->Calls Tryz.prog 143 #[.agg #[.iface t1 x1,.iface t2 x2]] W (Spr Z W n fe es))(hho:∀ (i:Nat) (e:Th.Ex) (Z1:Nat->Prop) (W:World) (rv1 sv1 kv1 v:Value),es[es.length-(i+1)]?=some e->i<es.length->BS Z1 W cb bb rv1 sv1 kv1 fns ((es.drop (es.length-i)).reverse.foldl ho q)->Rep Z1 W n v e ->
   Calls Tryz.prog 95 #[.pointer (some ⟨bb,0,none⟩),v] W fun r w'=>r=.returned (.tuple #[])/\Did Z1 W cb bb rv1 sv1 kv1 fns (ho ((es.drop (es.length-i)).reverse.foldl ho q) e) w')(hes:es.length<=1000000)(hl1:(es.reverse.foldl ho q).code.length<=1000000000)(hl2:(es.reverse.foldl ho q).zac.length<=1000000000)(hf:Fit M N fns ((es.reverse.foldl ho q).push (.zbD es.length)) fe)(hb:below+es.length+1+(M+8)*Cp.wt N fe<=1000000000):
  Calls Tryz.prog 87 #[.pointer (some ⟨bb,0,none⟩),.agg #[.iface t1 x1,.iface t2 x2],.int .i64 below] w fun r w'=>r=.returned (.tuple #[])/\Did Z w cb bb rv sv kv fns (Cp.work (Cp.free N) fns n fe (below+es.length+1) ((es.reverse.foldl ho q).push (.zbD es.length))) w':=by
 have f0:Fr (fun _=>False) w ((w.alloc (.cells #[.pointer (some ⟨bb,0,none⟩)] 100)).alloc (.cells #[.iface t1 x1,.iface t2 x2] 163)):=((Fr.refl _ _).alloc _).alloc _;have CS0:=zab (hsp _ f0);have BX:=zab (Blk.alloc (Blk.new w [.pointer (some ⟨bb,0,none⟩)] 100) (.cells #[.iface t1 x1,.iface t2 x2] 163));have F0:=zab f0;have HE:=zab (enters_of (P:=Tryz.prog) Tryz.func210 (by kernel_rfl) rfl);have HH:=zab h;have HW:=zab hW;have HHO:=zab hho;have HF:=zab (And.intro hf hb);have hbb:below+es.length+1<=1000000000:=by omega
 have hbl:=h.zbW.lt;obtain ⟨q2,hq2⟩:∃ q2,q2=es.reverse.foldl ho q:=⟨_,rfl⟩;have HQ2:=zab hq2;rw[<-hq2]at hl1 hl2 HF ⊢;clear h hW hho hf hb hsp f0 hq2;refine callsIn_wide.1 (callsIn_of_wp_marks (n:=5) Tryz.func87 rfl trivial (wpIn_wide.2 ?_) rfl);simp only[Tryz.ntmps87,zyw,zx3,zyi,Nat.reduceAdd,Nat.reduceSub,zyu,zyv,zyD,zyA,zx7,zx5];obtain ⟨Q,hQ⟩:∃ Q,bodyPostM Fence.wide 5 Tryz.prog Tryz.f87 (fun r w'=>r=.returned (.tuple #[])/\Did Z w cb bb rv sv kv fns (Cp.work (Cp.free N) fns n fe (below+es.length+1) (q2.push (.zbD es.length))) w')=Q:=⟨_,rfl⟩;have HQ:=zab hQ;rw[hQ];clear hQ;go_wp2_with fail
 refine CS0.o.mono ?_;rintro r w1 ⟨fv,av,avs,rfl,hfv,hrow,hx,f1⟩;obtain ⟨ft,fx,rfl⟩:=zah hfv;obtain ⟨sp,cap,g,hnv,hxl,hspp,hob,hcl⟩:=zaN (zaY hrow (zx1 _));subst hnv;have F1:=zab (F0.o.trans f1);have BX1:=zab (Fr.blk BX.o f1 (by simp));have hgs:0<es.length->w.heap.size<=g/\g<w1.heap.size:=fun h0=>by
  have:=hrow.lt g (hob h0);have:=F0.o.size;omega
 have HCL:=zab hcl;have HGS:=zab hgs;have HFV:=zab (And.intro (hfv.fr0 f1) (And.intro hx.1 (fun i v e a b=>(hx.2 i v e a b).fr0 f1)));have HOB:=zab hob;clear hfv hrow hx f1 hcl hgs CS0 BX hob;go_wp2_with fail
 refine (zsv sp es.length cap _).mono ?_;rintro e w2 ⟨rfl,hw2⟩;have F2:Hid (Fr (fun _=>False) w1 w2):=zab (by rw[hw2];exact (Fr.refl _ _).alloc _);have BB0:Hid (Blk w2 w.heap.size [.pointer (some ⟨bb,0,none⟩)] 100):=zab (Fr.blk BX1.o F2.o (by simp));have BB1:Hid (Blk w2 w1.heap.size [.slice sp es.length cap] 278):=zab (by rw[hw2];exact Blk.new w1 [.slice sp es.length cap] 278);have HS2:Hid (w2.heap.size=w1.heap.size+1):=zab (by rw[hw2];simp);have hs1:=F1.o.size;clear hw2;have hFv:Hid (0<es.length->∀ k,(Value.slice sp es.length cap).ownBlock=some k->k=g):=zab (fun h0 k hk=>by rw[HOB.o h0]at hk;simpa using hk.symm);obtain ⟨Z1,hZ1⟩:∃ Z1:Nat->Prop,∀ k,Z1 k↔(Z k\/(0<es.length/\k=g)):=⟨_,fun _=>zzs⟩;have HZ1:=zab hZ1;clear hZ1;have HKL:Hid (∀ k,w.heap.size<=k->¬ KL cb bb rv sv kv k):=zab (fun k hk he=>by
  have h:=HH.o;rcases he with e|e|e|e|e
  ·have:=h.clt;omega
  ·omega
  ·have:=h.rlt k e;omega
  ·have:=h.slt k e;omega
  ·have:=h.klt k e;omega)
 have HB2:Hid (BS Z1 w2 cb bb rv sv kv fns q):=zab (by
  have:=(HH.o.fr0 (F1.o.trans F2.o)).more (A:=fun k=>0<es.length/\k=g) (fun k hk=>⟨by have:=HGS.o hk.1;have:=F2.o.size;omega,HKL.o k (by have:=HGS.o hk.1;omega)⟩);have he:Z1=fun k=>Z k\/(0<es.length/\k=g):=funext (fun k=>propext (HZ1.o k))
  rw[he];exact this)
 have HFV2:Hid (Rep Z1 w2 n (.iface ft fx) fe/\avs.length=es.length/\∀ (i:Nat) (v:Value) (e:Th.Ex),avs[i]?=some v->es[i]?=some e->Rep Z1 w2 n v e):=zab ⟨(HFV.o.1.fr0 F2.o).mono (fun k _ hk=>(HZ1.o k).2 (.inl hk)),HFV.o.2.1,fun i v e a b=>((HFV.o.2.2 i v e a b).fr0 F2.o).mono (fun k _ hk=>(HZ1.o k).2 (.inl hk))⟩;go_wp2_with fail
 have hvl:avs.length=es.length:=HFV2.o.2.1;have hit:Iter 210 w1.heap.size cap sp g avs:=fun l J Jr hY hJc W h0=>zr4 l _ cap sp g avs (by omega) (fun h0=>hspp (by omega)) J Jr hY hJc W h0
 obtain ⟨J,hJ⟩:∃ J:Nat->World->Prop,∀ i W,J i W↔(i<=es.length/\Did Z1 w2 cb bb rv sv kv fns ((es.drop (es.length-i)).reverse.foldl ho q) W):=⟨_,fun _ _=>zzs⟩;have HJ:=zab hJ;clear hJ;refine zpq HE.o hit rfl J (fun _=>False) ?hall ?hput ?hputr ?h0 ?hJc ?hround ?hdone ?hret
 case hall=>exact fun i W o hW=>(HJ.o _ _).2 ⟨((HJ.o _ _).1 hW).1,((HJ.o _ _).1 hW).2.alloc _⟩
 case hput=>exact fun i W l xo o hW hl hx hc=>(HJ.o _ _).2 ⟨((HJ.o _ _).1 hW).1,((HJ.o _ _).1 hW).2.putObj _ hl hx hc⟩
 case hputr=>exact fun _ _ _ _ h=>h.elim
 case h0=>exact (HJ.o _ _).2 ⟨zx1 _,by rw[zzd,zy2 (zxJ _)];exact Did.refl HB2.o⟩
 case hJc=>
  intro i W hW;obtain ⟨_,Z',rv',sv',kv',_,_,f3,_⟩:=(HJ.o i W).1 hW;refine ⟨?_,fun j v hv=>?_⟩
  ·rw[hvl];simpa using Blk.cell (Fr.blk BB1.o f3 (HKL.o _ hs1)) 0
  ·have h4:=HCL.o j v hv;have hj:=(zxH.1 hv).1;have hg:=HGS.o (by omega);refine (World.cell?_of_block (a:=⟨g,j,none⟩) (w:=w1) ?_).trans h4;exact (f3.block g (zxO hg.2 F2.o.size) (HKL.o g hg.1)).trans (F2.o.block g hg.2 (by simp))
 case hret=>exact fun _ h=>h.elim
 case hround=>
  intro l i c v W hJ hci hv;rw[hvl]at hci;obtain ⟨y,hy⟩:∃ y,es[c]?=some y:=⟨_,zxI (by omega)⟩;have hyl:=(zxH.1 hy).1;have hR0:=HFV2.o.2.2 c v y hv hy;obtain ⟨vt,vx,rfl⟩:=zah hR0;have HY:=zab hy;have HR0:=zab hR0;clear hv hJ hy hR0;simp only[zxK,zxV,zxS]
  gi_wp2
  refine ⟨trivial,?_⟩;intro W2 h2 hD hlp;obtain ⟨hi,Z',rv',sv',kv',hz,hb,f3,n1,n2,n3⟩:=(HJ.o i W2).1 h2;have b0:W2.cell? ⟨w.heap.size,0,none⟩=some (.pointer (some ⟨bb,0,none⟩)):=by simpa using Blk.cell (Fr.blk BB0.o f3 (HKL.o _ (zxJ _))) 0
  have e1:es.length-(i+1)=c:=by omega
  have CU:=zab (HHO.o i y Z' W2 rv' sv' kv' (.iface vt vx) (by rw[e1];exact HY.o) (by omega) hb (HB2.o.rep f3 hz HR0.o));have HFO:Hid ((es.drop (es.length-(i+1))).reverse.foldl ho q=ho ((es.drop (es.length-i)).reverse.foldl ho q) y):=zab (by
   have e2:es.length-i=c+1:=by omega
   rw[e1,e2,zyn hyl,show es[c]=y from (zxH.1 HY.o).2,List.reverse_cons,List.foldl_append];rfl)
  have HKP:Hid (∀ w6,Fr (KL cb bb rv' sv' kv') W2 w6->w6.heap[w2.heap.size]?=W2.heap[w2.heap.size]?/\w6.heap[w2.heap.size+1]?=W2.heap[w2.heap.size+1]?):=zab (fun w6 f6=>by
   obtain ⟨rl,hrl⟩:=hlp;refine ⟨f6.block _ (zxU.1 hD).1 (fun e=>?_),f6.block _ (zxU.1 hrl).1 (fun e=>?_)⟩
   ·obtain ⟨_,_,_,h9⟩:=hb.zfp e;rw[hD]at h9;cases h9
   ·obtain ⟨_,_,_,h9⟩:=hb.zfp e;rw[hrl]at h9;cases h9)
  have HDD:=zab (And.intro hi (And.intro hz (And.intro f3 (And.intro n1 (And.intro n2 n3)))));clear h2 hD hlp hi hz hb f3 n1 n2 n3 e1
  gi_wp2
  refine ⟨trivial,rfl,(zc3 CU.o).mono ?_⟩;rintro e w6 ⟨rfl,D6⟩;have HD6:=zab D6;clear D6 b0
  gi_wp2
  refine ⟨(HJ.o _ _).2 ⟨by omega,?_⟩,?_⟩
  ·rw[HFO.o];obtain ⟨hi,hz,f3,n1,n2,n3⟩:=HDD.o;exact Did.trans hz f3 n1 n2 n3 HD6.o
  ·obtain ⟨_,_,_,_,_,_,f6,_⟩:=HD6.o;exact HKP.o _ f6
 case hdone=>
  intro W hW hD;obtain ⟨_,hd⟩:=(HJ.o _ W).1 hW;rw[hvl,zzp,zyX,<-HQ2.o]at hd;obtain ⟨Z3,rv3,sv3,kv3,z3,b3,f3,n1,n2,n3⟩:=hd;have b0:W.cell? ⟨w.heap.size,0,none⟩=some (.pointer (some ⟨bb,0,none⟩)):=by simpa using Blk.cell (Fr.blk BB0.o f3 (HKL.o _ (zxJ _))) 0
  have CP:=zab (zbl (i:=.zbD es.length) b3 rfl hl1 hl2);have X3:=zab (And.intro z3 (And.intro b3 (And.intro f3 (And.intro n1 (And.intro n2 n3)))));have Y3:=zab (HB2.o.rep f3 z3 HFV2.o.1);have HDD:=zab hD;clear hW hD z3 b3 f3 n1 n2 n3;go_wp2_with fail
  refine CP.o.mono ?_;rintro r w4 ⟨rfl,Z4,rv4,sv4,kv4,z4,b4,f4,n1,n2,n3⟩;have c4:w4.cell? ⟨w.heap.size,0,none⟩=some (.pointer (some ⟨bb,0,none⟩)):=by
   obtain ⟨_,b3,f3,n1,n2,n3⟩:=X3.o;have hB:=Fr.blk BB0.o f3 (HKL.o _ (zxJ _));simpa using Blk.cell (Fr.blk hB f4 (fun e=>HKL.o _ (zxJ _) (KL.new e n1 n2 n3 (by have:=HS2.o;omega)))) 0
  have d4:w4.heap[w2.heap.size]?=some (.deferred (some [])):=by
   have hD:=HDD.o;rw[f4.block _ (zxU.1 hD).1 (fun e=>by obtain ⟨_,_,_,h9⟩:=X3.o.2.1.zfp e;rw[hD]at h9;cases h9)];exact hD
  have CK:=zab (HW.o (below:=below+es.length+1) b4 (X3.o.2.1.rep f4 z4 Y3.o) HF.o.1 HF.o.2);have HD4:=zab d4;have X4:=zab (And.intro z4 (And.intro b4 (And.intro f4 (And.intro n1 (And.intro n2 n3)))));clear z4 b4 f4 n1 n2 n3 d4 b0 CP;rw[show ((below+es.length+1:Nat):Int)=(below:Int)+(es.length:Int)+1 by omega]at CK;go_wp2_with fail
  refine CK.o.mono ?_;rintro r w5 ⟨rfl,hd5⟩;have D5:=zab hd5;clear hd5 CK c4;go_wp2_with fail
  rw[<-HQ.o];have d5:w5.heap[w2.heap.size]?=some (.deferred (some [])):=by
   have hD:=HD4.o;obtain ⟨_,_,_,_,_,_,f5,_⟩:=D5.o;rw[f5.block _ (zxU.1 hD).1 (fun e=>by obtain ⟨_,_,_,h9⟩:=X4.o.2.1.zfp e;rw[hD]at h9;cases h9)];exact hD
  have hfin:Did Z1 w2 cb bb rv sv kv fns (Cp.work (Cp.free N) fns n fe (below+es.length+1) (q2.push (.zbD es.length))) w5:=by
   obtain ⟨z,b,f,n1,n2,n3⟩:=X3.o;refine Did.trans z f n1 n2 n3 ?_;obtain ⟨z,b,f,n1,n2,n3⟩:=X4.o;exact Did.trans z f n1 n2 n3 D5.o
  refine zcc (base:=w2.heap.size) (I:=fun W'=>Did Z1 w2 cb bb rv sv kv fns (Cp.work (Cp.free N) fns n fe (below+es.length+1) (q2.push (.zbD es.length))) W') (by simp) (fun W' d hW' hd' hdd=>hW'.putObj _ hd' hdd (by simp)) (fun W' hW'=>?_) (zgT d5 (zxJ _)) hfin;refine ⟨_,results_none rfl _ _ _,rfl,?_⟩;obtain ⟨Z',rv',sv',kv',z,b,f,n1,n2,n3⟩:=hW';have f02:=F1.o.trans F2.o;refine ⟨Z',rv',sv',kv',fun k hk=>?_,b,(f02.mono (fun _ x=>x.elim)).trans f,New.trans (New.refl w rv) n1 f02.size,New.trans (New.refl w sv) n2 f02.size,New.trans (New.refl w kv) n3 f02.size⟩;rw[z k (zxO hk f02.size),HZ1.o k];constructor
  ·rintro (e|e)
   ·exact e
   ·have:=HGS.o e.1;omega
  ·exact .inl
end Go.Proofs.YtgahgkddaljmkaaGreatDoor
namespace Go.Proofs.YtgahgkddaljmkaaGreatDoor
open Go.RowKit Go.Shelf
variable {off n:Nat}
theorem zoZ{α:Type}{vs cs:List α}(h:off+cs.length<=n)(hn:n<=vs.length):(Go.splice vs off cs).take n=Go.splice (vs.take n) off cs:=by
 unfold Go.splice;have h1:(vs.take off).length=off:=by simp;omega
 rw[List.take_append,h1,List.take_append,zzk,zzk,List.drop_take];rw[Nat.min_eq_right (by omega:off<=n),zyO (by omega:off<=n),zx4 (by omega:cs.length<=n-off),Nat.sub_sub]
theorem zjQ(l xs:List Cp.Nm)(off:Nat):Go.splice (strCells l) off (strCells xs)=strCells (Go.splice l off xs):=by
 simp[Go.splice,strCells,List.map_take,List.map_drop]
theorem zuN:(Tryz.prog.info? 9).map (·.size)=some 1:=by kernel_rfl
theorem zmm(l:List Cp.Nm):∀ v∈strCells l,v.oneCell'=true:=zeU
variable {w:World}
variable {g cap:Nat}
theorem zrE{dLen dCap sLen sCap:Nat}{l xs:List Cp.Nm}{ad:Addr}{ops:Array Oper}{o:Oper}{a:Act}{K:Act->World->Prop}{Q:Exit->Act->World->Prop}{E:Prop}(hgd:o.guard=none)(d sr:Operand)(ho:o.op=.call { callee:=.builtin .copy,args:=#[d,sr],argTypes:=#[38,38] })(hown:w.ownsRow 0 9 1 (.slice (some ⟨g,0,none⟩) n cap) n (strCells l))(hd:a.eval d=.slice (some ⟨g,off,none⟩) dLen dCap)(hs:a.eval sr=.slice (some ad) sLen sCap)(hn:xs.length=Nat.min sLen dLen)(hsrc:∀ (j:Nat) v,(strCells xs)[j]?=some v->w.cell? (ad.add j)=some v)(hfit:off+xs.length<=n)(hk:∀ w',w'.ownsRow 0 9 1 (.slice (some ⟨g,0,none⟩) n cap) n (strCells (Go.splice l off xs))->Fr (fun k=>k=g) w w'->K (a.put o.dst (goInt xs.length)) w'):if Region.wanted o (yielded ops a.tmps)=true then Oper.wp Tryz.prog o a w K Q else E:=by
 have hw:Region.wanted o (yielded ops a.tmps)=true:=by simp[Region.wanted,hgd]
 rw[if_pos hw];obtain ⟨vs,hb,hvl,hnc,hcm,hbg,htk⟩:=ztA hown;have hcl:(strCells xs).length=xs.length:=zdB _;have hrun:=run_copy_row (P:=Tryz.prog) w 38 38 o.type 9 g off dLen dCap ad sLen sCap vs.toArray 9 (strCells xs) Tryz.underlying38 zuN hb (by rw[hcl];exact hn) hsrc (by simp[hcl];omega) (zmm xs);unfold Oper.wp;simp[execOp,ho,resolve,invoke,builtin,hd,hs,hrun,Result.andThen];have hbk:Blk (w.setRow g (Go.splice vs off (strCells xs)).toArray) g (Go.splice vs off (strCells xs)) 9:=setRow_heap w g _ _ 9 _ hb;have:=hk _ (zgr hbk (by rw[zyI _ _ _ (by rw[hcl];omega)];exact hvl) hnc hcm hbg (by rw[zoZ (by rw[hcl];omega) (by omega),htk,zjQ])) ((Fr.refl _ _).setRow g _ rfl);unfold Go.splice at this;simp only[hcl]at this ⊢;exact this
theorem zvG(h1:off<n)(h2:n<=cap):∀ W:World,(Instr.slice 38 (.slice (some ⟨g,0,none⟩) n cap) (some (.int .i64 (off:Int))) none none).run Tryz.prog W=.ok (.slice (some ⟨g,off,none⟩) (n-off) (cap-off)) W:=by
 intro W;rw[run_slice_l W 38 _ _ _ Tryz.underlying38 .i64 _ (by omega) (by omega)];have e3:Tryz.prog.elem 38=9:=by kernel_rfl
 rw[e3,Tryz.sizeOf9];simp[Result.andThen,sliced,zbb];omega
variable {Z:Nat->Prop}
variable {cb bb:Nat}
variable {rv kv:Value}
variable {fns:List Cp.Nm}
variable {q:Cp.Bs}
theorem BS.spliced{w':World}{sl:List Cp.Nm}(h:BS Z w cb bb rv (.slice (some ⟨g,0,none⟩) n cap) kv fns q)(f:Fr (fun k=>k=g) w w')(hn:n=sl.length)(hs:w'.ownsRow 0 9 1 (.slice (some ⟨g,0,none⟩) n cap) n (strCells sl)):Did Z w cb bb rv (.slice (some ⟨g,0,none⟩) n cap) kv fns ⟨q.blocks,sl,q.code⟩ w':=by
 have hg:(Value.slice (some ⟨g,0,none⟩) n cap).ownBlock=some g:=rfl;have hbb:bb≠g:=fun e=>h.sc.2 (by rw[hg,e])
 have f1:Fr (fun k=>k=bb\/(Value.slice (some ⟨g,0,none⟩) n cap).ownBlock=some k\/kv.ownBlock=some k) w w':=f.mono (fun k hk=>.inr (.inl (by rw[hg,hk])));obtain ⟨vs,hk1,hk2⟩:=h.znO;subst hn;have hz:∀ k,k<w.heap.size->Z k->¬ k=g:=fun k _ hk e=>h.zk k hk (.inr (.inr (.inr (.inl (by rw[hg,e])))))
 exact Did.up (h.up f1 (Fr.blk h.zbW f hbb) hs ⟨vs,f.gb hk1 (fun k hk e=>h.sk g hg (by rw[<-e];exact hk)),hk2.frz f hz (fun _ _ x=>x)⟩ (New.refl _ _) (New.refl _ _) h.sk) f1 (New.refl _ _) (New.refl _ _)
end Go.Proofs.YtgahgkddaljmkaaGreatDoor
namespace Go.Proofs.YtgahgkddaljmkaaGreatDoor
open Go.RowKit Go.Shelf
attribute [local go_sem ↓] Go.wp_at_zero Go.wp_at_succ
variable {n:Nat}
variable {Z:Nat->Prop}
variable {w:World}
variable {cb bb:Nat}
variable {rv sv kv:Value}
variable {fns:List Cp.Nm}
variable {q:Cp.Bs}
variable {bt:TypeId}
variable {bx:Value}
theorem zuy{pv:Value}{qe:Cp.Bs}{r:Bool}{l:List Th.Tok}{parts:List Th.Ex}{pvs:List Value}{ho:Cp.Bs->Th.Ex->Cp.Bs}(hqe:qe=parts.foldl ho q)(h:BS Z w cb bb rv sv kv fns q)(h3:parts.length=l.length)(h4:pvs.length=l.length)(h6:Row Z w 312 3 pv l.length (zaM l pvs))(h8:∀ (i:Nat) (bv:Value) (p:Th.Ex),pvs[i]?=some bv->parts[i]?=some p->Rep Z w n bv p)(hho:∀ (i:Nat) (e:Th.Ex) (Z1:Nat->Prop) (W:World) (rv1 sv1 kv1 v:Value),parts[i]?=some e->BS Z1 W cb bb rv1 sv1 kv1 fns ((parts.take i).foldl ho q)->Rep Z1 W n v e ->
   Calls Tryz.prog 95 #[.pointer (some ⟨bb,0,none⟩),v] W fun r w'=>r=.returned (.tuple #[])/\Did Z1 W cb bb rv1 sv1 kv1 fns (ho ((parts.take i).foldl ho q) e) w')(hpos:0<l.length)(hal:l.length<=1000000)(hsl:qe.zac.length=q.zac.length+l.length)(hsm:q.zac.length<=1000000000):
  Calls Tryz.prog 163 #[.pointer (some ⟨bb,0,none⟩),.agg #[.bool r,pv,.iface bt bx]] w fun e w'=>e=.returned (.tuple #[])/\Did Z w cb bb rv sv kv fns ⟨qe.blocks,Go.splice qe.zac q.zac.length (Th.texts l),qe.code⟩ w':=by
 obtain ⟨g0,pc,hpv⟩:∃ g0 pc,pv=.slice (some ⟨g0,0,none⟩) l.length pc:=by
  rcases h6.1.2 with ⟨_,h0⟩|⟨g,cap,cur,h0,_⟩
  ·omega
  ·exact ⟨_,_,h0⟩
 subst hpv;obtain ⟨sp,sc,_,hsv,_⟩:=zaN h.ziJ;have hone:∀ (i:Nat) (pv:Value),pvs[i]?=some pv->pv.oneCell'=true:=fun i pv hp=>by
  have:i<parts.length:=by rw[h3,<-h4];exact (zxH.1 hp).1
  obtain ⟨t,x,rfl⟩:=zah (h8 i pv parts[i] hp (zxI this));rfl
 have f0:Fr (fun _=>False) w (w.alloc (.cells #[.bool r,.slice (some ⟨g0,0,none⟩) l.length pc,.iface bt bx] 178)):=(Fr.refl _ _).alloc _;have hB0:=Blk.new w [.bool r,.slice (some ⟨g0,0,none⟩) l.length pc,.iface bt bx] 178;obtain ⟨Z1,hZ1⟩:∃ Z1:Nat->Prop,Z1=fun k=>Z k\/k=w.heap.size:=⟨_,rfl⟩
 have hb1:BS Z1 (w.alloc (.cells #[.bool r,.slice (some ⟨g0,0,none⟩) l.length pc,.iface bt bx] 178)) cb bb rv sv kv fns q:=by
  rw[hZ1];refine (h.fr0 f0).more (fun k hk=>⟨by rw[World.size_alloc];omega,?_⟩);rintro (e|e|e|e|e)
  ·have:=h.clt;omega
  ·have:=h.zbW.lt;omega
  ·have:=h.rlt k e;omega
  ·have:=h.slt k e;omega
  ·have:=h.klt k e;omega
 have hz1:Z1 w.heap.size:=by rw[hZ1];exact .inr rfl
 have hzz:∀ k,k<w.heap.size->(Z1 k↔Z k):=by
  intro k hk;rw[hZ1];constructor
  ·rintro (e|e)
   ·exact e
   ·omega
  ·exact .inl
 have hzi:∀ k,Z k->Z1 k:=fun k hk=>by rw[hZ1];exact .inl hk
 have c1:=Blk.cell hb1.zbW 1;simp at c1;rw[hsv]at c1;have HB1:=zab hb1;have HB0:=zab (And.intro hB0 hz1);have HZZ:=zab hzz;have F0:=zab f0;have H3:=zab h3;have H4:=zab h4;have H6:=zab ((Row.frc h6 f0 (by simp)).mono (fun k _ hk=>hzi k hk));have H8:=zab (fun i bv p a b=>((h8 i bv p a b).fr0 f0).mono (fun k _ hk=>hzi k hk));have HHO:=zab hho;have HONE:=zab hone;have HQ:=zab (And.intro hqe hsl);have hbl:=h.zbW.lt;have HSV:=zab hsv;clear h h3 h4 h6 h8 hho hone hqe hsl hb1 hB0 hz1 hzz hzi f0 hZ1 hsv;go_enter Tryz.func163,Tryz.ntmps163
 go_wp2_with fail
 generalize w.alloc (.cells #[.bool r,.slice (some ⟨g0,0,none⟩) l.length pc,.iface bt bx] 178)=w0 at HB0 HB1 F0 H6 H8 c1 ⊢;clear c1
 go_loopg [15] l.length (fun gk iv wr=>∃ k:Nat,iv=.int .i64 k/\k+gk=l.length/\Did Z1 w0 cb bb rv sv kv fns ((parts.take k).foldl ho q) wr)
 case atStart=>exact ⟨0,rfl,by omega,Did.refl HB1.o⟩
 case round=>
  obtain ⟨k,rfl,hk,Zk,rvk,svk,kvk,z,b,f,n1,n2,n3⟩:=hrel;by_cases hlt:k<l.length
  ·obtain ⟨a,ha⟩:∃ a,l[k]?=some a:=⟨l[k],zxI hlt⟩;obtain ⟨p,hp⟩:∃ p,parts[k]?=some p:=⟨_,zxI (by rw[H3.o];exact hlt)⟩;obtain ⟨bv,hbv⟩:∃ bv,pvs[k]?=some bv:=⟨_,zxI (by rw[H4.o];exact hlt)⟩;have hR:=HB1.o.rep f z (H8.o k bv p hbv hp);obtain ⟨pt,px,rfl⟩:=zah hR;have hcs:=zbB l pvs k a _ ha hbv;have hrow:=(HB1.o.row f z H6.o).1;have c0:=(hrow.cellAt (k*3) (by omega)).trans hcs.1;have c1:=(hrow.cellAt (k*3+1) (by omega)).trans hcs.2.1;have c2:=(hrow.cellAt (k*3+2) (by omega)).trans hcs.2.2;have hk0:(0:Int)<=(k:Int):=zyJ _;have f2:Fr (fun _=>False) wr (wr.alloc (.cells #[.string ⟨a.s.toArray⟩,.int .i64 a.at_,.iface pt px] 312)):=(Fr.refl _ _).alloc _;have CH:=zab (HHO.o k p Zk _ rvk svk kvk (.iface pt px) hp (b.fr0 f2) (hR.fr0 f2));have hT:(parts.take (k+1)).foldl ho q=ho ((parts.take k).foldl ho q) p:=by rw[zzh,hp];simp
   have HT:=zab hT;have F2:=zab f2;have X:=zab (And.intro z (And.intro f (And.intro n1 (And.intro n2 n3))));clear z b f n1 n2 n3 hR hcs hrow f2 hT ha hp hbv;go_wp2_with fail
   refine CH.o.mono ?_;rintro e w3 ⟨rfl,hd⟩;have HD:=zab hd;clear hd CH c0 c1 c2;go_wp2_with fail
   go_roundg (l.length-(k+1))
   case measure=>omega
   case rel=>
    refine ⟨k+1,by go_num,by omega,?_⟩;rw[HT.o];obtain ⟨z,f,n1,n2,n3⟩:=X.o;exact Did.trans z f n1 n2 n3 (Did.fr0 F2.o HD.o)
  ·have hk2:parts.take k=parts:=zx4 (by have:=H3.o;omega);rw[hk2,<-HQ.o.1]at b;obtain ⟨svp,cap,g,hsvk,hxl,hspp,hob,hcl⟩:=zaN b.ziJ;have hn0:0<qe.zac.length:=by have:=HQ.o.2;omega
   rw[hspp hn0]at hsvk;subst hsvk;have hnc:qe.zac.length<=cap:=by
    rcases b.ziJ.2 with ⟨h0,_⟩|⟨_,_,_,h0,_,_,hn,_⟩
    ·cases h0
    ·cases h0;exact hn
   have HCUT:=zvG (g:=g) (n:=qe.zac.length) (cap:=cap) (off:=q.zac.length) (by have:=HQ.o.2;omega) hnc;have hbx:=HB1.o.box f z HB0.o.1 HB0.o.2;have e0:=Blk.cell hbx.1 0;have e1:=Blk.cell hbx.1 1;have e2:=Blk.cell hbx.1 2;have b1:=Blk.cell b.zbW 1;simp at e0 e1 e2 b1;have CN:=zab (zcY (w:=wr.drew) (rb:=r) (bt:=bt) (bx:=bx) (HB1.o.row f.drew z H6.o) H4.o HONE.o hal);have BK:=zab b;have BX:=zab hbx;have X:=zab (And.intro z (And.intro f (And.intro n1 (And.intro n2 n3))));clear z f n1 n2 n3 b hbx hk2 hxl hspp hob hcl;go_wp2_with fail
   go_region_law (first
    |(refine zrE (g:=g) (n:=qe.zac.length) (cap:=cap) (off:=q.zac.length) (l:=qe.zac) (xs:=Th.texts l) (ad:=⟨tg,0,none⟩) (by rfl) _ _ (by rfl) (B5.o.ziJ) (by rfl) (by rfl) HMIN.o HSRC.o HFIT.o ?_;intro w6 h6 f6;have D6:=zab (B5.o.spliced (sl:=Go.splice qe.zac q.zac.length (Th.texts l)) f6 HLEN.o h6);clear h6 f6)
    |(go_simp;go_wp2_with (go_at_call 197;refine CN.o.mono ?_;rintro e w5 ⟨tv,rfl,htv,hbel⟩;have f5:Fr (fun _=>False) wr w5:=(Fr.refl _ _).drew.trans (Fr.below hbel);have B5:=zab (BK.o.fr0 f5);have F5:=zab f5;obtain ⟨tsp,tc,tg,htv2,_,htsp,_,htcl⟩:=zaN (zaY htv (zx1 _));rw[htsp hpos]at htv2;subst htv2;have HSRC:=zab (fun (j:Nat) v (hv:(strCells (Th.texts l))[j]?=some v)=>(show w5.cell? (Addr.add ⟨tg,0,none⟩ j)=some v by rw[zbb,zyC];exact htcl j v hv));have b5:w5.cell? ⟨bb,1,none⟩=some (.slice (some ⟨g,0,none⟩) qe.zac.length cap):=Blk.cell B5.o.zbW 1;have HMIN:Hid ((Th.texts l).length=Nat.min l.length (qe.zac.length-q.zac.length)):=zab (by have:=HQ.o.2;simp[Th.texts,Nat.min_def];omega);have HFIT:Hid (q.zac.length+(Th.texts l).length<=qe.zac.length):=zab (by have:=HQ.o.2;simp[Th.texts];omega);have HLEN:Hid (qe.zac.length=(Go.splice qe.zac q.zac.length (Th.texts l)).length):=zab (zyI _ _ _ HFIT.o).symm;clear htv hbel f5 htsp htcl)))
   all_goals
    first|go_end0|refine bodyPost_ret (results_none rfl _ _ _) rfl ?_
    refine ⟨rfl,?_⟩;have hd:Did Z1 w0 cb bb rv sv kv fns ⟨qe.blocks,Go.splice qe.zac q.zac.length (Th.texts l),qe.code⟩ w6:=by
     obtain ⟨z,f,n1,n2,n3⟩:=X.o;exact Did.trans z f n1 n2 n3 (Did.fr0 F5.o D6.o)
    obtain ⟨Z',rv',sv',kv',z,b,f,n1,n2,n3⟩:=hd;exact ⟨Z',rv',sv',kv',fun k hk=>(z k (zxO hk F0.o.size)).trans (HZZ.o k hk),b,(F0.o.mono (fun _ x=>x.elim)).trans f,New.trans (New.refl w rv) n1 F0.o.size,New.trans (New.refl w sv) n2 F0.o.size,New.trans (New.refl w kv) n3 F0.o.size⟩
theorem BS.zw6(h:BS Z w cb bb rv sv kv fns q)(o:Obj):BS (fun k=>Z k\/k=w.heap.size) (w.alloc o) cb bb rv sv kv fns q:=by
 refine (h.fr0 ((Fr.refl _ _).alloc _)).more (fun k hk=>⟨by rw[World.size_alloc];omega,?_⟩);rintro (e|e|e|e|e)
 ·have:=h.clt;omega
 ·have:=h.zbW.lt;omega
 ·have:=h.rlt k e;omega
 ·have:=h.slt k e;omega
 ·have:=h.klt k e;omega
theorem Did.out1{w':World}{q':Cp.Bs}{o:Obj}(d:Did (fun k=>Z k\/k=w.heap.size) (w.alloc o) cb bb rv sv kv fns q' w'):Did Z w cb bb rv sv kv fns q' w':=by
 have f:Fr (fun _=>False) w (w.alloc o):=(Fr.refl _ _).alloc _;obtain ⟨Z',rv',sv',kv',z,b,f1,n1,n2,n3⟩:=d;refine ⟨Z',rv',sv',kv',fun k hk=>?_,b,(f.mono (fun _ x=>x.elim)).trans f1,New.trans (New.refl w rv) n1 f.size,New.trans (New.refl w sv) n2 f.size,New.trans (New.refl w kv) n3 f.size⟩;rw[z k (zxO hk f.size)];constructor
 ·rintro (e|e)
  ·exact e
  ·omega
 ·exact .inl
variable {M N pn pc:Nat}
variable {pp:Option Addr}
variable {q1:Cp.Bs}
theorem zuT(hW:zbg M N n){e:Th.Ex}(h:BS Z w cb bb rv sv kv fns q)(hr:Rep Z w n (.iface bt bx) e)(hbd:∀ Z1 W,(∀ k,Z k->Z1 k)->Fr (fun _=>False) w W->BS Z1 W cb bb rv sv kv fns q->Calls Tryz.prog 162 #[.pointer (some ⟨bb,0,none⟩),.agg #[.bool true,.slice pp pn pc,.iface bt bx]] W fun r w'=>r=.returned (.tuple #[])/\Did Z1 W cb bb rv sv kv fns q1 w')(hf:Fit M N fns q1 e)(hb:(M+8)*Cp.wt N e<=1000000000):
  Calls Tryz.prog 94 #[.pointer (some ⟨bb,0,none⟩),.agg #[.bool true,.slice pp pn pc,.iface bt bx],.int .i64 0] w fun r w'=>r=.returned (.tuple #[])/\Did Z w cb bb rv sv kv fns (Cp.work (Cp.free N) fns n e 0 q1) w':=by
 have f0:Fr (fun _=>False) w (w.alloc (.cells #[.bool true,.slice pp pn pc,.iface bt bx] 178)):=(Fr.refl _ _).alloc _;have hb1:=h.zw6 (.cells #[.bool true,.slice pp pn pc,.iface bt bx] 178);have CB:=zab (hbd _ _ (fun k hk=>.inl hk) f0 hb1);have HB0:=zab (Blk.new w [.bool true,.slice pp pn pc,.iface bt bx] 178);have HB1:=zab hb1;have HR:=zab ((hr.fr0 f0).mono (fun k _ hk=>(Or.inl hk:Z k\/k=w.heap.size)));have HW:=zab hW;have HF:=zab (And.intro hf hb);clear h hr hbd hf hb hW f0 hb1;go_enter Tryz.func94,Tryz.ntmps94
 go_wp2_with fail
 refine CB.o.mono ?_;rintro r w1 ⟨rfl,Z1,rv1,sv1,kv1,z1,b1,f1,n1,n2,n3⟩;have hbx:=HB1.o.box f1 z1 HB0.o (.inr rfl);have e2:=Blk.cell hbx.1 2;simp at e2;have CK:=zab (HW.o (below:=0) b1 (HB1.o.rep f1 z1 HR.o) HF.o.1 (by simpa using HF.o.2));have X:=zab (And.intro z1 (And.intro f1 (And.intro n1 (And.intro n2 n3))));clear z1 b1 f1 n1 n2 n3 hbx CB;go_wp2_with fail
 refine CK.o.mono ?_;rintro r w2 ⟨rfl,hd⟩;have HD:=zab hd;clear hd CK e2;go_wp2_with fail
 first|go_end0|refine bodyPost_ret (results_none rfl _ _ _) rfl ?_
 refine ⟨rfl,Did.out1 (o:=.cells #[.bool true,.slice pp pn pc,.iface bt bx] 178) ?_⟩;obtain ⟨z,f,n1,n2,n3⟩:=X.o;exact Did.trans z f n1 n2 n3 HD.o
theorem zro(hW:zbg M N n){e:Th.Ex}(h:BS Z w cb bb rv sv kv fns q)(hr:Rep Z w n (.iface bt bx) e)(hbd:∀ Z1 W,(∀ k,Z k->Z1 k)->Fr (fun _=>False) w W->BS Z1 W cb bb rv sv kv fns q->Calls Tryz.prog 163 #[.pointer (some ⟨bb,0,none⟩),.agg #[.bool false,.slice pp pn pc,.iface bt bx]] W fun r w'=>r=.returned (.tuple #[])/\Did Z1 W cb bb rv sv kv fns q1 w')(hf:Fit M N fns q1 e)(hb:(M+8)*Cp.wt N e<=1000000000):
  Calls Tryz.prog 94 #[.pointer (some ⟨bb,0,none⟩),.agg #[.bool false,.slice pp pn pc,.iface bt bx],.int .i64 0] w fun r w'=>r=.returned (.tuple #[])/\Did Z w cb bb rv sv kv fns (Cp.work (Cp.free N) fns n e 0 q1) w':=by
 have f0:Fr (fun _=>False) w (w.alloc (.cells #[.bool false,.slice pp pn pc,.iface bt bx] 178)):=(Fr.refl _ _).alloc _;have hb1:=h.zw6 (.cells #[.bool false,.slice pp pn pc,.iface bt bx] 178);have CB:=zab (hbd _ _ (fun k hk=>.inl hk) f0 hb1);have HB0:=zab (Blk.new w [.bool false,.slice pp pn pc,.iface bt bx] 178);have HB1:=zab hb1;have HR:=zab ((hr.fr0 f0).mono (fun k _ hk=>(Or.inl hk:Z k\/k=w.heap.size)));have HW:=zab hW;have HF:=zab (And.intro hf hb);clear h hr hbd hf hb hW f0 hb1;go_enter Tryz.func94,Tryz.ntmps94
 go_wp2_with fail
 refine CB.o.mono ?_;rintro r w1 ⟨rfl,Z1,rv1,sv1,kv1,z1,b1,f1,n1,n2,n3⟩;have hbx:=HB1.o.box f1 z1 HB0.o (.inr rfl);have e2:=Blk.cell hbx.1 2;simp at e2;have CK:=zab (HW.o (below:=0) b1 (HB1.o.rep f1 z1 HR.o) HF.o.1 (by simpa using HF.o.2));have X:=zab (And.intro z1 (And.intro f1 (And.intro n1 (And.intro n2 n3))));clear z1 b1 f1 n1 n2 n3 hbx CB;go_wp2_with fail
 refine CK.o.mono ?_;rintro r w2 ⟨rfl,hd⟩;have HD:=zab hd;clear hd CK e2;go_wp2_with fail
 first|go_end0|refine bodyPost_ret (results_none rfl _ _ _) rfl ?_
 refine ⟨rfl,Did.out1 (o:=.cells #[.bool false,.slice pp pn pc,.iface bt bx] 178) ?_⟩;obtain ⟨z,f,n1,n2,n3⟩:=X.o;exact Did.trans z f n1 n2 n3 HD.o
theorem ztQ{below:Int}{t1 t2:TypeId}{x1 x2:Value}(hc:∀ W,Fr (fun _=>False) w W->Calls Tryz.prog 87 #[.pointer (some ⟨bb,0,none⟩),.agg #[.iface t1 x1,.iface t2 x2],.int .i64 below] W fun r w'=>r=.returned (.tuple #[])/\Did Z W cb bb rv sv kv fns q1 w'):
  Calls Tryz.prog 54 #[.pointer (some ⟨bb,0,none⟩),.iface 163 (.agg #[.iface t1 x1,.iface t2 x2]),.int .i64 below] w fun r w'=>r=.returned (.tuple #[])/\Did Z w cb bb rv sv kv fns q1 w':=by
 have i0:=zeF;have F0:Hid (Fr (fun _=>False) w (w.alloc (.cells #[.iface t1 x1,.iface t2 x2] 163))):=zab ((Fr.refl _ _).alloc _);have CC:=zab (hc _ F0.o);clear hc;go_enter Tryz.func54,Tryz.ntmps54
 go_wp2_with fail
 refine CC.o.mono ?_;rintro r w1 ⟨rfl,hd⟩;have HD:=zab (Did.fr0 F0.o hd);clear hd CC i0;go_wp2_with fail
 first|go_end0|refine bodyPost_ret (results_none rfl _ _ _) rfl ?_
 exact ⟨rfl,HD.o⟩
theorem zqA{below:Int}{r:Bool}(hc:∀ W,Fr (fun _=>False) w W->Calls Tryz.prog 94 #[.pointer (some ⟨bb,0,none⟩),.agg #[.bool r,.slice pp pn pc,.iface bt bx],.int .i64 below] W fun r w'=>r=.returned (.tuple #[])/\Did Z W cb bb rv sv kv fns q1 w'):
  Calls Tryz.prog 54 #[.pointer (some ⟨bb,0,none⟩),.iface 178 (.agg #[.bool r,.slice pp pn pc,.iface bt bx]),.int .i64 below] w fun r w'=>r=.returned (.tuple #[])/\Did Z w cb bb rv sv kv fns q1 w':=by
 have i0:=zgo;have i1:=zew;have i2:=zoX;have i3:=zlC;have F0:Hid (Fr (fun _=>False) w (w.alloc (.cells #[.bool r,.slice pp pn pc,.iface bt bx] 178))):=zab ((Fr.refl _ _).alloc _);have CC:=zab (hc _ F0.o);clear hc;go_enter Tryz.func54,Tryz.ntmps54
 go_wp2_with fail
 refine CC.o.mono ?_;rintro r w1 ⟨rfl,hd⟩;have HD:=zab (Did.fr0 F0.o hd);clear hd CC i0 i1 i2 i3;go_wp2_with fail
 first|go_end0|refine bodyPost_ret (results_none rfl _ _ _) rfl ?_
 exact ⟨rfl,HD.o⟩
variable {below:Nat}
variable {x:Value}
theorem zpI(hbw:below<=1000000000)(hl:q1.code.length+1<=1000000000)(hc:Calls Tryz.prog 95 #[.pointer (some ⟨bb,0,none⟩),.iface 217 x] w fun r w'=>r=.returned (.tuple #[])/\Did Z w cb bb rv sv kv fns q1 w'):
  Calls Tryz.prog 54 #[.pointer (some ⟨bb,0,none⟩),.iface 217 x,.int .i64 below] w fun r w'=>r=.returned (.tuple #[])/\Did Z w cb bb rv sv kv fns (q1.ends (below+1) .enter) w':=by
 have i0:=zdJ;have i1:=zdc;have i2:=zf8;have i3:=zgZ;have CC:=zab hc;clear hc;go_enter Tryz.func54,Tryz.ntmps54
 go_wp2_with fail
 refine CC.o.mono ?_;rintro r w1 ⟨rfl,Z1,rv1,sv1,kv1,z1,b1,f1,n1,n2,n3⟩;have CE:=zab (zgI (c:=below+1) (i:=.enter) b1 rfl hl);have X:=zab (And.intro z1 (And.intro f1 (And.intro n1 (And.intro n2 n3))));clear z1 b1 f1 n1 n2 n3 CC i0 i1 i2 i3;rw[show ((below+1:Nat):Int)=(below:Int)+1 by omega]at CE;go_wp2_with fail
 refine CE.o.mono ?_;rintro r w2 ⟨rfl,hd⟩;have HD:=zab hd;clear hd CE;go_wp2_with fail
 first|go_end0|refine bodyPost_ret (results_none rfl _ _ _) rfl ?_
 refine ⟨rfl,?_⟩;obtain ⟨z,f,n1,n2,n3⟩:=X.o;exact Did.trans z f n1 n2 n3 HD.o
theorem zvf(hbw:below<=1000000000)(hl:q1.code.length+1<=1000000000)(hc:Calls Tryz.prog 95 #[.pointer (some ⟨bb,0,none⟩),.iface 215 x] w fun r w'=>r=.returned (.tuple #[])/\Did Z w cb bb rv sv kv fns q1 w'):
  Calls Tryz.prog 54 #[.pointer (some ⟨bb,0,none⟩),.iface 215 x,.int .i64 below] w fun r w'=>r=.returned (.tuple #[])/\Did Z w cb bb rv sv kv fns (q1.ends (below+1) .enter) w':=by
 have i0:=zja;have i1:=ziz;have i2:=zpw;have i3:=zq2;have CC:=zab hc;clear hc;go_enter Tryz.func54,Tryz.ntmps54
 go_wp2_with fail
 refine CC.o.mono ?_;rintro r w1 ⟨rfl,Z1,rv1,sv1,kv1,z1,b1,f1,n1,n2,n3⟩;have CE:=zab (zgI (c:=below+1) (i:=.enter) b1 rfl hl);have X:=zab (And.intro z1 (And.intro f1 (And.intro n1 (And.intro n2 n3))));clear z1 b1 f1 n1 n2 n3 CC i0 i1 i2 i3;rw[show ((below+1:Nat):Int)=(below:Int)+1 by omega]at CE;go_wp2_with fail
 refine CE.o.mono ?_;rintro r w2 ⟨rfl,hd⟩;have HD:=zab hd;clear hd CE;go_wp2_with fail
 first|go_end0|refine bodyPost_ret (results_none rfl _ _ _) rfl ?_
 refine ⟨rfl,?_⟩;obtain ⟨z,f,n1,n2,n3⟩:=X.o;exact Did.trans z f n1 n2 n3 HD.o
theorem zru(hbw:below<=1000000000)(hl:q1.code.length+1<=1000000000)(hc:Calls Tryz.prog 95 #[.pointer (some ⟨bb,0,none⟩),.iface 219 x] w fun r w'=>r=.returned (.tuple #[])/\Did Z w cb bb rv sv kv fns q1 w'):
  Calls Tryz.prog 54 #[.pointer (some ⟨bb,0,none⟩),.iface 219 x,.int .i64 below] w fun r w'=>r=.returned (.tuple #[])/\Did Z w cb bb rv sv kv fns (q1.ends (below+1) .enter) w':=by
 have i0:=zen;have i1:=zdv;have i2:=zhi;have i3:=zhX;have CC:=zab hc;clear hc;go_enter Tryz.func54,Tryz.ntmps54
 go_wp2_with fail
 refine CC.o.mono ?_;rintro r w1 ⟨rfl,Z1,rv1,sv1,kv1,z1,b1,f1,n1,n2,n3⟩;have CE:=zab (zgI (c:=below+1) (i:=.enter) b1 rfl hl);have X:=zab (And.intro z1 (And.intro f1 (And.intro n1 (And.intro n2 n3))));clear z1 b1 f1 n1 n2 n3 CC i0 i1 i2 i3;rw[show ((below+1:Nat):Int)=(below:Int)+1 by omega]at CE;go_wp2_with fail
 refine CE.o.mono ?_;rintro r w2 ⟨rfl,hd⟩;have HD:=zab hd;clear hd CE;go_wp2_with fail
 first|go_end0|refine bodyPost_ret (results_none rfl _ _ _) rfl ?_
 refine ⟨rfl,?_⟩;obtain ⟨z,f,n1,n2,n3⟩:=X.o;exact Did.trans z f n1 n2 n3 HD.o
theorem zo5(hbw:below<=1000000000)(hl:q1.code.length+1<=1000000000)(hc:Calls Tryz.prog 95 #[.pointer (some ⟨bb,0,none⟩),.iface 226 x] w fun r w'=>r=.returned (.tuple #[])/\Did Z w cb bb rv sv kv fns q1 w'):
  Calls Tryz.prog 54 #[.pointer (some ⟨bb,0,none⟩),.iface 226 x,.int .i64 below] w fun r w'=>r=.returned (.tuple #[])/\Did Z w cb bb rv sv kv fns (q1.ends (below+1) .enter) w':=by
 have i0:=zdD;have i1:=zdg;have i2:=zfZ;have i3:=zgB;have CC:=zab hc;clear hc;go_enter Tryz.func54,Tryz.ntmps54
 go_wp2_with fail
 refine CC.o.mono ?_;rintro r w1 ⟨rfl,Z1,rv1,sv1,kv1,z1,b1,f1,n1,n2,n3⟩;have CE:=zab (zgI (c:=below+1) (i:=.enter) b1 rfl hl);have X:=zab (And.intro z1 (And.intro f1 (And.intro n1 (And.intro n2 n3))));clear z1 b1 f1 n1 n2 n3 CC i0 i1 i2 i3;rw[show ((below+1:Nat):Int)=(below:Int)+1 by omega]at CE;go_wp2_with fail
 refine CE.o.mono ?_;rintro r w2 ⟨rfl,hd⟩;have HD:=zab hd;clear hd CE;go_wp2_with fail
 first|go_end0|refine bodyPost_ret (results_none rfl _ _ _) rfl ?_
 refine ⟨rfl,?_⟩;obtain ⟨z,f,n1,n2,n3⟩:=X.o;exact Did.trans z f n1 n2 n3 HD.o
end Go.Proofs.YtgahgkddaljmkaaGreatDoor
