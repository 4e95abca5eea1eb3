/- Cmp30 .. Cmp34 -/
import Derived.Test.YtgahgkddaljmkaaGreatDoorW24
set_option maxRecDepth 100000
set_option maxHeartbeats 4000000
namespace Go.Proofs.YtgahgkddaljmkaaGreatDoor
open Tryz
open Go.RowKit Go.Shelf
attribute [local go_sem ↓] Go.wp_at_zero Go.wp_at_succ
attribute [local go_sem] Oper.semAt_some
variable {M N n:Nat}
variable {Z:Nat->Prop}
variable {w:World}
variable {cb bb below:Nat}
variable {rv sv kv:Value}
variable {fns:List Cp.Nm}
variable {q:Cp.Bs}
theorem zsK(hW:zbi M N n){t1 t2:TypeId}{x1 x2:Value}{fe:Th.Ex}{es:List Th.Ex}{ho:Cp.Bs->Th.Ex->Cp.Bs}(h:BS Z w cb bb rv sv kv fns q)(eB:∀ W,Fr (fun _=>False) w W->Calls prog 143 #[.agg #[.iface t1 x1,.iface t2 x2]] W (Spr Z W n fe es))(su:∀ (i:Nat) (e:Th.Ex) (Z1:Nat->Prop) (W:World) (bh bf cA v:Value),es[es.length-(i+1)]?=some e->i<es.length->BS Z1 W cb bb bh bf cA fns ((es.drop (es.length-i)).reverse.foldl ho q)->Rep Z1 W n v e ->
   Calls prog 95 #[.pointer (some ⟨bb,0,none⟩),v] W fun r w'=>r=.returned (.tuple #[])/\Did Z1 W cb bb bh bf cA fns (ho ((es.drop (es.length-i)).reverse.foldl ho q) e) w')(xx:es.length<=1000000)(aL:(es.reverse.foldl ho q).code.length<=1000000000)(aC:(es.reverse.foldl ho q).zac.length<=1000000000)(hf:Fit M N fns ((es.reverse.foldl ho q).push (.zbF es.length)) fe)(hb:below+es.length+1+(M+8)*Cp.wt N fe<=1000000000):
  Calls prog 87 #[.pointer (some ⟨bb,0,none⟩),.agg #[.iface t1 x1,.iface t2 x2],.int .i64 below] w fun r w'=>r=.returned (.tuple #[])/\Did Z w cb bb rv sv kv fns (Cp.work (Cp.free N) fns n fe (below+es.length+1) ((es.reverse.foldl ho q).push (.zbF es.length))) w':=by
 have f0:Fr (fun _=>False) w ((w.alloc (.cells #[.pointer (some ⟨bb,0,none⟩)] 100)).alloc (.cells #[.iface t1 x1,.iface t2 x2] 163)):=((Fr.refl _ _).alloc _).alloc _;have yJ:=zab (eB _ f0);have BX:=zab (Blk.alloc (Blk.new w [.pointer (some ⟨bb,0,none⟩)] 100) (.cells #[.iface t1 x1,.iface t2 x2] 163));have F0:=zab f0;have HE:=zab (enters_of (P:=prog) func210 (by kernel_rfl) rfl);have HH:=zab h;have HW:=zab hW;have vE:=zab su;have HF:=zab (And.intro hf hb);have iC:below+es.length+1<=1000000000:=by omega
 have cV:=h.zbY.lt;obtain ⟨q2,bC⟩:∃ q2,q2=es.reverse.foldl ho q:=⟨_,rfl⟩;have oD:=zab bC;rw[<-bC]at aL aC HF ⊢;clear h hW su hf hb eB f0 bC;refine callsIn_wide.1 (callsIn_of_wp_marks (n:=5) func87 rfl trivial (wpIn_wide.2 ?_) rfl);simp only[ntmps87,zzr,zy8,zzm,Nat.reduceAdd,Nat.reduceSub,zzB,zzC,zzH,zzE,zzb,zy7];obtain ⟨Q,hQ⟩:∃ Q,bodyPostM Fence.wide 5 prog Tryz.f87 (fun r w'=>r=.returned (.tuple #[])/\Did Z w cb bb rv sv kv fns (Cp.work (Cp.free N) fns n fe (below+es.length+1) (q2.push (.zbF es.length))) w')=Q:=⟨_,rfl⟩;have HQ:=zab hQ;rw[hQ];clear hQ;go_wp2_with fail
 refine yJ.o.mono ?_;rintro r w1 ⟨fv,av,fH,rfl,bI,af,hx,f1⟩;obtain ⟨ft,fx,rfl⟩:=zah bI;obtain ⟨sp,cap,g,ay,dk,mX,jr,aN⟩:=zaO (za0 af (zy5 _));subst ay;have F1:=zab (F0.o.trans f1);have Bl:=zab (Fr.blk BX.o f1 (by simp));have uK:0<es.length->w.heap.size<=g/\g<w1.heap.size:=fun h0=>by
  have:=af.lt g (jr h0);have:=F0.o.size;omega
 have qm:=zab aN;have uc:=zab uK;have vC:=zab (And.intro (bI.fr0 f1) (And.intro hx.1 (fun i v e a b=>(hx.2 i v e a b).fr0 f1)));have Cq:=zab jr;clear bI af hx f1 aN uK yJ BX jr;go_wp2_with fail
 refine (zsD sp es.length cap _).mono ?_;rintro e w2 ⟨rfl,aB⟩;have F2:Hid (Fr (fun _=>False) w1 w2):=zab (by rw[aB];exact (Fr.refl _ _).alloc _);have qh:Hid (Blk w2 w.heap.size [.pointer (some ⟨bb,0,none⟩)] 100):=zab (Fr.blk Bl.o F2.o (by simp));have uX:Hid (Blk w2 w1.heap.size [.slice sp es.length cap] 278):=zab (by rw[aB];exact Blk.new w1 [.slice sp es.length cap] 278);have mB:Hid (w2.heap.size=w1.heap.size+1):=zab (by rw[aB];simp);have aW:=F1.o.size;clear aB;have Gq:Hid (0<es.length->∀ k,(Value.slice sp es.length cap).ownBlock=some k->k=g):=zab (fun h0 k hk=>by rw[Cq.o h0]at hk;simpa using hk.symm);obtain ⟨Z1,jU⟩:∃ Z1:Nat->Prop,∀ k,Z1 k↔(Z k\/(0<es.length/\k=g)):=⟨_,fun _=>zAz⟩;have ur:=zab jU;clear jU;have ga:Hid (∀ k,w.heap.size<=k->¬ KL cb bb rv sv kv k):=zab (fun k hk he=>by
  have h:=HH.o;rcases he with e|e|e|e|e
  ·have:=h.clt;omega
  ·omega
  ·have:=h.rlt k e;omega
  ·have:=h.slt k e;omega
  ·have:=h.klt k e;omega)
 have gA:Hid (BS Z1 w2 cb bb rv sv kv fns q):=zab (by
  have:=(HH.o.fr0 (F1.o.trans F2.o)).more (A:=fun k=>0<es.length/\k=g) (fun k hk=>⟨by have:=uc.o hk.1;have:=F2.o.size;omega,ga.o k (by have:=uc.o hk.1;omega)⟩);have he:Z1=fun k=>Z k\/(0<es.length/\k=g):=funext (fun k=>propext (ur.o k))
  rw[he];exact this)
 have ow:Hid (Rep Z1 w2 n (.iface ft fx) fe/\fH.length=es.length/\∀ (i:Nat) (v:Value) (e:Th.Ex),fH[i]?=some v->es[i]?=some e->Rep Z1 w2 n v e):=zab ⟨(vC.o.1.fr0 F2.o).mono (fun k _ hk=>(ur.o k).2 (.inl hk)),vC.o.2.1,fun i v e a b=>((vC.o.2.2 i v e a b).fr0 F2.o).mono (fun k _ hk=>(ur.o k).2 (.inl hk))⟩;go_wp2_with fail
 have dJ:fH.length=es.length:=ow.o.2.1;have l9:Iter 210 w1.heap.size cap sp g fH:=fun l J Jr hY hJc W h0=>zsC l _ cap sp g fH (by omega) (fun h0=>mX (by omega)) J Jr hY hJc W h0
 obtain ⟨J,hJ⟩:∃ J:Nat->World->Prop,∀ i W,J i W↔(i<=es.length/\Did Z1 w2 cb bb rv sv kv fns ((es.drop (es.length-i)).reverse.foldl ho q) W):=⟨_,fun _ _=>zAz⟩;have HJ:=zab hJ;clear hJ;refine zp9 HE.o l9 rfl J (fun _=>False) ?hall ?hput ?hputr ?h0 ?hJc ?hround ?hdone ?hret
 case hall=>exact fun i W o hW=>(HJ.o _ _).2 ⟨((HJ.o _ _).1 hW).1,((HJ.o _ _).1 hW).2.alloc _⟩
 case hput=>exact fun i W l xo o hW hl hx hc=>(HJ.o _ _).2 ⟨((HJ.o _ _).1 hW).1,((HJ.o _ _).1 hW).2.putObj _ hl hx hc⟩
 case hputr=>exact fun _ _ _ _ h=>h.elim
 case h0=>exact (HJ.o _ _).2 ⟨zy5 _,by rw[zAl,zz6 (zyN _)];exact Did.refl gA.o⟩
 case hJc=>
  intro i W hW;obtain ⟨_,Z',aO,sv',bG,_,_,f3,_⟩:=(HJ.o i W).1 hW;refine ⟨?_,fun j v hv=>?_⟩
  ·rw[dJ];simpa using Blk.cell (Fr.blk uX.o f3 (ga.o _ aW)) 0
  ·have h4:=qm.o j v hv;have hj:=(zyL.1 hv).1;have hg:=uc.o (by omega);refine (World.cell?_of_block (a:=⟨g,j,none⟩) (w:=w1) ?_).trans h4;exact (f3.block g (zyS hg.2 F2.o.size) (ga.o g hg.1)).trans (F2.o.block g hg.2 (by simp))
 case hret=>exact fun _ h=>h.elim
 case hround=>
  intro l i c v W hJ oU hv;rw[dJ]at oU;obtain ⟨y,hy⟩:∃ y,es[c]?=some y:=⟨_,zyM (by omega)⟩;have yl:=(zyL.1 hy).1;have rI:=ow.o.2.2 c v y hv hy;obtain ⟨vt,vx,rfl⟩:=zah rI;have HY:=zab hy;have pI:=zab rI;clear hv hJ hy rI;simp only[zyO,zyZ,zyW]
  gi_wp2
  refine ⟨trivial,?_⟩;intro W2 h2 hD ma;obtain ⟨hi,Z',aO,sv',bG,hz,hb,f3,n1,n2,n3⟩:=(HJ.o i W2).1 h2;have b0:W2.cell? ⟨w.heap.size,0,none⟩=some (.pointer (some ⟨bb,0,none⟩)):=by simpa using Blk.cell (Fr.blk qh.o f3 (ga.o _ (zyN _))) 0
  have e1:es.length-(i+1)=c:=by omega
  have CU:=zab (vE.o i y Z' W2 aO sv' bG (.iface vt vx) (by rw[e1];exact HY.o) (by omega) hb (gA.o.rep f3 hz pI.o));have vB:Hid ((es.drop (es.length-(i+1))).reverse.foldl ho q=ho ((es.drop (es.length-i)).reverse.foldl ho q) y):=zab (by
   have e2:es.length-i=c+1:=by omega
   rw[e1,e2,zzs yl,show es[c]=y from (zyL.1 HY.o).2,List.reverse_cons,List.foldl_append];rfl)
  have qy:Hid (∀ w6,Fr (KL cb bb aO sv' bG) W2 w6->w6.heap[w2.heap.size]?=W2.heap[w2.heap.size]?/\w6.heap[w2.heap.size+1]?=W2.heap[w2.heap.size+1]?):=zab (fun w6 f6=>by
   obtain ⟨rl,bd⟩:=ma;refine ⟨f6.block _ (zyY.1 hD).1 (fun e=>?_),f6.block _ (zyY.1 bd).1 (fun e=>?_)⟩
   ·obtain ⟨_,_,_,h9⟩:=hb.zfx e;rw[hD]at h9;cases h9
   ·obtain ⟨_,_,_,h9⟩:=hb.zfx e;rw[bd]at h9;cases h9)
  have qp:=zab (And.intro hi (And.intro hz (And.intro f3 (And.intro n1 (And.intro n2 n3)))));clear h2 hD ma hi hz hb f3 n1 n2 n3 e1
  gi_wp2
  refine ⟨trivial,rfl,(zcY CU.o).mono ?_⟩;rintro e w6 ⟨rfl,D6⟩;have qo:=zab D6;clear D6 b0
  gi_wp2
  refine ⟨(HJ.o _ _).2 ⟨by omega,?_⟩,?_⟩
  ·rw[vB.o];obtain ⟨hi,hz,f3,n1,n2,n3⟩:=qp.o;exact Did.trans hz f3 n1 n2 n3 qo.o
  ·obtain ⟨_,_,_,_,_,_,f6,_⟩:=qo.o;exact qy.o _ f6
 case hdone=>
  intro W hW hD;obtain ⟨_,hd⟩:=(HJ.o _ W).1 hW;rw[dJ,zAx,zzY,<-oD.o]at hd;obtain ⟨Z3,j8,j9,j7,z3,b3,f3,n1,n2,n3⟩:=hd;have b0:W.cell? ⟨w.heap.size,0,none⟩=some (.pointer (some ⟨bb,0,none⟩)):=by simpa using Blk.cell (Fr.blk qh.o f3 (ga.o _ (zyN _))) 0
  have CP:=zab (zbn (i:=.zbF es.length) b3 rfl aL aC);have X3:=zab (And.intro z3 (And.intro b3 (And.intro f3 (And.intro n1 (And.intro n2 n3)))));have Y3:=zab (gA.o.rep f3 z3 ow.o.1);have qp:=zab hD;clear hW hD z3 b3 f3 n1 n2 n3;go_wp2_with fail
  refine CP.o.mono ?_;rintro r w4 ⟨rfl,Z4,yA,yC,yv,z4,b4,f4,n1,n2,n3⟩;have c4:w4.cell? ⟨w.heap.size,0,none⟩=some (.pointer (some ⟨bb,0,none⟩)):=by
   obtain ⟨_,b3,f3,n1,n2,n3⟩:=X3.o;have hB:=Fr.blk qh.o f3 (ga.o _ (zyN _));simpa using Blk.cell (Fr.blk hB f4 (fun e=>ga.o _ (zyN _) (KL.new e n1 n2 n3 (by have:=mB.o;omega)))) 0
  have d4:w4.heap[w2.heap.size]?=some (.deferred (some [])):=by
   have hD:=qp.o;rw[f4.block _ (zyY.1 hD).1 (fun e=>by obtain ⟨_,_,_,h9⟩:=X3.o.2.1.zfx e;rw[hD]at h9;cases h9)];exact hD
  have CK:=zab (HW.o (below:=below+es.length+1) b4 (X3.o.2.1.rep f4 z4 Y3.o) HF.o.1 HF.o.2);have BW:=zab d4;have X4:=zab (And.intro z4 (And.intro b4 (And.intro f4 (And.intro n1 (And.intro n2 n3)))));clear z4 b4 f4 n1 n2 n3 d4 b0 CP;rw[show ((below+es.length+1:Nat):Int)=(below:Int)+(es.length:Int)+1 by omega]at CK;go_wp2_with fail
  refine CK.o.mono ?_;rintro r w5 ⟨rfl,Ah⟩;have D5:=zab Ah;clear Ah CK c4;go_wp2_with fail
  rw[<-HQ.o];have d5:w5.heap[w2.heap.size]?=some (.deferred (some [])):=by
   have hD:=BW.o;obtain ⟨_,_,_,_,_,_,f5,_⟩:=D5.o;rw[f5.block _ (zyY.1 hD).1 (fun e=>by obtain ⟨_,_,_,h9⟩:=X4.o.2.1.zfx e;rw[hD]at h9;cases h9)];exact hD
  have eW:Did Z1 w2 cb bb rv sv kv fns (Cp.work (Cp.free N) fns n fe (below+es.length+1) (q2.push (.zbF es.length))) w5:=by
   obtain ⟨z,b,f,n1,n2,n3⟩:=X3.o;refine Did.trans z f n1 n2 n3 ?_;obtain ⟨z,b,f,n1,n2,n3⟩:=X4.o;exact Did.trans z f n1 n2 n3 D5.o
  refine zcg (base:=w2.heap.size) (I:=fun W'=>Did Z1 w2 cb bb rv sv kv fns (Cp.work (Cp.free N) fns n fe (below+es.length+1) (q2.push (.zbF es.length))) W') (by simp) (fun W' d bQ iH iX=>bQ.putObj _ iH iX (by simp)) (fun W' bQ=>?_) (zg3 d5 (zyN _)) eW;refine ⟨_,results_none rfl _ _ _,rfl,?_⟩;obtain ⟨Z',aO,sv',bG,z,b,f,n1,n2,n3⟩:=bQ;have q9:=F1.o.trans F2.o;refine ⟨Z',aO,sv',bG,fun k hk=>?_,b,(q9.mono (fun _ x=>x.elim)).trans f,New.trans (New.refl w rv) n1 q9.size,New.trans (New.refl w sv) n2 q9.size,New.trans (New.refl w kv) n3 q9.size⟩;rw[z k (zyS hk q9.size),ur.o k];constructor
  ·rintro (e|e)
   ·exact e
   ·have:=uc.o e.1;omega
  ·exact .inl
end Go.Proofs.YtgahgkddaljmkaaGreatDoor
namespace Go.Proofs.YtgahgkddaljmkaaGreatDoor
open Tryz
open Go.RowKit Go.Shelf
variable {off n:Nat}
theorem zpS{α:Type}{vs cs:List α}(h:off+cs.length<=n)(hn:n<=vs.length):(Go.splice vs off cs).take n=Go.splice (vs.take n) off cs:=by
 unfold Go.splice;have h1:(vs.take off).length=off:=by simp;omega
 rw[List.take_append,h1,List.take_append,zAq,zAq,List.drop_take];rw[Nat.min_eq_right (by omega:off<=n),zzV (by omega:off<=n),zy9 (by omega:cs.length<=n-off),Nat.sub_sub]
theorem zjZ(l xs:List Cp.Nm)(off:Nat):Go.splice (strCells l) off (strCells xs)=strCells (Go.splice l off xs):=by
 simp[Go.splice,strCells,List.map_take,List.map_drop]
theorem zvH:(prog.info? 9).map (·.size)=some 1:=by kernel_rfl
theorem zmM(l:List Cp.Nm):∀ v∈strCells l,v.oneCell'=true:=ze1
variable {w:World}
variable {g cap:Nat}
theorem zr6{eF gi eJ gz:Nat}{l xs:List Cp.Nm}{ad:Addr}{ops:Array Oper}{o:Oper}{a:Act}{K:Act->World->Prop}{Q:Exit->Act->World->Prop}{E:Prop}(oY:o.guard=none)(d sr:Operand)(ho:o.op=.call { callee:=.builtin .copy,args:=#[d,sr],argTypes:=#[38,38] })(ai:w.ownsRow 0 9 1 (.slice (some ⟨g,0,none⟩) n cap) n (strCells l))(hd:a.eval d=.slice (some ⟨g,off,none⟩) eF gi)(hs:a.eval sr=.slice (some ad) eJ gz)(hn:xs.length=Nat.min eJ eF)(dX:∀ (j:Nat) v,(strCells xs)[j]?=some v->w.cell? (ad.add j)=some v)(aJ:off+xs.length<=n)(hk:∀ w',w'.ownsRow 0 9 1 (.slice (some ⟨g,0,none⟩) n cap) n (strCells (Go.splice l off xs))->Fr (fun k=>k=g) w w'->K (a.put o.dst (goInt xs.length)) w'):if Region.wanted o (yielded ops a.tmps)=true then Oper.wp prog o a w K Q else E:=by
 have hw:Region.wanted o (yielded ops a.tmps)=true:=by simp[Region.wanted,oY]
 rw[if_pos hw];obtain ⟨vs,hb,dJ,o6,lY,rR,qf⟩:=ztI ai;have aN:(strCells xs).length=xs.length:=zdA _;have dI:=run_copy_row (P:=prog) w 38 38 o.type 9 g off eF gi ad eJ gz vs.toArray 9 (strCells xs) underlying38 zvH hb (by rw[aN];exact hn) dX (by simp[aN];omega) (zmM xs);unfold Oper.wp;simp[execOp,ho,resolve,invoke,builtin,hd,hs,dI,Result.andThen];have rS:Blk (w.setRow g (Go.splice vs off (strCells xs)).toArray) g (Go.splice vs off (strCells xs)) 9:=setRow_heap w g _ _ 9 _ hb;have:=hk _ (zgj rS (by rw[zzM _ _ _ (by rw[aN];omega)];exact dJ) o6 lY rR (by rw[zpS (by rw[aN];omega) (by omega),qf,zjZ])) ((Fr.refl _ _).setRow g _ rfl);unfold Go.splice at this;simp only[aN]at this ⊢;exact this
theorem zvk(h1:off<n)(h2:n<=cap):∀ W:World,(Instr.slice 38 (.slice (some ⟨g,0,none⟩) n cap) (some (.int .i64 (off:Int))) none none).run prog W=.ok (.slice (some ⟨g,off,none⟩) (n-off) (cap-off)) W:=by
 intro W;rw[run_slice_l W 38 _ _ _ underlying38 .i64 _ (by omega) (by omega)];have e3:prog.elem 38=9:=by kernel_rfl
 rw[e3,sizeOf9];simp[Result.andThen,sliced,zbe];omega
variable {Z:Nat->Prop}
variable {cb bb:Nat}
variable {rv kv:Value}
variable {fns:List Cp.Nm}
variable {q:Cp.Bs}
theorem BS.spliced{w':World}{sl:List Cp.Nm}(h:BS Z w cb bb rv (.slice (some ⟨g,0,none⟩) n cap) kv fns q)(f:Fr (fun k=>k=g) w w')(hn:n=sl.length)(hs:w'.ownsRow 0 9 1 (.slice (some ⟨g,0,none⟩) n cap) n (strCells sl)):Did Z w cb bb rv (.slice (some ⟨g,0,none⟩) n cap) kv fns ⟨q.blocks,sl,q.code⟩ w':=by
 have hg:(Value.slice (some ⟨g,0,none⟩) n cap).ownBlock=some g:=rfl;have iC:bb≠g:=fun e=>h.sc.2 (by rw[hg,e])
 have f1:Fr (fun k=>k=bb\/(Value.slice (some ⟨g,0,none⟩) n cap).ownBlock=some k\/kv.ownBlock=some k) w w':=f.mono (fun k hk=>.inr (.inl (by rw[hg,hk])));obtain ⟨vs,cK,aG⟩:=h.znV;subst hn;have hz:∀ k,k<w.heap.size->Z k->¬ k=g:=fun k _ hk e=>h.zk k hk (.inr (.inr (.inr (.inl (by rw[hg,e])))))
 exact Did.up (h.up f1 (Fr.blk h.zbY f iC) hs ⟨vs,f.gb cK (fun k hk e=>h.sk g hg (by rw[<-e];exact hk)),aG.frz f hz (fun _ _ x=>x)⟩ (New.refl _ _) (New.refl _ _) h.sk) f1 (New.refl _ _) (New.refl _ _)
end Go.Proofs.YtgahgkddaljmkaaGreatDoor
namespace Go.Proofs.YtgahgkddaljmkaaGreatDoor
open Tryz
open Go.RowKit Go.Shelf
attribute [local go_sem ↓] Go.wp_at_zero Go.wp_at_succ
variable {n:Nat}
variable {Z:Nat->Prop}
variable {w:World}
variable {cb bb:Nat}
variable {rv sv kv:Value}
variable {fns:List Cp.Nm}
variable {q:Cp.Bs}
variable {bt:TypeId}
variable {bx:Value}
theorem zvb{pv:Value}{qe:Cp.Bs}{r:Bool}{l:List Th.Tok}{parts:List Th.Ex}{pvs:List Value}{ho:Cp.Bs->Th.Ex->Cp.Bs}(AG:qe=parts.foldl ho q)(h:BS Z w cb bb rv sv kv fns q)(h3:parts.length=l.length)(h4:pvs.length=l.length)(h6:Row Z w 312 3 pv l.length (zaM l pvs))(h8:∀ (i:Nat) (bv:Value) (p:Th.Ex),pvs[i]?=some bv->parts[i]?=some p->Rep Z w n bv p)(su:∀ (i:Nat) (e:Th.Ex) (Z1:Nat->Prop) (W:World) (bh bf cA v:Value),parts[i]?=some e->BS Z1 W cb bb bh bf cA fns ((parts.take i).foldl ho q)->Rep Z1 W n v e ->
   Calls prog 95 #[.pointer (some ⟨bb,0,none⟩),v] W fun r w'=>r=.returned (.tuple #[])/\Did Z1 W cb bb bh bf cA fns (ho ((parts.take i).foldl ho q) e) w')(bp:0<l.length)(aU:l.length<=1000000)(aK:qe.zac.length=q.zac.length+l.length)(uQ:q.zac.length<=1000000000):
  Calls prog 163 #[.pointer (some ⟨bb,0,none⟩),.agg #[.bool r,pv,.iface bt bx]] w fun e w'=>e=.returned (.tuple #[])/\Did Z w cb bb rv sv kv fns ⟨qe.blocks,Go.splice qe.zac q.zac.length (Th.texts l),qe.code⟩ w':=by
 obtain ⟨g0,pc,eD⟩:∃ g0 pc,pv=.slice (some ⟨g0,0,none⟩) l.length pc:=by
  rcases h6.1.2 with ⟨_,h0⟩|⟨g,cap,cur,h0,_⟩
  ·omega
  ·exact ⟨_,_,h0⟩
 subst eD;obtain ⟨sp,sc,_,bA,_⟩:=zaO h.ziW;have bR:∀ (i:Nat) (pv:Value),pvs[i]?=some pv->pv.oneCell'=true:=fun i pv hp=>by
  have:i<parts.length:=by rw[h3,<-h4];exact (zyL.1 hp).1
  obtain ⟨t,x,rfl⟩:=zah (h8 i pv parts[i] hp (zyM this));rfl
 have f0:Fr (fun _=>False) w (w.alloc (.cells #[.bool r,.slice (some ⟨g0,0,none⟩) l.length pc,.iface bt bx] 178)):=(Fr.refl _ _).alloc _;have nH:=Blk.new w [.bool r,.slice (some ⟨g0,0,none⟩) l.length pc,.iface bt bx] 178;obtain ⟨Z1,jU⟩:∃ Z1:Nat->Prop,Z1=fun k=>Z k\/k=w.heap.size:=⟨_,rfl⟩
 have aA:BS Z1 (w.alloc (.cells #[.bool r,.slice (some ⟨g0,0,none⟩) l.length pc,.iface bt bx] 178)) cb bb rv sv kv fns q:=by
  rw[jU];refine (h.fr0 f0).more (fun k hk=>⟨by rw[World.size_alloc];omega,?_⟩);rintro (e|e|e|e|e)
  ·have:=h.clt;omega
  ·have:=h.zbY.lt;omega
  ·have:=h.rlt k e;omega
  ·have:=h.slt k e;omega
  ·have:=h.klt k e;omega
 have aP:Z1 w.heap.size:=by rw[jU];exact .inr rfl
 have kk:∀ k,k<w.heap.size->(Z1 k↔Z k):=by
  intro k hk;rw[jU];constructor
  ·rintro (e|e)
   ·exact e
   ·omega
  ·exact .inl
 have yo:∀ k,Z k->Z1 k:=fun k hk=>by rw[jU];exact .inl hk
 have c1:=Blk.cell aA.zbY 1;simp at c1;rw[bA]at c1;have cB:=zab aA;have dS:=zab (And.intro nH aP);have De:=zab kk;have F0:=zab f0;have H3:=zab h3;have H4:=zab h4;have H6:=zab ((Row.frc h6 f0 (by simp)).mono (fun k _ hk=>yo k hk));have H8:=zab (fun i bv p a b=>((h8 i bv p a b).fr0 f0).mono (fun k _ hk=>yo k hk));have vE:=zab su;have oA:=zab bR;have HQ:=zab (And.intro AG aK);have cV:=h.zbY.lt;have um:=zab bA;clear h h3 h4 h6 h8 su bR AG aK aA nH aP kk yo f0 jU bA;go_enter func163,ntmps163
 go_wp2_with fail
 generalize w.alloc (.cells #[.bool r,.slice (some ⟨g0,0,none⟩) l.length pc,.iface bt bx] 178)=w0 at dS cB F0 H6 H8 c1 ⊢;clear c1
 go_loopg [15] l.length (fun gk iv wr=>∃ k:Nat,iv=.int .i64 k/\k+gk=l.length/\Did Z1 w0 cb bb rv sv kv fns ((parts.take k).foldl ho q) wr)
 case atStart=>exact ⟨0,rfl,by omega,Did.refl cB.o⟩
 case round=>
  obtain ⟨k,rfl,hk,Zk,dM,ir,il,z,b,f,n1,n2,n3⟩:=hrel;by_cases aj:k<l.length
  ·obtain ⟨a,ha⟩:∃ a,l[k]?=some a:=⟨l[k],zyM aj⟩;obtain ⟨p,hp⟩:∃ p,parts[k]?=some p:=⟨_,zyM (by rw[H3.o];exact aj)⟩;obtain ⟨bv,cC⟩:∃ bv,pvs[k]?=some bv:=⟨_,zyM (by rw[H4.o];exact aj)⟩;have hR:=cB.o.rep f z (H8.o k bv p cC hp);obtain ⟨pt,px,rfl⟩:=zah hR;have aE:=zbA l pvs k a _ ha cC;have af:=(cB.o.row f z H6.o).1;have c0:=(af.cellAt (k*3) (by omega)).trans aE.1;have c1:=(af.cellAt (k*3+1) (by omega)).trans aE.2.1;have c2:=(af.cellAt (k*3+2) (by omega)).trans aE.2.2;have dF:(0:Int)<=(k:Int):=zzN _;have f2:Fr (fun _=>False) wr (wr.alloc (.cells #[.string ⟨a.s.toArray⟩,.int .i64 a.at_,.iface pt px] 312)):=(Fr.refl _ _).alloc _;have CH:=zab (vE.o k p Zk _ dM ir il (.iface pt px) hp (b.fr0 f2) (hR.fr0 f2));have hT:(parts.take (k+1)).foldl ho q=ho ((parts.take k).foldl ho q) p:=by rw[zAn,hp];simp
   have HT:=zab hT;have F2:=zab f2;have X:=zab (And.intro z (And.intro f (And.intro n1 (And.intro n2 n3))));clear z b f n1 n2 n3 hR aE af f2 hT ha hp cC;go_wp2_with fail
   refine CH.o.mono ?_;rintro e w3 ⟨rfl,hd⟩;have HD:=zab hd;clear hd CH c0 c1 c2;go_wp2_with fail
   go_roundg (l.length-(k+1))
   case measure=>omega
   case rel=>
    refine ⟨k+1,by go_num,by omega,?_⟩;rw[HT.o];obtain ⟨z,f,n1,n2,n3⟩:=X.o;exact Did.trans z f n1 n2 n3 (Did.fr0 F2.o HD.o)
  ·have aG:parts.take k=parts:=zy9 (by have:=H3.o;omega);rw[aG,<-HQ.o.1]at b;obtain ⟨Hh,cap,g,td,dk,mX,jr,aN⟩:=zaO b.ziW;have lq:0<qe.zac.length:=by have:=HQ.o.2;omega
   rw[mX lq]at td;subst td;have o6:qe.zac.length<=cap:=by
    rcases b.ziW.2 with ⟨h0,_⟩|⟨_,_,_,h0,_,_,hn,_⟩
    ·cases h0
    ·cases h0;exact hn
   have BU:=zvk (g:=g) (n:=qe.zac.length) (cap:=cap) (off:=q.zac.length) (by have:=HQ.o.2;omega) o6;have cN:=cB.o.box f z dS.o.1 dS.o.2;have e0:=Blk.cell cN.1 0;have e1:=Blk.cell cN.1 1;have e2:=Blk.cell cN.1 2;have b1:=Blk.cell b.zbY 1;simp at e0 e1 e2 b1;have CN:=zab (zcX (w:=wr.drew) (rb:=r) (bt:=bt) (bx:=bx) (cB.o.row f.drew z H6.o) H4.o oA.o aU);have BK:=zab b;have BX:=zab cN;have X:=zab (And.intro z (And.intro f (And.intro n1 (And.intro n2 n3))));clear z f n1 n2 n3 b cN aG dk mX jr aN;go_wp2_with fail
   go_region_law (first
    |(refine zr6 (g:=g) (n:=qe.zac.length) (cap:=cap) (off:=q.zac.length) (l:=qe.zac) (xs:=Th.texts l) (ad:=⟨tg,0,none⟩) (by rfl) _ _ (by rfl) (B5.o.ziW) (by rfl) (by rfl) vK.o kG.o fZ.o ?_;intro w6 h6 f6;have D6:=zab (B5.o.spliced (sl:=Go.splice qe.zac q.zac.length (Th.texts l)) f6 vJ.o h6);clear h6 f6)
    |(go_simp;go_wp2_with (go_at_call 197;refine CN.o.mono ?_;rintro e w5 ⟨tv,rfl,eC,dw⟩;have f5:Fr (fun _=>False) wr w5:=(Fr.refl _ _).drew.trans (Fr.below dw);have B5:=zab (BK.o.fr0 f5);have F5:=zab f5;obtain ⟨FT,tc,tg,lI,_,lH,_,lG⟩:=zaO (za0 eC (zy5 _));rw[lH bp]at lI;subst lI;have kG:=zab (fun (j:Nat) v (hv:(strCells (Th.texts l))[j]?=some v)=>(show w5.cell? (Addr.add ⟨tg,0,none⟩ j)=some v by rw[zbe,zzG];exact lG j v hv));have b5:w5.cell? ⟨bb,1,none⟩=some (.slice (some ⟨g,0,none⟩) qe.zac.length cap):=Blk.cell B5.o.zbY 1;have vK:Hid ((Th.texts l).length=Nat.min l.length (qe.zac.length-q.zac.length)):=zab (by have:=HQ.o.2;simp[Th.texts,Nat.min_def];omega);have fZ:Hid (q.zac.length+(Th.texts l).length<=qe.zac.length):=zab (by have:=HQ.o.2;simp[Th.texts];omega);have vJ:Hid (qe.zac.length=(Go.splice qe.zac q.zac.length (Th.texts l)).length):=zab (zzM _ _ _ fZ.o).symm;clear eC dw f5 lH lG)))
   all_goals
    first|go_end0|refine bodyPost_ret (results_none rfl _ _ _) rfl ?_
    refine ⟨rfl,?_⟩;have hd:Did Z1 w0 cb bb rv sv kv fns ⟨qe.blocks,Go.splice qe.zac q.zac.length (Th.texts l),qe.code⟩ w6:=by
     obtain ⟨z,f,n1,n2,n3⟩:=X.o;exact Did.trans z f n1 n2 n3 (Did.fr0 F5.o D6.o)
    obtain ⟨Z',aO,sv',bG,z,b,f,n1,n2,n3⟩:=hd;exact ⟨Z',aO,sv',bG,fun k hk=>(z k (zyS hk F0.o.size)).trans (De.o k hk),b,(F0.o.mono (fun _ x=>x.elim)).trans f,New.trans (New.refl w rv) n1 F0.o.size,New.trans (New.refl w sv) n2 F0.o.size,New.trans (New.refl w kv) n3 F0.o.size⟩
theorem BS.zx8(h:BS Z w cb bb rv sv kv fns q)(o:Obj):BS (fun k=>Z k\/k=w.heap.size) (w.alloc o) cb bb rv sv kv fns q:=by
 refine (h.fr0 ((Fr.refl _ _).alloc _)).more (fun k hk=>⟨by rw[World.size_alloc];omega,?_⟩);rintro (e|e|e|e|e)
 ·have:=h.clt;omega
 ·have:=h.zbY.lt;omega
 ·have:=h.rlt k e;omega
 ·have:=h.slt k e;omega
 ·have:=h.klt k e;omega
theorem Did.out1{w':World}{q':Cp.Bs}{o:Obj}(d:Did (fun k=>Z k\/k=w.heap.size) (w.alloc o) cb bb rv sv kv fns q' w'):Did Z w cb bb rv sv kv fns q' w':=by
 have f:Fr (fun _=>False) w (w.alloc o):=(Fr.refl _ _).alloc _;obtain ⟨Z',aO,sv',bG,z,b,f1,n1,n2,n3⟩:=d;refine ⟨Z',aO,sv',bG,fun k hk=>?_,b,(f.mono (fun _ x=>x.elim)).trans f1,New.trans (New.refl w rv) n1 f.size,New.trans (New.refl w sv) n2 f.size,New.trans (New.refl w kv) n3 f.size⟩;rw[z k (zyS hk f.size)];constructor
 ·rintro (e|e)
  ·exact e
  ·omega
 ·exact .inl
variable {M N pn pc:Nat}
variable {pp:Option Addr}
variable {q1:Cp.Bs}
theorem zvN(hW:zbi M N n){e:Th.Ex}(h:BS Z w cb bb rv sv kv fns q)(hr:Rep Z w n (.iface bt bx) e)(dq:∀ Z1 W,(∀ k,Z k->Z1 k)->Fr (fun _=>False) w W->BS Z1 W cb bb rv sv kv fns q->Calls prog 162 #[.pointer (some ⟨bb,0,none⟩),.agg #[.bool true,.slice pp pn pc,.iface bt bx]] W fun r w'=>r=.returned (.tuple #[])/\Did Z1 W cb bb rv sv kv fns q1 w')(hf:Fit M N fns q1 e)(hb:(M+8)*Cp.wt N e<=1000000000):
  Calls prog 94 #[.pointer (some ⟨bb,0,none⟩),.agg #[.bool true,.slice pp pn pc,.iface bt bx],.int .i64 0] w fun r w'=>r=.returned (.tuple #[])/\Did Z w cb bb rv sv kv fns (Cp.work (Cp.free N) fns n e 0 q1) w':=by
 have f0:Fr (fun _=>False) w (w.alloc (.cells #[.bool true,.slice pp pn pc,.iface bt bx] 178)):=(Fr.refl _ _).alloc _;have aA:=h.zx8 (.cells #[.bool true,.slice pp pn pc,.iface bt bx] 178);have CB:=zab (dq _ _ (fun k hk=>.inl hk) f0 aA);have dS:=zab (Blk.new w [.bool true,.slice pp pn pc,.iface bt bx] 178);have cB:=zab aA;have HR:=zab ((hr.fr0 f0).mono (fun k _ hk=>(Or.inl hk:Z k\/k=w.heap.size)));have HW:=zab hW;have HF:=zab (And.intro hf hb);clear h hr dq hf hb hW f0 aA;go_enter func94,ntmps94
 go_wp2_with fail
 refine CB.o.mono ?_;rintro r w1 ⟨rfl,Z1,bh,bf,cA,z1,b1,f1,n1,n2,n3⟩;have cN:=cB.o.box f1 z1 dS.o (.inr rfl);have e2:=Blk.cell cN.1 2;simp at e2;have CK:=zab (HW.o (below:=0) b1 (cB.o.rep f1 z1 HR.o) HF.o.1 (by simpa using HF.o.2));have X:=zab (And.intro z1 (And.intro f1 (And.intro n1 (And.intro n2 n3))));clear z1 b1 f1 n1 n2 n3 cN CB;go_wp2_with fail
 refine CK.o.mono ?_;rintro r w2 ⟨rfl,hd⟩;have HD:=zab hd;clear hd CK e2;go_wp2_with fail
 first|go_end0|refine bodyPost_ret (results_none rfl _ _ _) rfl ?_
 refine ⟨rfl,Did.out1 (o:=.cells #[.bool true,.slice pp pn pc,.iface bt bx] 178) ?_⟩;obtain ⟨z,f,n1,n2,n3⟩:=X.o;exact Did.trans z f n1 n2 n3 HD.o
theorem zrA(hW:zbi M N n){e:Th.Ex}(h:BS Z w cb bb rv sv kv fns q)(hr:Rep Z w n (.iface bt bx) e)(dq:∀ Z1 W,(∀ k,Z k->Z1 k)->Fr (fun _=>False) w W->BS Z1 W cb bb rv sv kv fns q->Calls prog 163 #[.pointer (some ⟨bb,0,none⟩),.agg #[.bool false,.slice pp pn pc,.iface bt bx]] W fun r w'=>r=.returned (.tuple #[])/\Did Z1 W cb bb rv sv kv fns q1 w')(hf:Fit M N fns q1 e)(hb:(M+8)*Cp.wt N e<=1000000000):
  Calls prog 94 #[.pointer (some ⟨bb,0,none⟩),.agg #[.bool false,.slice pp pn pc,.iface bt bx],.int .i64 0] w fun r w'=>r=.returned (.tuple #[])/\Did Z w cb bb rv sv kv fns (Cp.work (Cp.free N) fns n e 0 q1) w':=by
 have f0:Fr (fun _=>False) w (w.alloc (.cells #[.bool false,.slice pp pn pc,.iface bt bx] 178)):=(Fr.refl _ _).alloc _;have aA:=h.zx8 (.cells #[.bool false,.slice pp pn pc,.iface bt bx] 178);have CB:=zab (dq _ _ (fun k hk=>.inl hk) f0 aA);have dS:=zab (Blk.new w [.bool false,.slice pp pn pc,.iface bt bx] 178);have cB:=zab aA;have HR:=zab ((hr.fr0 f0).mono (fun k _ hk=>(Or.inl hk:Z k\/k=w.heap.size)));have HW:=zab hW;have HF:=zab (And.intro hf hb);clear h hr dq hf hb hW f0 aA;go_enter func94,ntmps94
 go_wp2_with fail
 refine CB.o.mono ?_;rintro r w1 ⟨rfl,Z1,bh,bf,cA,z1,b1,f1,n1,n2,n3⟩;have cN:=cB.o.box f1 z1 dS.o (.inr rfl);have e2:=Blk.cell cN.1 2;simp at e2;have CK:=zab (HW.o (below:=0) b1 (cB.o.rep f1 z1 HR.o) HF.o.1 (by simpa using HF.o.2));have X:=zab (And.intro z1 (And.intro f1 (And.intro n1 (And.intro n2 n3))));clear z1 b1 f1 n1 n2 n3 cN CB;go_wp2_with fail
 refine CK.o.mono ?_;rintro r w2 ⟨rfl,hd⟩;have HD:=zab hd;clear hd CK e2;go_wp2_with fail
 first|go_end0|refine bodyPost_ret (results_none rfl _ _ _) rfl ?_
 refine ⟨rfl,Did.out1 (o:=.cells #[.bool false,.slice pp pn pc,.iface bt bx] 178) ?_⟩;obtain ⟨z,f,n1,n2,n3⟩:=X.o;exact Did.trans z f n1 n2 n3 HD.o
theorem zuO{below:Int}{t1 t2:TypeId}{x1 x2:Value}(hc:∀ W,Fr (fun _=>False) w W->Calls prog 87 #[.pointer (some ⟨bb,0,none⟩),.agg #[.iface t1 x1,.iface t2 x2],.int .i64 below] W fun r w'=>r=.returned (.tuple #[])/\Did Z W cb bb rv sv kv fns q1 w'):
  Calls prog 54 #[.pointer (some ⟨bb,0,none⟩),.iface 163 (.agg #[.iface t1 x1,.iface t2 x2]),.int .i64 below] w fun r w'=>r=.returned (.tuple #[])/\Did Z w cb bb rv sv kv fns q1 w':=by
 have i0:=zff;have F0:Hid (Fr (fun _=>False) w (w.alloc (.cells #[.iface t1 x1,.iface t2 x2] 163))):=zab ((Fr.refl _ _).alloc _);have CC:=zab (hc _ F0.o);clear hc;go_enter func54,ntmps54
 go_wp2_with fail
 refine CC.o.mono ?_;rintro r w1 ⟨rfl,hd⟩;have HD:=zab (Did.fr0 F0.o hd);clear hd CC i0;go_wp2_with fail
 first|go_end0|refine bodyPost_ret (results_none rfl _ _ _) rfl ?_
 exact ⟨rfl,HD.o⟩
theorem zq0{below:Int}{r:Bool}(hc:∀ W,Fr (fun _=>False) w W->Calls prog 94 #[.pointer (some ⟨bb,0,none⟩),.agg #[.bool r,.slice pp pn pc,.iface bt bx],.int .i64 below] W fun r w'=>r=.returned (.tuple #[])/\Did Z W cb bb rv sv kv fns q1 w'):
  Calls prog 54 #[.pointer (some ⟨bb,0,none⟩),.iface 178 (.agg #[.bool r,.slice pp pn pc,.iface bt bx]),.int .i64 below] w fun r w'=>r=.returned (.tuple #[])/\Did Z w cb bb rv sv kv fns q1 w':=by
 have i0:=zgD;have i1:=zez;have i2:=zp3;have i3:=zlU;have F0:Hid (Fr (fun _=>False) w (w.alloc (.cells #[.bool r,.slice pp pn pc,.iface bt bx] 178))):=zab ((Fr.refl _ _).alloc _);have CC:=zab (hc _ F0.o);clear hc;go_enter func54,ntmps54
 go_wp2_with fail
 refine CC.o.mono ?_;rintro r w1 ⟨rfl,hd⟩;have HD:=zab (Did.fr0 F0.o hd);clear hd CC i0 i1 i2 i3;go_wp2_with fail
 first|go_end0|refine bodyPost_ret (results_none rfl _ _ _) rfl ?_
 exact ⟨rfl,HD.o⟩
variable {below:Nat}
variable {x:Value}
theorem zp7(uF:below<=1000000000)(hl:q1.code.length+1<=1000000000)(hc:Calls prog 95 #[.pointer (some ⟨bb,0,none⟩),.iface 217 x] w fun r w'=>r=.returned (.tuple #[])/\Did Z w cb bb rv sv kv fns q1 w'):
  Calls prog 54 #[.pointer (some ⟨bb,0,none⟩),.iface 217 x,.int .i64 below] w fun r w'=>r=.returned (.tuple #[])/\Did Z w cb bb rv sv kv fns (q1.ends (below+1) .enter) w':=by
 have i0:=zdM;have i1:=zdo;have i2:=zgf;have i3:=zhA;have CC:=zab hc;clear hc;go_enter func54,ntmps54
 go_wp2_with fail
 refine CC.o.mono ?_;rintro r w1 ⟨rfl,Z1,bh,bf,cA,z1,b1,f1,n1,n2,n3⟩;have CE:=zab (zgS (c:=below+1) (i:=.enter) b1 rfl hl);have X:=zab (And.intro z1 (And.intro f1 (And.intro n1 (And.intro n2 n3))));clear z1 b1 f1 n1 n2 n3 CC i0 i1 i2 i3;rw[show ((below+1:Nat):Int)=(below:Int)+1 by omega]at CE;go_wp2_with fail
 refine CE.o.mono ?_;rintro r w2 ⟨rfl,hd⟩;have HD:=zab hd;clear hd CE;go_wp2_with fail
 first|go_end0|refine bodyPost_ret (results_none rfl _ _ _) rfl ?_
 refine ⟨rfl,?_⟩;obtain ⟨z,f,n1,n2,n3⟩:=X.o;exact Did.trans z f n1 n2 n3 HD.o
theorem zwH(uF:below<=1000000000)(hl:q1.code.length+1<=1000000000)(hc:Calls prog 95 #[.pointer (some ⟨bb,0,none⟩),.iface 215 x] w fun r w'=>r=.returned (.tuple #[])/\Did Z w cb bb rv sv kv fns q1 w'):
  Calls prog 54 #[.pointer (some ⟨bb,0,none⟩),.iface 215 x,.int .i64 below] w fun r w'=>r=.returned (.tuple #[])/\Did Z w cb bb rv sv kv fns (q1.ends (below+1) .enter) w':=by
 have i0:=zkj;have i1:=ziK;have i2:=zp4;have i3:=zsg;have CC:=zab hc;clear hc;go_enter func54,ntmps54
 go_wp2_with fail
 refine CC.o.mono ?_;rintro r w1 ⟨rfl,Z1,bh,bf,cA,z1,b1,f1,n1,n2,n3⟩;have CE:=zab (zgS (c:=below+1) (i:=.enter) b1 rfl hl);have X:=zab (And.intro z1 (And.intro f1 (And.intro n1 (And.intro n2 n3))));clear z1 b1 f1 n1 n2 n3 CC i0 i1 i2 i3;rw[show ((below+1:Nat):Int)=(below:Int)+1 by omega]at CE;go_wp2_with fail
 refine CE.o.mono ?_;rintro r w2 ⟨rfl,hd⟩;have HD:=zab hd;clear hd CE;go_wp2_with fail
 first|go_end0|refine bodyPost_ret (results_none rfl _ _ _) rfl ?_
 refine ⟨rfl,?_⟩;obtain ⟨z,f,n1,n2,n3⟩:=X.o;exact Did.trans z f n1 n2 n3 HD.o
theorem zsl(uF:below<=1000000000)(hl:q1.code.length+1<=1000000000)(hc:Calls prog 95 #[.pointer (some ⟨bb,0,none⟩),.iface 219 x] w fun r w'=>r=.returned (.tuple #[])/\Did Z w cb bb rv sv kv fns q1 w'):
  Calls prog 54 #[.pointer (some ⟨bb,0,none⟩),.iface 219 x,.int .i64 below] w fun r w'=>r=.returned (.tuple #[])/\Did Z w cb bb rv sv kv fns (q1.ends (below+1) .enter) w':=by
 have i0:=zew;have i1:=zdC;have i2:=zhz;have i3:=ziq;have CC:=zab hc;clear hc;go_enter func54,ntmps54
 go_wp2_with fail
 refine CC.o.mono ?_;rintro r w1 ⟨rfl,Z1,bh,bf,cA,z1,b1,f1,n1,n2,n3⟩;have CE:=zab (zgS (c:=below+1) (i:=.enter) b1 rfl hl);have X:=zab (And.intro z1 (And.intro f1 (And.intro n1 (And.intro n2 n3))));clear z1 b1 f1 n1 n2 n3 CC i0 i1 i2 i3;rw[show ((below+1:Nat):Int)=(below:Int)+1 by omega]at CE;go_wp2_with fail
 refine CE.o.mono ?_;rintro r w2 ⟨rfl,hd⟩;have HD:=zab hd;clear hd CE;go_wp2_with fail
 first|go_end0|refine bodyPost_ret (results_none rfl _ _ _) rfl ?_
 refine ⟨rfl,?_⟩;obtain ⟨z,f,n1,n2,n3⟩:=X.o;exact Did.trans z f n1 n2 n3 HD.o
theorem zp6(uF:below<=1000000000)(hl:q1.code.length+1<=1000000000)(hc:Calls prog 95 #[.pointer (some ⟨bb,0,none⟩),.iface 226 x] w fun r w'=>r=.returned (.tuple #[])/\Did Z w cb bb rv sv kv fns q1 w'):
  Calls prog 54 #[.pointer (some ⟨bb,0,none⟩),.iface 226 x,.int .i64 below] w fun r w'=>r=.returned (.tuple #[])/\Did Z w cb bb rv sv kv fns (q1.ends (below+1) .enter) w':=by
 have i0:=zdK;have i1:=zdn;have i2:=zge;have i3:=zhx;have CC:=zab hc;clear hc;go_enter func54,ntmps54
 go_wp2_with fail
 refine CC.o.mono ?_;rintro r w1 ⟨rfl,Z1,bh,bf,cA,z1,b1,f1,n1,n2,n3⟩;have CE:=zab (zgS (c:=below+1) (i:=.enter) b1 rfl hl);have X:=zab (And.intro z1 (And.intro f1 (And.intro n1 (And.intro n2 n3))));clear z1 b1 f1 n1 n2 n3 CC i0 i1 i2 i3;rw[show ((below+1:Nat):Int)=(below:Int)+1 by omega]at CE;go_wp2_with fail
 refine CE.o.mono ?_;rintro r w2 ⟨rfl,hd⟩;have HD:=zab hd;clear hd CE;go_wp2_with fail
 first|go_end0|refine bodyPost_ret (results_none rfl _ _ _) rfl ?_
 refine ⟨rfl,?_⟩;obtain ⟨z,f,n1,n2,n3⟩:=X.o;exact Did.trans z f n1 n2 n3 HD.o
end Go.Proofs.YtgahgkddaljmkaaGreatDoor
