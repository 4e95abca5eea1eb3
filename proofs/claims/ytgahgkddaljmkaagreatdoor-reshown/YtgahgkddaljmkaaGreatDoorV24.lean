/- Shq .. RsJ -/
import Derived.Test.YtgahgkddaljmkaaGreatDoorV23
import Derived.Lib.AppendIntMem
set_option maxRecDepth 100000
set_option maxHeartbeats 4000000
namespace Go.Proofs.YtgahgkddaljmkaaGreatDoor
open Tryz Th Cp
open Go.RowKit
theorem NJ{a b r:ByteArray}(hr:r=a++b)(h:r.size<=1000000:=by omega):∀W:World,(Op.stringOp .add a b).run prog W=.ok (.string r) W:=by
 intro W;have hs:r.size=a.size+b.size:=by rw[hr];exact iR
 rw[hr];exact run_string_add_sum W a b (by omega)
theorem bsize(l:List UInt8):(⟨l.toArray⟩:ByteArray).size=l.length:=by simp[ByteArray.size]
theorem zIT(l:List Tok):l.length<=(Mj l).length:=by
 have h:∀(l:List Tok)(a:List UInt8),a.length+l.length<=(l.foldl (λs t=>s++([32]++t.s)) a).length:=by
  intro l
  induction l with
  |nil=>intro a;simp
  |cons t l ih=>intro a;have:=ih (a++([32]++t.s));simp only[NV,Kh,IJ,My]at this|-;omega
 have:=h l [];simpa[Mj]using this
theorem ZO(l:List (List UInt8))(x:List UInt8)(h:x∈l):x.length<=(MC l).length:=by
 have g:∀(l:List (List UInt8))(a:List UInt8),a.length<=(l.foldl (λs y=>s++[59,32]++y) a).length/\∀y∈l,y.length<=(l.foldl (λs y=>s++[59,32]++y) a).length:=by
  intro l
  induction l with
  |nil=>intro a;simp
  |cons t l ih=>
   intro a;have:=ih (a++[59,32]++t);simp only[NV];refine⟨yM (by simp) this.1,λy hy=>?_⟩;rcases Mz.1 hy with rfl|hy
   .exact yM (by simp;omega) this.1
   .exact this.2 y hy
 cases l with
 |nil=>simp at h
 |cons y l=>
  rcases Mz.1 h with rfl|h
  .exact(g l _).1
  .exact(g l _).2 x h
theorem zJa(l:List (List UInt8)):l.length<=(MC l).length+1:=by
 have g:∀(l:List (List UInt8))(a:List UInt8),a.length+l.length<=(l.foldl (λs y=>s++[59,32]++y) a).length:=by
  intro l
  induction l with
  |nil=>intro a;simp
  |cons t l ih=>intro a;have:=ih (a++[59,32]++t);simp only[NV,Kh,IJ,My]at this|-;omega
 cases l with
 |nil=>simp
 |cons y l=>have:=g l y;simp only[MC,Kh];omega
theorem Th.zKF(n:Nat)(l:List Th.By):∀i,(Th.Md n (l.take i)).length<=(Th.Md n l).length:=by
 have h:∀(k l:List By),(Md n l).length<=(Md n (l++k)).length:=by
  intro k
  induction k with
  |nil=>intro l;simp
  |cons t k ih=>intro l;have h1:=ih (l++[t]);have h2:=qz List.length (zIy n l t);simp only[IJ,Np,I8]at h1 h2;omega
 intro i;have:=h (l.drop i) (l.take i)
 rwa [U5]at this
variable {n:Nat}{l:List By}
theorem Th.zJR{i:Nat}{x:Th.By}(h:l[i]?=some x):Th.Md n (l.take (i+1))=Th.Md n (l.take i)++Th.Pa n x:=by rw[T9,h];exact Th.zIy _ _ _
end Go.Proofs.YtgahgkddaljmkaaGreatDoor
namespace Go.Proofs.YtgahgkddaljmkaaGreatDoor
open Tryz Th Cp
open Go.RowKit
attribute [local go_sem ↓] Go.wp_at_zero Go.wp_at_succ
variable {n:Nat}{w:World}{S:Nat->Prop}{e1:Ex}{RA RB R:ByteArray}{M:Nat}
theorem We(hx:RD n){v1 v2:Value}{e2:Ex}{A B:List UInt8}{SG:ByteArray}{L:Nat}(L3:L=1/\M=2\/L=2/\M=2\/L=3/\M=3)(KE:RA=⟨A.toArray⟩)(KG:RB=⟨B.toArray⟩)(hR:R=RA++⟨#[32]⟩++SG++⟨#[32]⟩++RB)(hA:A=Th.within e1 M (Th.text n e1))(hB:B=Th.within e2 (L+1) (Th.text n e2))(ht:Nq w)(hT:∀W:World,Calls prog 183 #[.agg #[.string SG,v1,v2]] W λr w'=>r=.returned (.int .i64 (L:Nat))/\Below W.heap.size W w')(d1:qU S w n v1 e1)(d2:qU S w n v2 e2)(f1:Wf n e1)(f2:Wf n e2)(hl:R.size<=1000000):
  Calls prog 110 #[.agg #[.string SG,v1,v2]] w λr w'=>r=.returned (.string R)/\Below w.heap.size w w':=by
 obtain⟨t1,x1,rfl⟩:=JQ d1;obtain⟨t2,x2,rfl⟩:=JQ d2;have l1:=XQ e1 M (Th.text n e1);have l2:=XQ e2 (L+1) (Th.text n e2);rw[<-hA]at l1;rw[<-hB]at l2;obtain⟨J1,zL⟩:∃J,J=RA++⟨#[32]⟩:=⟨_,rfl⟩;obtain⟨J2,wR⟩:∃J,J=J1++SG:=⟨_,rfl⟩;obtain⟨J3,gP⟩:∃J,J=J2++⟨#[32]⟩:=⟨_,rfl⟩;have KA:R=J3++RB:=by rw[hR,gP,wR,zL]
 have s4:R.size=J3.size+RB.size:=by rw[KA];exact iR
 have s3:J3.size=J2.size+1:=by rw[gP];exact iR
 have s2:J2.size=J1.size+SG.size:=by rw[wR];exact iR
 have s1:J1.size=RA.size+1:=by rw[zL];exact iR
 have sa:RA.size=A.length:=by rw[KE];simp[ByteArray.size]
 have sb:RB.size=B.length:=by rw[KG];simp[ByteArray.size]
 have q1:=NJ zL;have q2:=NJ wR;have q3:=NJ gP;have q4:=NJ KA;have C1:=eu (λ(W:World)(hW:Below w.heap.size w W)=>XZ hx (least:=M) (ht.below hW) (d1.gb (Bj none hW) (by simp)) f1 (by rw[<-hA];omega));have C2:=eu (λ(W:World)(hW:Below w.heap.size w W)=>XZ hx (least:=L+1) (ht.below hW) (d2.gb (Bj none hW) (by simp)) f2 (by rw[<-hB];omega));rw[<-hA,<-KE]at C1;rw[<-hB,<-KG]at C2;have CT:=eu hT;have Is:=eu (Mi w (.cells #[.string SG,.iface t1 x1,.iface t2 x2] 166));have HA:=eu (gH w [.string SG,.iface t1 x1,.iface t2 x2] 166);have CE:Hid (∀W:World,Below (w.heap.size+1) (w.alloc (.cells #[.string SG,.iface t1 x1,.iface t2 x2] 166)) W->W.cell? ⟨w.heap.size,0,none⟩=some (.string SG)/\W.cell? ⟨w.heap.size,1,none⟩=some (.iface t1 x1)/\W.cell? ⟨w.heap.size,2,none⟩=some (.iface t2 x2)):=eu (λW hW=>⟨by simpa using(HA.o.below hW (by omega)).cell 0,by simpa using(HA.o.below hW (by omega)).cell 1,by simpa using(HA.o.below hW (by omega)).cell 2⟩);clear d1 d2 f1 f2 hx l1 l2 hA hB hR ht hT zL wR gP KA s1 s2 s3 s4 sa sb KE KG hl;simp only[OC,Jl]at C2;rcases L3 with⟨rfl,rfl⟩|⟨rfl,rfl⟩|⟨rfl,rfl⟩
 all_goals
  go_enter func110,ntmps110;go_wp2_with fail;refine(CT.o _).mono ?_;rintro en w0⟨rfl,b0⟩;have Cu:=eu ((Below.refl (w.heap.size+1) (w.alloc (.cells #[.string SG,.iface t1 x1,.iface t2 x2] 166))).trans (b0.mono (by simp)));have dS:=eu (Is.o.trans (b0.mono (by simp)));obtain⟨g0,g1,g2⟩:=CE.o w0 Cu.o;have bK:=dS.o.size;have sR:w.heap.size+1<=w0.heap.size:=by have:=b0.size;simp at this;omega
  clear b0;go_wp2_with fail
  go_region_held3 (λW=>W.cell? ⟨w.heap.size,0,none⟩=some (.string SG)/\W.cell? ⟨w.heap.size,1,none⟩=some (.iface t1 x1)/\W.cell? ⟨w.heap.size,2,none⟩=some (.iface t2 x2)) (go_keep) (first
   |(go_at_call_of 109 (Value.iface t1 x1);refine(C1.o _ ?_).mono ?_;exact dS.o.drew;rintro en w1⟨rfl,b1⟩;have I4:Below w.heap.size w w1:=dS.o.drew.trans (b1.mono bK);have cB:=eu I4;have KI:=Cu.o.drew.trans (b1.mono sR);have oC:=eu KI;obtain⟨j0,j1,j2⟩:=CE.o w1 KI;have aW:=I4.size;have cF:w.heap.size+1<=w1.heap.size:=(yM sR b1.size);clear b1 I4 KI)
   |(go_at_call 183;refine(CT.o _).mono ?_;rintro en w3⟨rfl,b3⟩;have Kx:Below w.heap.size w w3:=cB.o.trans (b3.mono aW);have mw:=eu Kx;have Lt:=oC.o.trans (b3.mono cF);have qE:=eu Lt;obtain⟨k0,k1,k2⟩:=CE.o w3 Lt;have bP:=Kx.size;have mS:w.heap.size+1<=w3.heap.size:=(yM cF b3.size);clear b3 Kx Lt)
   |(go_at_call_of 109 (Value.iface t2 x2);refine(C2.o _ ?_).mono ?_;exact mw.o;rintro en w2⟨rfl,b2⟩;have KD:=mw.o.trans (b2.mono bP);have gA:=eu KD;have KN:=qE.o.trans (b2.mono mS);obtain⟨m0,m1,m2⟩:=CE.o w2 KN;clear b2 KD KN))
  all_goals
   go_wp2;go_ret;exact⟨rfl,gA.o⟩
theorem zMu{v1 v2:Value}{SG:ByteArray}(h1:∃t x,v1=.iface t x)(h2:∃t x,v2=.iface t x)(hO:∀W,Below w.heap.size w W->Calls prog 110 #[.agg #[.string SG,v1,v2]] W λr w'=>r=.returned (.string R)/\Below W.heap.size W w'):
  Calls prog 64 #[.iface 166 (.agg #[.string SG,v1,v2])] w λr w'=>r=.returned (.string R)/\Below w.heap.size w w':=by
 obtain⟨t1,x1,rfl⟩:=h1;obtain⟨t2,x2,rfl⟩:=h2;obtain⟨g5,g1,g2,g3,g4,-⟩:=Ui;have C1:=eu hO;have Is:=eu (Mi w (.cells #[.string SG,.iface t1 x1,.iface t2 x2] 166));clear hO;go_enter func64,ntmps64;go_wp2_with fail;refine(C1.o _ Is.o).mono ?_;rintro en w1⟨rfl,b1⟩;have cB:=eu (Is.o.trans (b1.mono Is.o.size));clear b1;go_wp2;go_ret;exact⟨rfl,cB.o⟩
theorem World.zJw(w:World)(o:Obj):(w.alloc o).heap.size=w.heap.size+1:=by simp
variable {bv:Value}
theorem zLW(hx:RD n){nv:Value}{l:List Tok}{A B:List UInt8}(KG:RB=⟨B.toArray⟩)(hR:R=⟨#[92]⟩++⟨A.toArray⟩++⟨#[46,32]⟩++RB)(hA:Mj l=32::A)(hB:B=Th.text n e1)(ht:Nq w)(d1:qU S w n bv e1)(hr:Row S w 88 2 nv l.length (Ms l))(lp:l.length<=1000000)(f1:Wf n e1)(hl:R.size<=1000000):
  Calls prog 64 #[.iface 226 (.agg #[nv,bv])] w λr w'=>r=.returned (.string R)/\Below w.heap.size w w':=by
 obtain⟨t1,x1,rfl⟩:=JQ d1;obtain⟨na,nk,nc,rfl⟩:=Jk hr;obtain⟨g8,g1,g2,g3,g4,g5,g6,g7,-⟩:=Uj;obtain⟨J1,zL⟩:∃J:ByteArray,J=⟨#[92]⟩++⟨A.toArray⟩:=⟨_,rfl⟩;obtain⟨J2,wR⟩:∃J,J=J1++⟨#[46,32]⟩:=⟨_,rfl⟩;have KA:R=J2++RB:=by rw[hR,wR,zL]
 have s4:R.size=J2.size+RB.size:=by rw[KA];exact iR
 have s2:J2.size=J1.size+2:=by rw[wR];exact iR
 have s1:J1.size=1+A.length:=by rw[zL];simp[ByteArray.size];omega
 have sb:RB.size=B.length:=by rw[KG];simp[ByteArray.size]
 have hz:(Mj l).length<=1000000:=by rw[hA];simp;omega
 have Kk:(Th.text n e1).length<=1000000:=by rw[<-hB];omega
 have q1:=NJ zL;have q2:=NJ wR;have q4:=NJ KA;have C1:=eu (λ(W:World)(hW:Below w.heap.size w W)=>ZP (hr.gb (Bj none hW) (by simp)) lp hz);have C2:=eu (λ(W:World)(hW:Below w.heap.size w W)=>hx W S _ e1 (ht.below hW) (d1.gb (Bj none hW) (by simp)) f1 Kk);obtain⟨LS,Lj⟩:∃J:ByteArray,J=⟨(Mj l).toArray⟩:=⟨_,rfl⟩;obtain⟨TL,Lk⟩:∃J:ByteArray,J=⟨A.toArray⟩:=⟨_,rfl⟩;have CP:Hid (∀W:World,Calls prog 113 #[.string LS,.string ⟨#[32]⟩] W λe w'=>e=.returned (.string TL)/\w'=W):=eu (λW=>by
  have:=Tryz.strings_TrimPrefix LS ⟨#[32]⟩ W;have e:(⟨(Lib.trimPrefix LS.data.toList (ByteArray.mk #[32]).data.toList).toArray⟩:ByteArray)=TL:=by rw[Lj,Lk,hA];simp[Lib.trimPrefix,Lib.hasPrefix]
  rw[e]at this;exact this)
 rw[<-Lj]at C1;rw[<-Lk]at q1;rw[<-hB,<-KG]at C2;have Is:=eu (Mi w (.cells #[.slice na nk nc,.iface t1 x1] 226));have KQ:=eu (gH w [.slice na nk nc,.iface t1 x1] 226);have CE:Hid (∀W:World,Below (w.heap.size+1) (w.alloc (.cells #[.slice na nk nc,.iface t1 x1] 226)) W->W.cell? ⟨w.heap.size,0,none⟩=some (.slice na nk nc)/\W.cell? ⟨w.heap.size,1,none⟩=some (.iface t1 x1)):=eu (λW hW=>⟨by simpa using(KQ.o.below hW (by omega)).cell 0,by simpa using(KQ.o.below hW (by omega)).cell 1⟩);clear Lj Lk d1 f1 hx hA hB hR ht hr hz Kk zL wR KA s1 s2 s4 sb KG hl;go_enter func64,ntmps64;go_wp2_with fail
 go_region_held3 (λW=>W.cell? ⟨w.heap.size,0,none⟩=some (.slice na nk nc)/\W.cell? ⟨w.heap.size,1,none⟩=some (.iface t1 x1)) (go_keep) (first
  |(go_at_call 63;refine(C1.o _ ?_).mono ?_;exact Is.o.drew;rintro en w1⟨rfl,b1⟩;have I4:Below w.heap.size w w1:=Is.o.drew.trans (b1.mono Is.o.size);have cB:=eu I4;have KI:Below (w.heap.size+1) (w.alloc (.cells #[.slice na nk nc,.iface t1 x1] 226)) w1:=(Below.refl _ _).drew.trans (b1.mono (by simp));have oC:=eu KI;obtain⟨j0,j1⟩:=CE.o w1 KI;have aW:=I4.size;have cF:w.heap.size+1<=w1.heap.size:=(yM (Jw (World.zJw _ _).symm) b1.size);clear b1 I4 KI)
  |(go_at_call 113;refine(CP.o _).mono ?_;rintro en w3⟨rfl,rfl⟩)
  |(go_at_call 64;refine(C2.o _ ?_).mono ?_;exact cB.o;rintro en w2⟨rfl,b2⟩;have KD:=cB.o.trans (b2.mono aW);have gA:=eu KD;have KN:=oC.o.trans (b2.mono cF);obtain⟨m0,m1⟩:=CE.o w2 KN;clear b2 KD KN))
 all_goals
  go_wp2;go_ret;exact⟨rfl,gA.o⟩
theorem Ve(x:List UInt8)(r:List (List UInt8)):MC (x::r)=x++(r.map (λy=>[59,32]++y)).flatten:=by
 have h:∀(r:List (List UInt8))(a:List UInt8),r.foldl (λs y=>s++[59,32]++y) a=a++(r.map (λy=>[59,32]++y)).flatten:=by
  intro r
  induction r with
  |nil=>intro a;simp
  |cons y r ih=>intro a;rw[NV,ih];simp
 exact h r x
theorem zK2(l:List (List UInt8)):Lib.join l [59,32]=MC l:=by
 cases l with
 |nil=>rfl
 |cons x r=>
  rw[Ve];unfold Lib.join
  induction r generalizing x with
  |nil=>simp[List.intercalate]
  |cons y r ih=>have:=ih y;simp only[List.intercalate,Ki,JU]at this|-;rw[List.intersperse_cons_cons,JU,JU,this];simp
theorem zK0{base:Nat}{v:Value}{z:List (List UInt8)}(h:w.ownsRow base 9 1 v z.length (strCells z))(aH:z≠[])(hz:z.length<=1000000)(hl:(MC z).length<=1000000):
  Calls prog 184 #[v,.string ⟨#[59,32]⟩] w λe w'=>e=.returned (.string ⟨(MC z).toArray⟩)/\Below w.heap.size w w':=by
 have gV:=Mq (lP h);rcases gV with rfl|⟨g,cap,rfl⟩
 .rcases h.2 with⟨_,h0⟩|⟨_,_,_,h0,_⟩
  .exact absurd (Pl.1 h0) aH
  .cases h0
 .have kS:z.length<=cap:=by
   rcases h.2 with⟨h0,_⟩|⟨_,_,_,h0,_,_,hn,_⟩
   .cases h0
   .cases h0;exact hn
  have hm:(z.map (λs=>(⟨s.toArray⟩:ByteArray))).map (·.data.toList)=z:=by rw[Ke];exact(U3 (λs _=>by simp)).trans (List.map_id z)
  have:=Tryz.strings_Join g 0 cap (z.map (λs=>(⟨s.toArray⟩:ByteArray))) ⟨#[59,32]⟩ w (λj x hx=>by
   have hj:j<z.length:=by have:=(Dq.1 hx).1;simpa using this
   have hc:=h.cellAt j (by omega);rw[On,hc];simp only[strCells,IP]at hx|-;rw[Iv hj]at hx|-;simp only[Qx,IA]at hx|-;rw[hx]) (h.lt g rfl).2 (by simp;omega) (by simp;omega) (by rw[hm];show(Lib.join z [59,32]).length<=_;rw[zK2];omega)
  rw[hm,q7]at this;rw[<-zK2];exact this
variable {sv:Value}
theorem zMv(hx:RD n){r:Bool}{l:List Tok}{parts:List Ex}{pvs:List Value}{b:Ex}{ST:ByteArray}(ht:Nq w)(h3:parts.length=l.length)(h4:pvs.length=l.length)(h5:Row S w 312 3 sv l.length (Ob l pvs))(h6:∀(i:Nat)(pv:Value)(p:Ex),pvs[i]?=some pv->parts[i]?=some p->qU S w n pv p)(h7:qU S w n bv b)(aH:l≠[])(lp:l.length<=1000000)(fp:∀p∈parts,Wf n p)(fb:Wf n b)(LB:ST=⟨(if r then[108,101,116,32,114,101,99,32]else[108,101,116,32]).toArray⟩)(KE:RA=⟨(MC (MS (Th.text n) l parts)).toArray⟩)(KG:RB=⟨(Th.text n b).toArray⟩)(hR:R=ST++RA++⟨#[32,105,110,32]⟩++RB)(hl:R.size<=1000000):
  Calls prog 111 #[.agg #[.bool r,sv,bv]] w λen w'=>en=.returned (.string R)/\Below w.heap.size w w':=by
 obtain⟨i0,hi,bq,aP,bF⟩:=nC RR;have HI:=eu hi;clear hi;have HZ:=eu (kK bq (kK aP bF));clear bq aP bF;have ma:0<l.length:=Qw.2 aH;obtain⟨z,kk⟩:∃z,MS (Th.text n) l parts=z:=⟨_,rfl⟩;have pr:z.length=l.length:=by rw[<-kk];exact ZR _ _ _ h3
 have ZG:Hid (∀(i:Nat)(t:Tok)(p:Ex),l[i]?=some t->parts[i]?=some p->z[i]?=some (Rw t (Th.text n p))):=eu (λi t p h1 h2=>by rw[<-kk];exact zIX _ _ _ i t p h1 h2);rw[kk]at KE;have Lq:z≠[]:=λe=>by rw[e]at pr;simp at pr;omega
 obtain⟨t0,x0,rfl⟩:=JQ h7;have fD:=Mq h5;have fQ:sv≠.slice none 0 0:=λe=>by
  rcases h5.1.2 with⟨_,h0⟩|⟨_,_,_,h0,_⟩
  .omega
  .rw[e]at h0;cases h0
 rcases fD with h|⟨g,cap,h⟩
 .exact absurd h fQ
 subst h;obtain⟨J1,zL⟩:∃J,J=ST++RA:=⟨_,rfl⟩;obtain⟨J2,wR⟩:∃J,J=J1++⟨#[32,105,110,32]⟩:=⟨_,rfl⟩;have gP:R=J2++RB:=by rw[hR,wR,zL]
 have s3:R.size=J2.size+RB.size:=by rw[gP];exact iR
 have s2:J2.size=J1.size+4:=by rw[wR];exact iR
 have s1:J1.size=ST.size+RA.size:=by rw[zL];exact iR
 have sb:RB.size=(Th.text n b).length:=by rw[KG];exact bsize _
 have sa:RA.size=(MC z).length:=by rw[KE];exact bsize _
 have c1:=NJ zL;have c2:=NJ wR;have c3:=NJ gP;have gT:(MC z).length<=1000000:=by omega
 have dE:=IS w (.cells #[.bool r,.slice (some ⟨g,0,none⟩) l.length cap,.iface t0 x0] 178) none;have CX:Hid (∀(i:Nat)(x:Value)(p:Ex),pvs[i]?=some x->parts[i]?=some p->(Th.text n p).length<=1000000->(∃t y,x=.iface t y)/\∀W,Below w.heap.size w W->Calls prog 64 #[x] W λr w'=>r=.returned (.string ⟨(Th.text n p).toArray⟩)/\Below W.heap.size W w'):=eu (λi x p q1 q2 q3=>⟨JQ (h6 i x p q1 q2),λW hW=>hx W S x p (ht.below hW) ((h6 i x p q1 q2).gb (Bj none hW) (by simp)) (fp p (ML q2)) q3⟩);have CB:=eu (λ(W:World)(hW:Below w.heap.size w W)=>hx W S _ b (ht.below hW) (h7.gb (Bj none hW) (by simp)) fb (by omega));rw[<-KG]at CB;have KC:=eu (λ(W:World)(hW:Below w.heap.size w W)=>h5.1.kept (Bj none hW) (PQ _));have HN:=eu (kK h3 h4);have Is:=eu (Mi w (.cells #[.bool r,.slice (some ⟨g,0,none⟩) l.length cap,.iface t0 x0] 178));have HA:=eu (gH w [.bool r,.slice (some ⟨g,0,none⟩) l.length cap,.iface t0 x0] 178);obtain⟨W0,rL⟩:∃W0,w.alloc (.cells #[.bool r,.slice (some ⟨g,0,none⟩) l.length cap,.iface t0 x0] 178)=W0:=⟨_,rfl⟩;have bK:W0.heap.size=w.heap.size+1:=by rw[<-rL];simp
 have BG:Hid (∀W:World,Below (w.heap.size+1) W0 W->Below w.heap.size w W):=eu (λW hW=>by have:=Is.o;rw[rL]at this;exact this.trans (hW.mono (by omega)))
 have Lw:Hid (∀W:World,Below (w.heap.size+1) W0 W->W.cell? ⟨w.heap.size,0,none⟩=some (.bool r)/\W.cell? ⟨w.heap.size,2,none⟩=some (.iface t0 x0)):=eu (λW hW=>by have:=HA.o;rw[rL]at this;exact⟨by simpa using(this.below hW (by omega)).cell 0,by simpa using(this.below hW (by omega)).cell 2⟩)
 have LO:=eu rL;have LL:=eu KE;have pK:=eu LB;clear h3 h4 h5 h6 h7 hx ht fp fb fQ hR KG KE LB zL wR gP s1 s2 s3 sa sb hl dE kk aH rL;go_enter func111,ntmps111;go_wp2_with fail;rw[LO.o]
 go_loopg [3,10] l.length (λgk v iv wr=>∃k:Nat,iv=.int .i64 k/\k<=l.length/\l.length-k<=gk/\wr.ownsRow (w.heap.size+1) 9 1 v k (strCells (z.take k))/\Below (w.heap.size+1) W0 wr)
 case atStart=>exact⟨0,rfl,Kc _,by omega,kt _ _ _ _,Below.refl _ _⟩
 case round=>
  obtain⟨k,rfl,hk,jm,ai,hb⟩:=hrel;have Ho:=eu ai;have Hb:=eu hb;have cT:w.heap.size+1<=wr.heap.size:=by have:=hb.size;omega
  have uF:=BG.o wr hb;by_cases aj:k<l.length
  .obtain⟨t,ht⟩:∃t,l[k]?=some t:=⟨l[k],Iv aj⟩;obtain⟨p,hp⟩:∃p,parts[k]?=some p:=⟨parts[k]'(by have:=HN.o;omega),Iv (by have:=HN.o;omega)⟩;obtain⟨x,hx⟩:∃x,pvs[k]?=some x:=⟨pvs[k]'(by have:=HN.o;omega),Iv (by have:=HN.o;omega)⟩;have af:=KC.o wr uF;have ci:=Tj l pvs k t x ht hx;have y0:=(af.cellAt (k*3) (by omega)).trans ci.1;have y1:=(af.cellAt (k*3+1) (by omega)).trans ci.2.1;have y2:=(af.cellAt (k*3+2) (by omega)).trans ci.2.2;have fX:=(af.lt g rfl).2;have zi:=ZG.o k t p ht hp;have hm:=ZO _ _ (ML zi);simp only[Rw,IJ,Kh,My]at hm;obtain⟨⟨xt,xy,rfl⟩,cx⟩:=CX.o k x p hx hp (by omega);have ur:=eu (PH zi);obtain⟨TS,KK⟩:∃J:ByteArray,J=⟨t.s.toArray⟩:=⟨_,rfl⟩;obtain⟨TX,KM⟩:∃J:ByteArray,J=⟨(Th.text n p).toArray⟩:=⟨_,rfl⟩;obtain⟨K1,oN⟩:∃J:ByteArray,J=TS++⟨#[32,61,32]⟩:=⟨_,rfl⟩;obtain⟨K2,rE⟩:∃J:ByteArray,J=K1++TX:=⟨_,rfl⟩;have HE:Hid ((⟨(Rw t (Th.text n p)).toArray⟩:ByteArray)=K2):=eu (by
    rw[rE,oN,KK,KM];simp only[Q7,Rw])
   have u1:K1.size=TS.size+3:=by rw[oN];exact iR
   have u2:K2.size=K1.size+TX.size:=by rw[rE];exact iR
   have ut:TS.size=t.s.length:=by rw[KK];exact bsize _
   have ux:TX.size=(Th.text n p).length:=by rw[KM];exact bsize _
   have d1:=NJ oN;have d2:=NJ rE;rw[<-KK]at y0;rw[<-KM]at cx;have aA:=hb.alloc cT (.cells #[.string TS,.int .i64 t.at_,.iface xt xy] 312);have KS:=BG.o _ aA;have LK:=eu (cx _ KS.drew);have KJ:=eu aA;have ug:=eu ((ai.alloc (.cells #[.string TS,.int .i64 t.at_,.iface xt xy] 312)).drew);have HC:=eu (gH wr [.string TS,.int .i64 t.at_,.iface xt xy] 312);have dF:(0:Int)<=(k:Int):=by omega
   have nS:(k:Int)<(l.length:Int):=by omega
   clear af ci ht hp hx zi hm cx KK KM oN rE u1 u2 ut ux hb uF aA KS ai;go_wp2_with fail
   go_region_held3 (λW=>W.cell? ⟨wr.heap.size,0,none⟩=some (.string TS)/\W.cell? ⟨wr.heap.size,2,none⟩=some (.iface xt xy)) (first|go_keep|(refine⟨?_,?_⟩<;>assumption)) (first
    |(refine step_append_lies _ (by rfl) _ _ _ (by rfl) (w.heap.size+1) 9 i0 _ 1 16 underlying38 HI.o HZ.o.1 HZ.o.2.1 HZ.o.2.2 rfl (by omega) _ k (strCells (z.take k)) (by rfl) (mA.o.alloc _) ⟨w2.heap.size,0,none⟩ 1 1 [.string K2] (by rfl) (by rfl) (World.news_of_block (cs:=#[.string K2]) (t:=9) (fr:=(0,0)) (heap_alloc_new w2 _)) (by simp[Value.oneCell']) (by omega) (by unfold maxLen;omega) (by omega) (by simp;omega) (w2.heap.size+1) (by simp) ?_;intro g6 Lb w6 Kz ah aV Lm;have K9:=eu Kz;have b6:=(gA.o.alloc aI (.cells #[.string K2] 9)).grown ah (by simp;omega) (λj hj=>((mA.o.alloc (.cells #[.string K2] 9)).lt j hj).1);have KY:=eu b6;have r0:=Qt ah (Qt (IS w2 (.cells #[.string K2] 9) none) e0) (λh=>absurd (Ho.o.lt _ h.symm).2 (ID _));have r2:=Qt ah (Qt (IS w2 (.cells #[.string K2] 9) none) e2) (λh=>absurd (Ho.o.lt _ h.symm).2 (ID _));clear b6 Kz)
    |(go_at_call 64;refine LK.o.mono ?_;rintro en w2⟨rfl,b2⟩;have mA:=eu (ug.o.kept (Bj none b2) (PQ _));have gA:=eu (KJ.o.drew.trans (b2.mono (by simp;omega)));have aI:w.heap.size+1<=w2.heap.size:=(by have:=b2.size;simp at this;omega);have ua:=HC.o.drew.below b2 (by simp);have e0:=ua.cell 0;have e2:=ua.cell 2;simp at e0 e2;clear b2 ua))
   all_goals
    go_wp2
    go_roundg (l.length-(k+1))
    case measure=>omega
    case rel=>refine⟨k+1,by go_num,by omega,qP _,?_,KY.o⟩;rw[ur.o,Xg,HE.o];exact K9.o
  .have KP:k=z.length:=by omega
   have ho:=ai;rw[show z.take k=z from by rw[KP];exact N8 (qP _)]at ho;rw[KP]at ho;have CJ:=eu (λ(W:World)(hW:Below wr.heap.size wr W)=>zK0 (ho.kept (Bj none hW) (PQ _)) Lq (by omega) gT);rw[<-LL.o]at CJ;obtain⟨f0,f2⟩:=Lw.o wr hb;have KU:=eu (λ(W:World)(hW:Below wr.heap.size wr W)=>(Lw.o W (hb.trans (hW.mono cT))).2);have Lu:=eu (λ(W:World)(hW:Below wr.heap.size wr W)=>CB.o W (uF.trans (hW.mono (by omega))));have Ly:=eu uF;have KT:w.heap.size<=wr.heap.size:=by omega
   clear ai hb ho KP uF;cases r with
   |false=>
    have hS:ST=⟨#[108,101,116,32]⟩:=by rw[pK.o];rfl
    subst hS;go_wp2_with fail
    go_region_held3 (λW=>W.cell? ⟨w.heap.size,2,none⟩=some (.iface t0 x0)) (go_keep) (first
     |(go_at_call 184;refine(CJ.o _ ?_).mono ?_;exact(Below.refl _ _).drew;rintro e3 w3⟨rfl,b3⟩;have Kx:Below wr.heap.size wr w3:=(Below.refl _ _).drew.trans (b3.mono (qP _));have mw:=eu Kx;have a3:=KU.o w3 Kx;have bP:=Kx.size;clear b3 Kx)
     |(go_at_call 64;refine(Lu.o _ ?_).mono ?_;exact mw.o;rintro e4 w4⟨rfl,b4⟩;have KF:=mw.o.trans (b4.mono bP);have gB:=eu KF;have a4:=KU.o w4 KF;clear b4 KF))
    all_goals
     go_wp2;go_ret;exact⟨rfl,Ly.o.trans (gB.o.mono KT)⟩
   |true=>
    have hS:ST=⟨#[108,101,116,32,114,101,99,32]⟩:=by rw[pK.o];rfl
    subst hS;go_wp2_with fail
    go_region_held3 (λW=>W.cell? ⟨w.heap.size,2,none⟩=some (.iface t0 x0)) (go_keep) (first
     |(go_at_call 184;refine(CJ.o _ ?_).mono ?_;exact(Below.refl _ _).drew;rintro e3 w3⟨rfl,b3⟩;have Kx:Below wr.heap.size wr w3:=(Below.refl _ _).drew.trans (b3.mono (qP _));have mw:=eu Kx;have a3:=KU.o w3 Kx;have bP:=Kx.size;clear b3 Kx)
     |(go_at_call 64;refine(Lu.o _ ?_).mono ?_;exact mw.o;rintro e4 w4⟨rfl,b4⟩;have KF:=mw.o.trans (b4.mono bP);have gB:=eu KF;have a4:=KU.o w4 KF;clear b4 KF))
    all_goals
     go_wp2;go_ret;exact⟨rfl,Ly.o.trans (gB.o.mono KT)⟩
theorem zJ4{t:TypeId}{x:Value}{X P:ByteArray}{en last:Bool}(hN:∀W,Below w.heap.size w W->Calls prog 240 #[.iface t x] W λr w'=>r=.returned (.bool en)/\Below W.heap.size W w')(hE:∀W,Below w.heap.size w W->Calls prog 64 #[.iface t x] W λr w'=>r=.returned (.string X)/\Below W.heap.size W w')(hP:∀W,Below w.heap.size w W->Calls prog 182 #[.iface t x] W λr w'=>r=.returned (.string P)/\Below W.heap.size W w'):
  Calls prog 185 #[.iface t x,.bool last] w λr w'=>r=.returned (.string (if !last && en then P else X))/\Below w.heap.size w w':=by
 have CN:=eu hN;have CE:=eu hE;have CP:=eu hP;clear hN hE hP;cases last with
 |true=>simp only[Bool.not_true,Bool.false_and,Ps,nt];go_enter func185,ntmps185;go_wp2_with fail;refine(CE.o _ (Below.refl _ _)).mono ?_;rintro en w1⟨rfl,b1⟩;have cB:=eu b1;clear b1;go_wp2;go_ret;exact⟨rfl,cB.o⟩
 |false=>
  cases en with
  |false=>simp only[Bool.not_false,J9,Ps,nt];go_enter func185,ntmps185;go_wp2_with fail;refine(CN.o _ (Below.refl _ _)).mono ?_;rintro en w1⟨rfl,b1⟩;have cB:=eu b1;clear b1;go_wp2_with fail;refine(CE.o _ cB.o).mono ?_;rintro en w2⟨rfl,b2⟩;have gA:=eu (cB.o.trans (b2.mono cB.o.size));clear b2;go_wp2;go_ret;exact⟨rfl,gA.o⟩
  |true=>simp only[Bool.not_false,J9,kP];go_enter func185,ntmps185;go_wp2_with fail;refine(CN.o _ (Below.refl _ _)).mono ?_;rintro en w1⟨rfl,b1⟩;have cB:=eu b1;clear b1;go_wp2_with fail;refine(CP.o _ cB.o).mono ?_;rintro en w2⟨rfl,b2⟩;have gA:=eu (cB.o.trans (b2.mono cB.o.size));clear b2;go_wp2;go_ret;exact⟨rfl,gA.o⟩
theorem zKt(hx:RD n){v:Value}{e:Ex}{last:Bool}(ht:Nq w)(h:qU S w n v e)(hw:Wf n e)(hl:(Th.text n e).length<=999998):
  Calls prog 185 #[v,.bool last] w λr w'=>r=.returned (.string ⟨(Pn (Th.ends n e) last (Th.text n e)).toArray⟩)/\Below w.heap.size w w':=by
 obtain⟨t,x,rfl⟩:=JQ h;have:=zJ4 (last:=last) (λ(W:World)(hW:Below w.heap.size w W)=>zJs n (h.gb (Bj none hW) (by simp))) (λ(W:World)(hW:Below w.heap.size w W)=>hx W S _ e (ht.below hW) (h.gb (Bj none hW) (by simp)) hw (by omega)) (λ(W:World)(hW:Below w.heap.size w W)=>zKe hx (ht.below hW) (h.gb (Bj none hW) (by simp)) hw hl);have e1:(⟨(Pn (Th.ends n e) last (Th.text n e)).toArray⟩:ByteArray)=if(!last && Th.ends n e)=true then⟨(paren (Th.text n e)).toArray⟩else⟨(Th.text n e).toArray⟩:=by unfold Pn;split<;>rfl
 rw[e1];exact this
theorem zLT(hx:RD n){nA:List (Nat × List Tok)}{ag:List Ex}{nvs bvs:List Value}(ht:Nq w)(h3:ag.length=nA.length)(h4:nvs.length=nA.length)(h5:bvs.length=nA.length)(h6:Row S w 240 3 sv nA.length (OF nA nvs bvs))(h7:∀(i:Nat)(a:Nat × List Tok)(nv:Value),nA[i]?=some a->nvs[i]?=some nv->Row S w 88 2 nv a.2.length (Ms a.2))(h8:∀(i:Nat)(bv:Value)(p:Ex),bvs[i]?=some bv->ag[i]?=some p->qU S w n bv p)(aH:nA≠[])(lp:nA.length<=1000000)(xI:∀a∈nA,a.2.length<=1000000)(fp:∀p∈ag,Wf n p)(ft:∀a∈nA,a.1<=99)(hl:(MC (MT (Th.text n) (Th.ends n) nA ag)).length<=1000000):
  Calls prog 112 #[sv] w λen w'=>en=.returned (.string ⟨(MC (MT (Th.text n) (Th.ends n) nA ag)).toArray⟩)/\Below w.heap.size w w':=by
 obtain⟨i0,hi,bq,aP,bF⟩:=nC RR;have HI:=eu hi;clear hi;have HZ:=eu (kK bq (kK aP bF));clear bq aP bF;have ma:0<nA.length:=Qw.2 aH;obtain⟨z,kk⟩:∃z,MT (Th.text n) (Th.ends n) nA ag=z:=⟨_,rfl⟩;have pr:z.length=nA.length:=by rw[<-kk];exact ZM _ _ _ _ h3
 have ZG:Hid (∀(i:Nat)(t:Nat × List Tok)(p:Ex),nA[i]?=some t->ag[i]?=some p->z[i]?=some (PG t (Pn (Th.ends n p) (decide (i+1=nA.length)) (Th.text n p)))):=eu (λi t p h1 h2=>by rw[<-kk];exact ZL _ _ _ _ i t p h1 h2);rw[kk]at hl|-;have Lq:z≠[]:=λe=>by rw[e]at pr;simp at pr;omega
 have fD:=Mq h6;have fQ:sv≠.slice none 0 0:=λe=>by
  rcases h6.1.2 with⟨_,h0⟩|⟨_,_,_,h0,_⟩
  .omega
  .rw[e]at h0;cases h0
 rcases fD with h|⟨g,cap,h⟩
 .exact absurd h fQ
 subst h;have CA:Hid (∀(k:Nat)(t:Nat × List Tok)(p:Ex)(x y:Value),nA[k]?=some t->ag[k]?=some p->nvs[k]?=some x->bvs[k]?=some y->(Th.text n p).length<=999998->(Mj t.2).length<=1000000->(∃xa xn xc,x=.slice xa xn xc)/\(∃yt yy,y=.iface yt yy)/\t.1<=99 /\
   (∀W:World,Below w.heap.size w W->Calls prog 63 #[x] W λe w'=>e=.returned (.string ⟨(Mj t.2).toArray⟩)/\Below W.heap.size W w') /\
   (∀(last:Bool)(W:World),Below w.heap.size w W->Calls prog 185 #[y,.bool last] W λe w'=>e=.returned (.string ⟨(Pn (Th.ends n p) last (Th.text n p)).toArray⟩)/\Below W.heap.size W w')):=eu (by
  intro k t p x y q1 q2 q3 q4 q5 q6;have rn:=h7 k t x q1 q3;have dd:=h8 k y p q4 q2;exact⟨Jk rn,JQ dd,ft t (ML q1),λW hW=>ZP (rn.gb (Bj none hW) (by simp)) (xI t (ML q1)) q6,λlast W hW=>zKt hx (ht.below hW) (dd.gb (Bj none hW) (by simp)) (fp p (ML q2)) q5⟩)
 have KC:=eu (λ(W:World)(hW:Below w.heap.size w W)=>h6.1.kept (Bj none hW) (PQ _));have HN:=eu (kK h3 (kK h4 h5));clear h3 h4 h5 h6 h7 h8 hx ht fp ft fQ aH xI kk;go_enter func112,ntmps112;go_wp2_with fail
 go_loopg [3,9] nA.length (λgk v iv wr=>∃k:Nat,iv=.int .i64 k/\k<=nA.length/\nA.length-k<=gk/\wr.ownsRow w.heap.size 9 1 v k (strCells (z.take k))/\Below w.heap.size w wr)
 case atStart=>exact⟨0,rfl,Kc _,by omega,kt _ _ _ _,Below.refl _ _⟩
 case round=>
  obtain⟨k,rfl,hk,jm,ai,hb⟩:=hrel;have Ho:=eu ai;have Hb:=eu hb;have cT:w.heap.size<=wr.heap.size:=hb.size;by_cases aj:k<nA.length
  .obtain⟨t,ht⟩:∃t,nA[k]?=some t:=⟨nA[k],Iv aj⟩;obtain⟨p,hp⟩:∃p,ag[k]?=some p:=⟨ag[k]'(by have:=HN.o;omega),Iv (by have:=HN.o;omega)⟩;obtain⟨xx,Lo⟩:∃x,nvs[k]?=some x:=⟨nvs[k]'(by have:=HN.o;omega),Iv (by have:=HN.o;omega)⟩;obtain⟨yy,Lp⟩:∃x,bvs[k]?=some x:=⟨bvs[k]'(by have:=HN.o;omega),Iv (by have:=HN.o;omega)⟩;have af:=KC.o wr hb;have ci:=W5 nA nvs bvs k t xx yy ht Lo Lp;have y0:=(af.cellAt (k*3) (by omega)).trans ci.1;have y1:=(af.cellAt (k*3+1) (by omega)).trans ci.2.1;have y2:=(af.cellAt (k*3+2) (by omega)).trans ci.2.2;have fX:=(af.lt g rfl).2;have zi:=ZG.o k t p ht hp;have hm:=ZO _ _ (ML zi);have oQ:(Th.text n p).length<=(Pn (Th.ends n p) (decide (k+1=nA.length)) (Th.text n p)).length:=by
    unfold Pn;split
    .simp[paren];omega
    .exact qP _
   simp only[PG,IJ,Kh,My]at hm;obtain⟨⟨xa,xn,xc,rfl⟩,⟨yt,y',rfl⟩,LG,cs,cb⟩:=CA.o k t p xx yy ht hp Lo Lp (by omega) (by omega);have ur:=eu (PH zi);obtain⟨lb,o5⟩:∃lb,decide (k+1=nA.length)=lb:=⟨_,rfl⟩;have cb:=cb lb;rw[o5]at hm ur;obtain⟨DG,Li⟩:∃J:ByteArray,J=⟨(Lib.decDigits t.1).toArray⟩:=⟨_,rfl⟩;obtain⟨SP,KO⟩:∃J:ByteArray,J=⟨(Mj t.2).toArray⟩:=⟨_,rfl⟩;obtain⟨BD,Lg⟩:∃J:ByteArray,J=⟨(Pn (Th.ends n p) lb (Th.text n p)).toArray⟩:=⟨_,rfl⟩;obtain⟨K1,oN⟩:∃J:ByteArray,J=⟨#[60]⟩++DG:=⟨_,rfl⟩;obtain⟨K2,rE⟩:∃J:ByteArray,J=K1++⟨#[62]⟩:=⟨_,rfl⟩;obtain⟨K3,zP⟩:∃J:ByteArray,J=K2++SP:=⟨_,rfl⟩;obtain⟨K4,zQ⟩:∃J:ByteArray,J=K3++⟨#[32,45,62,32]⟩:=⟨_,rfl⟩;obtain⟨K5,KX⟩:∃J:ByteArray,J=K4++BD:=⟨_,rfl⟩;have HE:Hid ((⟨(PG t (Pn (Th.ends n p) lb (Th.text n p))).toArray⟩:ByteArray)=K5):=eu (by rw[KX,zQ,zP,rE,oN,Li,KO,Lg];simp only[Q7,PG])
   have u5:K5.size=K4.size+BD.size:=by rw[KX];exact iR
   have u4:K4.size=K3.size+4:=by rw[zQ];exact iR
   have u3:K3.size=K2.size+SP.size:=by rw[zP];exact iR
   have u2:K2.size=K1.size+1:=by rw[rE];exact iR
   have u6:K5.size<=1000000:=by have h1:=qz ByteArray.size HE.o;rw[bsize]at h1;simp only[PG,IJ,Kh,My]at h1;omega
   have d1:=NJ oN;have d2:=NJ rE;have d3:=NJ zP;have d4:=NJ zQ;have d5:=NJ KX;have IT:Hid (∀W:World,Calls prog 101 #[.int .i64 (t.1:Int)] W λe w'=>e=.returned (.string DG)/\w'=W):=eu (λW=>by rw[Li];exact Tryz.strconv_Itoa_small t.1 (by omega) W);rw[<-KO]at cs;rw[<-Lg]at cb;have aA:=hb.alloc cT (.cells #[.int .i64 t.1,.slice xa xn xc,.iface yt y'] 240);have CS:=eu cs;have LJ:=eu cb;have KJ:=eu aA;have ug:=eu ((ai.alloc (.cells #[.int .i64 t.1,.slice xa xn xc,.iface yt y'] 240)).drew);have HC:=eu (gH wr [.int .i64 t.1,.slice xa xn xc,.iface yt y'] 240);have dF:(0:Int)<=(k:Int):=by omega
   have nS:(k:Int)<(nA.length:Int):=by omega
   have ll:((k:Int) == (nA.length:Int)-1)=lb:=by rw[<-o5,SV];simp;omega
   clear af ci ht hp Lo Lp zi hm cs cb Li KO Lg oN rE zP zQ KX u2 u3 u4 u5 u6 hb aA ai oQ o5;go_wp2_with fail
   go_region_held3 (λW=>W.cell? ⟨wr.heap.size,0,none⟩=some (.int .i64 t.1)/\W.cell? ⟨wr.heap.size,1,none⟩=some (.slice xa xn xc)/\W.cell? ⟨wr.heap.size,2,none⟩=some (.iface yt y')) (first|go_keep|(refine⟨?_,?_,?_⟩<;>assumption)) (first
    |(refine step_append_lies _ (by rfl) _ _ _ (by rfl) w.heap.size 9 i0 _ 1 16 underlying38 HI.o HZ.o.1 HZ.o.2.1 HZ.o.2.2 rfl (by omega) _ k (strCells (z.take k)) (by rfl) (qB.o.alloc _) ⟨w3.heap.size,0,none⟩ 1 1 [.string K5] (by rfl) (by rfl) (World.news_of_block (cs:=#[.string K5]) (t:=9) (fr:=(0,0)) (heap_alloc_new w3 _)) (by simp[Value.oneCell']) (by omega) (by unfold maxLen;omega) (by omega) (by simp;omega) (w3.heap.size+1) (by simp) ?_;intro g6 Lb w6 Kz ah aV Lm;have K9:=eu Kz;have b6:=(mw.o.alloc bP (.cells #[.string K5] 9)).grown ah (by simp;omega) (λj hj=>((qB.o.alloc (.cells #[.string K5] 9)).lt j hj).1);have KY:=eu b6;have r0:=Qt ah (Qt (IS w3 (.cells #[.string K5] 9) none) f0) (λh=>absurd (Ho.o.lt _ h.symm).2 (ID _));have r1:=Qt ah (Qt (IS w3 (.cells #[.string K5] 9) none) f1) (λh=>absurd (Ho.o.lt _ h.symm).2 (ID _));have r2:=Qt ah (Qt (IS w3 (.cells #[.string K5] 9) none) f2) (λh=>absurd (Ho.o.lt _ h.symm).2 (ID _));clear b6 Kz)
    |(go_at_call 101;refine(IT.o _).mono ?_;rintro en w1⟨rfl,rfl⟩)
    |(go_at_call 63;refine(CS.o _ ?_).mono ?_;exact KJ.o.drew;rintro en w2⟨rfl,b2⟩;have mA:=eu (ug.o.kept (Bj none b2) (PQ _));have KD:=KJ.o.drew.trans (b2.mono KJ.o.size);have gA:=eu KD;have aI:=KD.size;have bT:=HC.o.drew.below b2 (by simp);have ua:=eu bT;have e0:=bT.cell 0;have e1:=bT.cell 1;have e2:=bT.cell 2;simp at e0 e1 e2;clear b2 KD bT)
    |(go_at_call 185;refine(LJ.o _ ?_).mono ?_;exact gA.o;rintro en w3⟨rfl,b3⟩;have qB:=eu (mA.o.kept (Bj none b3) (PQ _));have Kx:=gA.o.trans (b3.mono aI);have mw:=eu Kx;have bP:=Kx.size;have xm:=ua.o.below b3 ua.o.lt;have f0:=xm.cell 0;have f1:=xm.cell 1;have f2:=xm.cell 2;simp at f0 f1 f2;clear b3 Kx xm))
   all_goals
    go_wp2
    go_roundg (nA.length-(k+1))
    case measure=>omega
    case rel=>refine⟨k+1,by go_num,by omega,qP _,?_,KY.o⟩;rw[ur.o,Xg,HE.o];exact K9.o
  .have KP:k=z.length:=by omega
   have ho:=ai;rw[show z.take k=z from by rw[KP];exact N8 (qP _)]at ho;rw[KP]at ho;have CJ:=eu (zK0 ho Lq (by omega) (by omega));clear ai hb ho KP;go_wp2_with fail;refine CJ.o.mono ?_;rintro en w2⟨rfl,b2⟩;have gA:=eu (Hb.o.trans (b2.mono cT));clear b2;go_wp2;go_ret;exact⟨rfl,gA.o⟩
theorem zLX{r:Bool}(h1:∃x k c,sv=.slice x k c)(h2:∃t x,bv=.iface t x)(hO:∀W,Below w.heap.size w W->Calls prog 111 #[.agg #[.bool r,sv,bv]] W λr w'=>r=.returned (.string R)/\Below W.heap.size W w'):
  Calls prog 64 #[.iface 178 (.agg #[.bool r,sv,bv])] w λr w'=>r=.returned (.string R)/\Below w.heap.size w w':=by
 obtain⟨x1,k1,c1,rfl⟩:=h1;obtain⟨t2,x2,rfl⟩:=h2;obtain⟨g6,g1,g2,g3,g4,g5,-⟩:=Ug;have C1:=eu hO;have Is:=eu (Mi w (.cells #[.bool r,.slice x1 k1 c1,.iface t2 x2] 178));clear hO;go_enter func64,ntmps64;go_wp2_with fail;refine(C1.o _ Is.o).mono ?_;rintro en w1⟨rfl,b1⟩;have cB:=eu (Is.o.trans (b1.mono Is.o.size));clear b1;go_wp2;go_ret;exact⟨rfl,cB.o⟩
theorem zLs(hx:RD n){cv:Value}(KE:RA=⟨(Th.text n e1).toArray⟩)(hR:R=⟨#[99,97,115,101,32]⟩++RA++⟨#[32,111,102,32]⟩++RB)(ht:Nq w)(bA:∃x k c,sv=.slice x k c)(hb:∀W,Below w.heap.size w W->Calls prog 112 #[sv] W λr w'=>r=.returned (.string RB)/\Below W.heap.size W w')(d1:qU S w n cv e1)(f1:Wf n e1)(hl:R.size<=1000000):
  Calls prog 64 #[.iface 173 (.agg #[cv,sv])] w λr w'=>r=.returned (.string R)/\Below w.heap.size w w':=by
 obtain⟨t1,x1,rfl⟩:=JQ d1;obtain⟨sx,sk,sc,rfl⟩:=bA;obtain⟨g7,g1,g2,g3,g4,g5,g6,-⟩:=Uf;obtain⟨J1,zL⟩:∃J:ByteArray,J=⟨#[99,97,115,101,32]⟩++RA:=⟨_,rfl⟩;obtain⟨J2,wR⟩:∃J,J=J1++⟨#[32,111,102,32]⟩:=⟨_,rfl⟩;have KA:R=J2++RB:=by rw[hR,wR,zL]
 have s4:R.size=J2.size+RB.size:=by rw[KA];exact iR
 have s2:J2.size=J1.size+4:=by rw[wR];exact iR
 have s1:J1.size=5+RA.size:=by rw[zL];exact iR
 have sb:RA.size=(Th.text n e1).length:=by rw[KE];exact bsize _
 have q1:=NJ zL;have q2:=NJ wR;have q4:=NJ KA;have C1:=eu hb;have C2:=eu (λ(W:World)(hW:Below w.heap.size w W)=>hx W S _ e1 (ht.below hW) (d1.gb (Bj none hW) (by simp)) f1 (by omega));rw[<-KE]at C2;have Is:=eu (Mi w (.cells #[.iface t1 x1,.slice sx sk sc] 173));have KQ:=eu (gH w [.iface t1 x1,.slice sx sk sc] 173);have CE:Hid (∀W:World,Below (w.heap.size+1) (w.alloc (.cells #[.iface t1 x1,.slice sx sk sc] 173)) W->W.cell? ⟨w.heap.size,0,none⟩=some (.iface t1 x1)/\W.cell? ⟨w.heap.size,1,none⟩=some (.slice sx sk sc)):=eu (λW hW=>⟨by simpa using(KQ.o.below hW (by omega)).cell 0,by simpa using(KQ.o.below hW (by omega)).cell 1⟩);clear d1 f1 hx hR ht zL wR KA s1 s2 s4 sb KE hl hb;go_enter func64,ntmps64;go_wp2_with fail
 go_region_held3 (λW=>W.cell? ⟨w.heap.size,0,none⟩=some (.iface t1 x1)/\W.cell? ⟨w.heap.size,1,none⟩=some (.slice sx sk sc)) (go_keep) (first
  |(go_at_call 64;refine(C2.o _ ?_).mono ?_;exact Is.o.drew;rintro en w1⟨rfl,b1⟩;have I4:Below w.heap.size w w1:=Is.o.drew.trans (b1.mono Is.o.size);have cB:=eu I4;have KI:Below (w.heap.size+1) (w.alloc (.cells #[.iface t1 x1,.slice sx sk sc] 173)) w1:=(Below.refl _ _).drew.trans (b1.mono (by simp));have oC:=eu KI;obtain⟨j0,j1⟩:=CE.o w1 KI;have aW:=I4.size;have cF:w.heap.size+1<=w1.heap.size:=(yM (Jw (World.zJw _ _).symm) b1.size);clear b1 I4 KI)
  |(go_at_call 112;refine(C1.o _ ?_).mono ?_;exact cB.o;rintro en w2⟨rfl,b2⟩;have KD:=cB.o.trans (b2.mono aW);have gA:=eu KD;have KN:=oC.o.trans (b2.mono cF);obtain⟨m0,m1⟩:=CE.o w2 KN;clear b2 KD KN))
 all_goals
  go_wp2;go_ret;exact⟨rfl,gA.o⟩
theorem zKf:∀n,RD n
 |0=>λ_ _ _ _ _ h=>h.elim
 |n+1=>by
  have ih:=zKf n;intro w S v e ht h hw hl;rcases hw with⟨hk,hn⟩|hk|⟨hk,LG,xh⟩|⟨hk,aH,b,a7,fb⟩|⟨hk,b1,b2,a7,Lc,zz⟩|⟨hk,jL,b1,b2,a7,Lc,zz⟩|⟨hk,aH,b,parts,a7,gK,Ld,fb⟩|⟨hk,aH,Ll,b,ag,a7,cV,Ld,fb⟩
  .rcases h with⟨_,rfl⟩|⟨h,_⟩|⟨h,_⟩|⟨h,_⟩|⟨h,_⟩|⟨h,_⟩|⟨h,_⟩|⟨h,_⟩
   .have e1:Th.text (n+1) e=Lib.itoa e.n:=by simp[Th.text,hk]
    rw[e1];exact zKh ht hn
   all_goals omega
  .rcases h with⟨h,_⟩|⟨_,rfl⟩|⟨h,_⟩|⟨h,_⟩|⟨h,_⟩|⟨h,_⟩|⟨h,_⟩|⟨h,_⟩
   .omega
   .have e1:Th.text (n+1) e=e.tok.s:=by simp[Th.text,hk]
    rw[e1];exact zLY
   all_goals omega
  .rcases h with⟨h,_⟩|⟨h,_⟩|⟨_,rfl⟩|⟨h,_⟩|⟨h,_⟩|⟨h,_⟩|⟨h,_⟩|⟨h,_⟩
   .omega
   .omega
   .have e1:Th.text (n+1) e=[123]++Lib.decDigits e.tag++[44]++Lib.decDigits e.arity++[125]:=by simp[Th.text,hk]
    rw[e1]at hl|-;exact zKE LG xh (by simp only[IJ,Kh,My]at hl;omega)
   all_goals omega
  .rcases h with⟨h,_⟩|⟨h,_⟩|⟨h,_⟩|⟨_,sv,bv,b',h1,rfl,h3,h4⟩|⟨h,_⟩|⟨h,_⟩|⟨h,_⟩|⟨h,_⟩
   .omega
   .omega
   .omega
   .rw[a7]at h1;cases h1;obtain⟨t,l,ev⟩:∃t l,e.names=t::l:=by
     cases hh:e.names with
     |nil=>exact absurd hh aH
     |cons t l=>exact⟨t,l,rfl⟩
    obtain⟨r,hr⟩:=zKJ t l;have hA:Mj e.names=32::(t.s++r):=by rw[ev,hr]
    have e1:Th.text (n+1) e=[92]++(t.s++r)++[46,32]++Th.text n b:=by simp[Th.text,hk,a7,hA]
    have aK:e.names.length<=1000000:=by have h1:=zIT e.names;have h2:=qz List.length e1;rw[hA]at h1;simp only[IJ,Kh,My]at h1 h2;omega
    have hR:(⟨(Th.text (n+1) e).toArray⟩:ByteArray)=⟨#[92]⟩++⟨(t.s++r).toArray⟩++⟨#[46,32]⟩++⟨(Th.text n b).toArray⟩:=by rw[e1];simp only[<-Q7]
    exact zLW ih rfl hR hA rfl ht h4 h3 aK fb (by rw[bsize];exact hl)
   all_goals omega
  .rcases h with⟨h,_⟩|⟨h,_⟩|⟨h,_⟩|⟨h,_⟩|⟨_,v1,v2,e1,e2,h1,rfl,h3,h4⟩|⟨h,_⟩|⟨h,_⟩|⟨h,_⟩
   .omega
   .omega
   .omega
   .omega
   .rw[a7]at h1;cases h1;have e1:Th.text (n+1) e=Th.within b1 4 (Th.text n b1)++[32]++Th.within b2 5 (Th.text n b2):=by simp[Th.text,hk,a7]
    have hR:(⟨(Th.text (n+1) e).toArray⟩:ByteArray)=⟨(Th.within b1 4 (Th.text n b1)).toArray⟩++⟨#[32]⟩++⟨(Th.within b2 5 (Th.text n b2)).toArray⟩:=by rw[e1];simp only[<-Q7]
    have L4:(Th.within b1 4 (Th.text n b1)).length+(Th.within b2 5 (Th.text n b2)).length<=999999:=by rw[e1]at hl;simp only[IJ,Kh,My]at hl;omega
    exact zLr ih hR rfl rfl ht h3 h4 Lc zz L4
   all_goals omega
  .rcases h with⟨h,_⟩|⟨h,_⟩|⟨h,_⟩|⟨h,_⟩|⟨h,_⟩|⟨_,v1,v2,e1,e2,h1,rfl,h3,h4⟩|⟨h,_⟩|⟨h,_⟩
   .omega
   .omega
   .omega
   .omega
   .omega
   .rw[a7]at h1;cases h1;have e1:Th.text (n+1) e=Th.within b1 (max (level e) 2) (Th.text n b1)++[32]++e.tok.s++[32]++Th.within b2 (level e+1) (Th.text n b2):=by simp[Th.text,hk,a7]
    have As:level e=if e.tok.s=[42]\/e.tok.s=[47]then 3 else if e.tok.s=[43]\/e.tok.s=[45]then 2 else 1:=by rw[level,qj,nB hk]
    have hT:=λW=>zIG jL (JQ h3) (JQ h4) W
    rw[<-As]at hT;have hR:(⟨(Th.text (n+1) e).toArray⟩:ByteArray)=⟨(Th.within b1 (max (level e) 2) (Th.text n b1)).toArray⟩++⟨#[32]⟩++⟨e.tok.s.toArray⟩++⟨#[32]⟩++⟨(Th.within b2 (level e+1) (Th.text n b2)).toArray⟩:=by rw[e1];simp only[<-Q7]
    have Ln:level e=1\/level e=2\/level e=3:=by rw[As];split<;>(try split)<;>simp
    have LF:(⟨(Th.text (n+1) e).toArray⟩:ByteArray).size<=1000000:=by rw[bsize];exact hl
    clear e1 As;generalize level e=L at hT hR Ln;refine zMu (JQ h3) (JQ h4) (λW hW=>?_);exact We ih (by omega) rfl rfl hR rfl rfl (ht.below hW) hT (h3.gb (Bj none hW) (by simp)) (h4.gb (Bj none hW) (by simp)) Lc zz LF
   all_goals omega
  .rcases h with⟨h,_⟩|⟨h,_⟩|⟨h,_⟩|⟨h,_⟩|⟨h,_⟩|⟨h,_⟩|⟨_,sv,bv,b',Ls,pvs,h1,rfl,h3,h4,h5,h6,h7⟩|⟨h,_⟩
   .omega
   .omega
   .omega
   .omega
   .omega
   .omega
   .rw[a7]at h1;cases h1;have KB:=zJa (MS (Th.text n) e.names parts);rw[ZR _ _ _ gK]at KB;have e1:Th.text (n+1) e=(if(e.kind == 8)=true then[108,101,116,32,114,101,99,32]else[108,101,116,32])++MC (MS (Th.text n) e.names parts)++[32,105,110,32]++Th.text n b:=by
     rcases hk with hk|hk<;>simp[Th.text,hk,a7]
    have hlen:=qz List.length e1;simp only[IJ,Kh,My]at hlen;have hR:(⟨(Th.text (n+1) e).toArray⟩:ByteArray)=⟨(if(e.kind == 8)=true then[108,101,116,32,114,101,99,32]else[108,101,116,32]).toArray⟩++⟨(MC (MS (Th.text n) e.names parts)).toArray⟩++⟨#[32,105,110,32]⟩++⟨(Th.text n b).toArray⟩:=by rw[e1];simp only[<-Q7]
    exact zLX (Jk h5) (JQ h7) (λW hW=>zMv ih (ht.below hW) gK h4 (h5.gb (Bj none hW) (by simp)) (λi pv p a c=>(h6 i pv p a c).gb (Bj none hW) (by simp)) (h7.gb (Bj none hW) (by simp)) aH (by omega) Ld fb rfl rfl rfl hR (by rw[bsize];exact hl))
   .omega
  .rcases h with⟨h,_⟩|⟨h,_⟩|⟨h,_⟩|⟨h,_⟩|⟨h,_⟩|⟨h,_⟩|⟨h,_⟩|⟨_,cv,sv,b',KV,nvs,bvs,h1,rfl,h3,h4,h5,h6,h7,h8,h9⟩
   .omega
   .omega
   .omega
   .omega
   .omega
   .omega
   .omega
   .rw[a7]at h1;cases h1;have KB:=zJa (MT (Th.text n) (Th.ends n) e.nA ag);rw[ZM _ _ _ _ cV]at KB;have e1:Th.text (n+1) e=[99,97,115,101,32]++Th.text n b++[32,111,102,32]++MC (MT (Th.text n) (Th.ends n) e.nA ag):=by
     simp[Th.text,hk,a7]
    have hlen:=qz List.length e1;simp only[IJ,Kh,My]at hlen;have bu:∀x∈e.nA,x.2.length<=1000000:=by intro x hx;obtain⟨i,hi⟩:=List.mem_iff_getElem?.1 hx;have br:i<e.nA.length:=(Dq.1 hi).1;have hg:=ZL (Th.text n) (Th.ends n) e.nA ag i x _ hi (Iv (by omega));have hm:=ZO _ _ (ML hg);have hs:=zIT x.2;simp only[PG,IJ]at hm;omega
    have hR:(⟨(Th.text (n+1) e).toArray⟩:ByteArray)=⟨#[99,97,115,101,32]⟩++⟨(Th.text n b).toArray⟩++⟨#[32,111,102,32]⟩++⟨(MC (MT (Th.text n) (Th.ends n) e.nA ag)).toArray⟩:=by rw[e1];simp only[<-Q7]
    exact zLs ih rfl hR ht (Jk h6) (λW hW=>zLT ih (ht.below hW) cV h4 h5 (h6.gb (Bj none hW) (by simp)) (λi a x p q=>(h7 i a x p q).gb (Bj none hW) (by simp)) (λi x p a b=>(h8 i x p a b).gb (Bj none hW) (by simp)) aH (by omega) bu Ld Ll (by omega)) h9 fb (by rw[bsize];exact hl)
end Go.Proofs.YtgahgkddaljmkaaGreatDoor
namespace Go.Proofs
open Go.Shelf Go.RowKit
def Tryz.writeS_ren:Go.Shelf.Ren:=⟨fun|166=>62|240=>108|276=>181|n=>n,fun|70=>117|72=>120|37=>118|75=>122|80=>127|164=>308|20=>20|9=>9|5=>5|4=>4|3=>3|0=>0|n=>n,fun|n=>n⟩
theorem Tryz.writeS:Go.Proofs.Lays.n166 prog Tryz.writeS_ren:={
 mixed:=by kernel_rfl
 f166:=func62.trans (congrArg some (by kernel_rfl))
 f240:=func108.trans (congrArg some (by kernel_rfl))
 f276:=func181.trans (congrArg some (by kernel_rfl))
 t0:=underlying0
 a0:=isAgg0
 z0:=sizeOf0
 v0:=zeroValue0
 t3:=underlying3
 a3:=isAgg3
 z3:=sizeOf3
 v3:=zeroValue3
 t4:=underlying4
 a4:=isAgg4
 z4:=sizeOf4
 v4:=zeroValue4
 t9:=underlying9
 a9:=isAgg9
 z9:=sizeOf9
 v9:=zeroValue9
 t20:=underlying20
 a20:=isAgg20
 z20:=sizeOf20
 v20:=zeroValue20
 t37:=underlying118
 a37:=isAgg118
 z37:=sizeOf118
 v37:=zeroValue118
 t70:=underlying117
 a70:=isAgg117
 z70:=sizeOf117
 v70:=zeroValue117
 t72:=underlying120
 a72:=isAgg120
 z72:=sizeOf120
 v72:=zeroValue120
 t75:=underlying122
 a75:=isAgg122
 z75:=sizeOf122
 v75:=zeroValue122
 t164:=underlying308
 a164:=isAgg308
 z164:=sizeOf308
 v164:=zeroValue308
 }
theorem Tryz.writeX:Builder.Extra prog Tryz.writeS_ren:={
 sizeBuilder:=by kernel_rfl
 liesBuilder:=by kernel_rfl
 t5:=underlying5
 a5:=isAgg5
 z5:=sizeOf5
 v5:=zeroValue5
 infoByte:=by kernel_rfl
 cellsByte:=by kernel_rfl
 sizeByte:=by kernel_rfl
 neB5:=by decide }
theorem Tryz.writeString(B b:Nat)(bs:List Value)(s:ByteArray)(w:World)(h:Lib.IsBuilder 120 5 B b bs w)(hlen:bs.length+s.size<=140737488355328)(Lh:B<=w.heap.size):
  Calls prog 62 #[.pointer (some ⟨b,0,none⟩),.string s] w λe w'=>e=.returned (.tuple #[.int .i64 s.size,.nilIface])/\(Lib.BuilderAt 120 5 B b (.pointer (some ⟨b,0,none⟩)) (bs++Lib.strCells s) w'/\Below B w w'):=
 Any.Builder_WriteString Tryz.writeS Tryz.writeX B b bs s w h hlen Lh
theorem Tryz.writeStringK(B b:Nat)(bs:List Value)(s:ByteArray)(w:World)(h:Lib.IsBuilderF 120 5 B b bs w)(hlen:bs.length+s.size<=140737488355328)(Lh:B<=w.heap.size):
  Calls prog 62 #[.pointer (some ⟨b,0,none⟩),.string s] w λe w'=>e=.returned (.tuple #[.int .i64 s.size,.nilIface])/\(Lib.BuilderAtF 120 5 B b (.pointer (some ⟨b,0,none⟩)) (bs++Lib.strCells s) w'/\Below B w w'/\Lib.OthersKept 5 (some b) w w'):=
 Any.Builder_WriteString_k Tryz.writeS Tryz.writeX B b bs s w h hlen Lh
end Go.Proofs
namespace Go.Proofs.YtgahgkddaljmkaaGreatDoor
open Tryz Th Cp
open Go.RowKit
attribute [local go_sem ↓] Go.wp_at_zero Go.wp_at_succ
variable {w:World}
theorem zLH{T e:TypeId}{B b:Nat}{bs:List Value}{w':World}(h:Lib.IsBuilderF T e B b bs w)(hg:w.grownBy w' none):Lib.IsBuilderF T e B b bs w':=by
 rcases h with⟨h1,v,h2,h3,h4⟩|⟨h1,v,h2,h3,h4⟩
 .exact .inl ⟨h1,v,by rw[hg.block b (Nz.1 h2).1 (by simp)];exact h2,h3.kept hg (PQ _),h4⟩
 .exact .inr ⟨h1,v,by rw[hg.block b (Nz.1 h2).1 (by simp)];exact h2,h3.kept hg (PQ _),h4⟩
theorem zNc{T e:TypeId}{B b:Nat}{bs:List Value}(h:Lib.IsBuilderF T e B b bs w):b<w.heap.size:=by rcases h with⟨_,v,h2,_⟩|⟨_,v,h2,_⟩<;>exact(Nz.1 h2).1
variable {l:List By}{S:Nat->Prop}{M:Nat}
theorem zKi{pv:Value}(ht:Nq w)(hr:UO S w pv l)(hw:∀x∈l,Wf M x.e)(dY:∀k,M<=k->Md k l=Md M l)(lp:l.length<=1000000)(KH:∀x∈l,x.params.length<=1000000)(hl:(Md M l).length<=1000000):
  Calls prog 40 #[pv] w λe w'=>e=.returned (.string ⟨(Md M l).toArray⟩)/\Below w.heap.size w w':=by
 obtain⟨nvs,bvs,m,cR,eY,af,jY⟩:=hr;have pK:=eu (dY (M+m) (by omega));have LF:(Md (M+m) l).length<=1000000:=by rw[pK.o];exact hl
 have gV:=Mq af;have KC:=eu (λ(W:World)(hW:Below w.heap.size w W)=>af.1.kept (Bj none hW) (PQ _));have HN:=eu (kK cR eY);have La:Hid (∀(j:Nat)(y:By)(nv bv:Value),l[j]?=some y->nvs[j]?=some nv->bvs[j]?=some bv->(Mj y.params).length<=1000000->(Th.text (M+m) y.e).length<=1000000->(∃xa xk xc,nv=.slice xa xk xc)/\(∃t x,bv=.iface t x) /\
   (∀W:World,Below w.heap.size w W->Calls prog 63 #[nv] W λe w'=>e=.returned (.string ⟨(Mj y.params).toArray⟩)/\Below W.heap.size W w') /\
   (∀W:World,Below w.heap.size w W->Calls prog 64 #[bv] W λe w'=>e=.returned (.string ⟨(Th.text (M+m) y.e).toArray⟩)/\Below W.heap.size W w')):=eu (by
  intro j y nv bv h1 h2 h3 h4 h5;obtain⟨r1,r2⟩:=jY j y nv bv h1 h2 h3;have hm:=ML h1;exact⟨Jk r1,JQ r2,λW hW=>ZP (r1.gb (Bj none hW) (by simp)) (KH y hm) h4,λW hW=>zKf (M+m) W _ bv y.e (ht.below hW) ((r2.le (by omega)).gb (Bj none hW) (by simp)) ((hw y hm).le (by omega)) h5⟩)
 clear af jY cR eY dY hw KH ht;have HF:=eu (Lib.IsBuilderF.of (Lib.fresh_isBuilder 120 5 w));have Is:=eu (Mi w (.cells #[.pointer none,.slice none 0 0] 120));rcases gV with rfl|⟨g,cap,rfl⟩
 .have da:l=[]:=by
   rcases(KC.o w (Below.refl _ _)).2 with⟨_,h0⟩|⟨_,_,_,h0,_⟩
   .exact Pl.1 h0
   .cases h0
  have CS:=eu (Tryz.Builder_String_any_f w.heap.size w.heap.size [] _ HF.o Is.o.size);go_enter func40,ntmps40;go_wp2_with fail;refine oI 1 ?_;rw[nE];go_wp2_with fail;refine CS.o.mono ?_;rintro e w2⟨rfl,_,b2⟩;have gA:=eu (Is.o.trans (b2.mono (qP _)));clear b2;go_wp2;go_ret;exact⟨by rw[da];rfl,gA.o⟩
 .go_enter func40,ntmps40;go_wp2_with fail
  go_loopg [8] l.length (λgk iv wr=>∃i:Nat,iv=.int .i64 i/\i<=l.length/\l.length-i<=gk/\Lib.IsBuilderF 120 5 w.heap.size w.heap.size (Lib.byteCells (Md (M+m) (l.take i))) wr/\Below w.heap.size w wr)
  case atStart=>exact⟨0,rfl,Kc _,by omega,HF.o,Is.o⟩
  case round=>
   obtain⟨i,rfl,hi,jm,cV,hb⟩:=hrel;have HB:=eu hb;have L7:=eu cV;have gG:=zNc cV;have LH:=hb.size;have af:=KC.o wr hb;by_cases aj:i<l.length
   .obtain⟨y,hy⟩:∃y,l[i]?=some y:=⟨l[i],Iv aj⟩;obtain⟨nv,ay⟩:∃x,nvs[i]?=some x:=⟨nvs[i]'(by have:=HN.o;omega),Iv (by have:=HN.o;omega)⟩;obtain⟨bv,cC⟩:∃x,bvs[i]?=some x:=⟨bvs[i]'(by have:=HN.o;omega),Iv (by have:=HN.o;omega)⟩;have hc:=Vj l nvs bvs i y nv bv hy ay cC;have y0:=(af.cellAt (i*4) (by omega)).trans hc.1;have y1:=(af.cellAt (i*4+1) (by omega)).trans hc.2.1;have y2:=(af.cellAt (i*4+2) (by omega)).trans hc.2.2.1;have y3:=(af.cellAt (i*4+3) (by omega)).trans hc.2.2.2;have fX:=(af.lt g rfl).2;have HS:=eu (zJR (n:=M+m) hy);have LM:=HS;have hle:=zKF (M+m) l (i+1);rw[HS.o]at hle;simp only[Pa,IJ,Kh,My]at hle;obtain⟨⟨xa,xk,xc,rfl⟩,⟨yt,yx,rfl⟩,cl,ctx⟩:=La.o i y nv bv hy ay cC (by omega) (by omega);have dt:(0:Int)<=(i:Int):=by omega
    have br:(i:Int)<(l.length:Int):=by omega
    obtain⟨TS,KK⟩:∃J:ByteArray,J=⟨y.name.s.toArray⟩:=⟨_,rfl⟩;obtain⟨SP,KO⟩:∃J:ByteArray,J=⟨(Mj y.params).toArray⟩:=⟨_,rfl⟩;obtain⟨TX,KM⟩:∃J:ByteArray,J=⟨(Th.text (M+m) y.e).toArray⟩:=⟨_,rfl⟩;obtain⟨J2,wR⟩:∃J,J=TS++SP:=⟨_,rfl⟩;obtain⟨J3,gP⟩:∃J,J=J2++⟨#[32,61,32]⟩:=⟨_,rfl⟩;obtain⟨J4,KA⟩:∃J,J=J3++TX:=⟨_,rfl⟩;obtain⟨J5,KW⟩:∃J,J=J4++⟨#[59,10]⟩:=⟨_,rfl⟩;have HE:Hid (J5=⟨(Pa (M+m) y).toArray⟩):=eu (by rw[KW,KA,gP,wR,KM,KO,KK];simp only[Q7,Pa])
    have s2:J2.size=TS.size+SP.size:=by rw[wR];exact iR
    have s3:J3.size=J2.size+3:=by rw[gP];exact iR
    have s4:J4.size=J3.size+TX.size:=by rw[KA];exact iR
    have s5:J5.size=J4.size+2:=by rw[KW];exact iR
    have L9:J5.size<=1000000:=by have:=qz ByteArray.size HE.o;rw[this,bsize];simp only[Pa,IJ,Kh,My];omega
    have q2:=NJ wR;have q3:=NJ gP;have q4:=NJ KA;have q5:=NJ KW;have Mb:(Md (M+m) (l.take i)).length<=1000000:=by omega
    rw[<-KK]at y0;rw[<-KO]at cl;rw[<-KM]at ctx;have CL:=eu cl;have CT:=eu ctx;have aA:=hb.alloc LH (.cells #[.string TS,.int .i64 y.name.at_,.slice xa xk xc,.iface yt yx] 93);have KJ:=eu aA;have aW:=aA.size;have KZ:=eu (zLH cV (IS wr (.cells #[.string TS,.int .i64 y.name.at_,.slice xa xk xc,.iface yt yx] 93) none));have HC:=eu (gH wr [.string TS,.int .i64 y.name.at_,.slice xa xk xc,.iface yt yx] 93);clear af hy ay cC hc cl ctx hb HS hle KK KO KM wR gP KA KW s2 s3 s4 s5 aA cV;go_wp2_with fail
    go_region_held3 (λW=>W.cell? ⟨wr.heap.size,0,none⟩=some (.string TS)/\W.cell? ⟨wr.heap.size,2,none⟩=some (.slice xa xk xc)/\W.cell? ⟨wr.heap.size,3,none⟩=some (.iface yt yx)) (go_keep) (first
     |(go_at_call 63;refine(CL.o _ ?_).mono ?_;exact KJ.o.drew;rintro e3 w3⟨rfl,b3⟩;have Kx:=KJ.o.drew.trans (b3.mono aW);have mw:=eu Kx;have K6:=eu (zLH KZ.o (qN (Po _ none) (Bj none b3)));have xm:=HC.o.drew.below b3 (by simp);have Lv:=eu xm;have LP:=xm.cell 0;have LQ:=xm.cell 2;have LR:=xm.cell 3;simp at LP LQ LR;have bP:=Kx.size;clear b3 Kx xm)
     |(go_at_call 64;refine(CT.o _ ?_).mono ?_;exact mw.o;rintro e4 w4⟨rfl,b4⟩;have KF:=mw.o.trans (b4.mono bP);have gB:=eu KF;have K7:=eu (zLH K6.o (Bj none b4));have jj:=Lv.o.below b4 Lv.o.lt;have yP:=eu jj;have a40:=jj.cell 0;have LU:=jj.cell 2;have LV:=jj.cell 3;simp at a40 LU LV;have bV:=KF.size;clear b4 KF jj)
     |(go_at_call 62;refine(Tryz.writeStringK w.heap.size w.heap.size _ _ _ K7.o ?_ bV).mono ?_;(rw[Lib.byteCells_length];omega);rintro e5 w5⟨rfl,Lz,b5,LI⟩;have K8:=eu Lz;have kx:=eu (gB.o.trans b5);have jD:=LI _ _ yP.o (by intro h;injection h with h;omega) (λc fz h=>by injection h with _ h2 _;exact absurd h2 (by decide));have LW:=al (w:=w5) (b:=wr.heap.size) (vs:=[.string TS,.int .i64 y.name.at_,.slice xa xk xc,.iface yt yx]) (t:=93) jD 0;have LX:=al (w:=w5) (b:=wr.heap.size) (vs:=[.string TS,.int .i64 y.name.at_,.slice xa xk xc,.iface yt yx]) (t:=93) jD 2;have a53:=al (w:=w5) (b:=wr.heap.size) (vs:=[.string TS,.int .i64 y.name.at_,.slice xa xk xc,.iface yt yx]) (t:=93) jD 3;simp at LW LX a53;clear b5 Lz LI jD))
    all_goals
     go_wp2
     go_roundg (l.length-(i+1))
     case measure=>omega
     case rel=>refine⟨i+1,by go_num,by omega,qP _,?_,kx.o⟩;have hx:=K8.o;rw[HE.o,Lib.strCells_toArray,<-Lib.byteCells_append,<-LM.o]at hx;exact .inr hx
   .have br:i=l.length:=by omega
    have HE:Hid (Md (M+m) (l.take i)=Md M l):=eu (by rw[br,N8 (qP _)];exact pK.o);rw[HE.o]at cV;have CS:=eu (Tryz.Builder_String_any_f w.heap.size w.heap.size _ wr cV LH);clear hb br af cV;go_wp2_with fail;refine CS.o.mono ?_;rintro e w2⟨rfl,_,b2⟩;have gA:=eu (HB.o.trans b2);clear b2;go_wp2;go_ret;exact⟨rfl,gA.o⟩
end Go.Proofs.YtgahgkddaljmkaaGreatDoor
namespace Go.Proofs.YtgahgkddaljmkaaGreatDoor
open Tryz Th Cp
open Go.RowKit
namespace Th
end Th
end Go.Proofs.YtgahgkddaljmkaaGreatDoor
namespace Go.Proofs.YtgahgkddaljmkaaGreatDoor
open Tryz Th Cp
open Go.RowKit
variable {s:ByteArray}
theorem zL2(h:600<s.size)(w:World):
  Calls prog 30 #[.string s] w λe w'=>e=.returned (.string ⟨#[]⟩)/\Below w.heap.size w w':=by
 go_enter func30,ntmps30;go_wp2_with fail;refine(zob h w).mono ?_;rintro e w1⟨rfl,rfl⟩;go_wp2;go_ret;exact⟨rfl,Below.refl _ _⟩
variable {q:List By × St}{N:Nat}
theorem zM5(hs:s.size<=600)(hp:Plain s q N)(h0:(answer s.size q N).1≠0)(w:World):
  Calls prog 30 #[.string s] w λe w'=>e=.returned (.string ⟨#[]⟩)/\Below w.heap.size w w':=by
 have dn:=eu (Y0 hs hp w);clear hp hs;obtain⟨a,ha⟩:∃a,answer s.size q N=a:=⟨_,rfl⟩;unfold YV at dn;rw[ha]at dn h0;obtain⟨a1,a2⟩:=a;have aH:((a1:Int) == 0)=false:=by rw[kJ];simp only at h0;omega
 clear ha h0;go_enter func30,ntmps30;go_wp2_with fail;refine dn.o.mono ?_;rintro e w1⟨hb,pv,rfl,⟨a,k,c,rfl⟩,_⟩;have Hb:=eu hb;clear hb dn;go_wp2;go_ret;exact⟨rfl,Hb.o⟩
variable {M:Nat}
theorem zLc(hs:s.size<=600)(hp:Plain s q N)(h0:(answer s.size q N).1=0)(hw:∀x∈q.1,Wf M x.e)(dY:∀k,M<=k->Md k q.1=Md M q.1)(lp:q.1.length<=1000000)(KH:∀x∈q.1,x.params.length<=1000000)(hl:(Md M q.1).length<=1000000)(w:World)(ht:Nq w):
  Calls prog 30 #[.string s] w λe w'=>e=.returned (.string ⟨(Md M q.1).toArray⟩)/\Below w.heap.size w w':=by
 have dn:=eu (Y0 hs hp w);clear hp hs;have CP:=eu (λ(w1:World)(pv:Value)(hb:Below w.heap.size w w1)(hr:UO (IB w) w1 pv q.1)=>zKi (ht.below hb) hr hw dY lp KH hl);clear hw dY lp KH ht hl;obtain⟨a,ha⟩:∃a,answer s.size q N=a:=⟨_,rfl⟩;unfold YV at dn;rw[ha]at dn h0;obtain⟨a1,a2⟩:=a;simp only at h0;subst h0;clear ha;go_enter func30,ntmps30;go_wp2_with fail;refine dn.o.mono ?_;rintro e w1⟨hb,pv,rfl,⟨a,k,c,rfl⟩,aR⟩;have CX:=eu (CP.o w1 _ hb (aR trivial));have Hb:=eu hb;clear hb dn CP aR;go_wp2_with fail;refine CX.o.mono ?_;rintro e w2⟨rfl,b2⟩;have gA:=eu (Hb.o.trans (b2.mono Hb.o.size));clear b2;go_wp2;go_ret;exact⟨rfl,gA.o⟩
theorem zLL{T:List Tok}(h:Good T):TK ⟨T,none⟩:=by intro t ht hk;obtain⟨h1,h2⟩:=h.num t ht hk;have h3:=Zp t.s 0 h2;have h4:10 ^ t.s.length<=10 ^ 9:=Zr (by decide) h1;show t.s.foldl (λa c=>10*a+(c.toNat-48)) 0<=999999999;omega
variable {n:Nat}
theorem zJ3(h:(answer n q N).1=0):q.2.bad=none:=by
 unfold answer at h;cases hb:q.2.bad with
 |none=>rfl
 |some p=>rw[hb]at h;simp at h
end Go.Proofs.YtgahgkddaljmkaaGreatDoor
namespace Go.Proofs.YtgahgkddaljmkaaGreatDoor
open Tryz Th Cp
open Go.RowKit
namespace Th
theorem zMK{c:UInt8}{r:List UInt8}(h:c::r∈MM):isLet c=false/\Mg c=false:=by simp only[MM,Mz,List.cons.injEq,PV,qT]at h;rcases h with h|h|h|h|h|h<;>rw[h.1]<;>exact⟨by decide,by decide⟩
theorem zMj{u:List UInt8}(hu:u.length<=600):((first u).1=2->Word (first u).2)/\((first u).2∈MM->(first u).1=4):=by
 cases u with
 |nil=>exact⟨λh=>by simp[first]at h,λh=>by simp[first,MM]at h⟩
 |cons c r=>
  have e:first (c::r)=if isLet c then word ((c::r).takeWhile MY)else if Mg c then Pj ((c::r).takeWhile Mg)else if Ow (c::r)=0 then(1,[])else(4,(c::r).take (Ow (c::r))):=rfl
  rw[e];split
  .next hl=>
   have hw:(c::r).takeWhile MY=c::r.takeWhile MY:=Ik (by unfold MY;rw[hl];rfl);have ha:∀x∈(c::r).takeWhile MY,MY x=true:=λx hx=>List.all_eq_true.1 IE x hx
   unfold word;split
   .exact⟨λh=>by simp at h,λ_=>rfl⟩
   .next hk=>exact⟨λ_=>⟨c,_,hw,hl,ha,by simpa using hk,yM (U4 _).length_le hu⟩,λh=>by rw[hw]at h;rw[(zMK h).1]at hl;cases hl⟩
  .split
   .next hl=>
    have hw:(c::r).takeWhile Mg=c::r.takeWhile Mg:=Ik hl;unfold Pj;split
    .exact⟨λh=>by simp at h,λh=>by simp[MM]at h⟩
    .exact⟨λh=>by simp at h,λh=>by rw[hw]at h;rw[(zMK h).2]at hl;cases hl⟩
   .split
    .exact⟨λh=>by simp at h,λh=>by simp[MM]at h⟩
    .exact⟨λh=>by simp at h,λ_=>rfl⟩
theorem zL5:∀(n:Nat)(u:List UInt8)(p:Nat),u.length<=600->∀t∈ME n u p,(t.k=2->Word t.s)/\(t.s∈MM->t.k=4)
 |0,_,_,_,t,h=>by rw[NA.1 h];exact⟨λh=>by simp at h,λh=>by simp[MM]at h⟩
 |n+1,u,p,hu,t,h=>by
  rw[ME]at h;rcases Mz.1 h with rfl|h
  .exact zMj (by rw[Oo];omega)
  .split at h
   .simp at h
   .exact zL5 n _ _ (by rw[Oo,Oo];omega) t h
end Th
variable {s:ByteArray}{q:List By × St}{N:Nat}
theorem zMq(hs:s.size<=600)(hp:Plain s q N)(hb:q.2.bad=none):∀x∈q.1,Tf x:=by obtain⟨n,k,_,_,hq⟩:=hp.lines;have T:=zL5 (s.size+1) s.data.toList 0 (by rw[SX];exact hs);exact zKa k [] _ q hq (λt ht=>⟨(T t ht).1,zLL hp.Kt t ht,(T t ht).2⟩) (λ_=>by simp) hb
theorem zLP{g:By->Nat}(hg:∀x,1<=g x):∀l:List By,l.length<=(l.map g).sum
 |[]=>qP _
 |x::l=>by have:=zLP hg l;have:=hg x;simp;omega
theorem zLd(hs:s.size<=600)(hp:Plain s q N)(h0:(answer s.size q N).1=0):
  (∀x∈q.1,Tf x)/\(∀x∈q.1,Wf 1300 x.e)/\(∀k,1300<=k->Md k q.1=Md 1300 q.1)/\q.1.length<=1000000/\(∀x∈q.1,x.params.length<=1000000)/\(Md 1300 q.1).length<=1000000:=by
 have hk:=zMq hs hp (zJ3 h0);have ho:=YY hs hp h0;have hw:∀x∈q.1,Wf 1300 x.e:=λx hx=>Rz 1300 _ (hk x hx).2.2 (ho.dp x hx)
 have h1:=zL0 1300 q.1 λx hx=>⟨hk x hx,hw x hx⟩
 have h2:=ho.sum;have h3:=zLP (g:=λf=>Cp.wt 1300 f.e+f.params.length+1) (λ_=>by omega) q.1;exact⟨hk,hw,λk hk=>zIo hw k hk,by omega,λx hx=>by have:=ho.each hx;omega,by omega⟩
def Tc (s:ByteArray) (c p:Int):Prop:=∀w:World,Calls prog 28 #[.string s] w λe w'=>e=.returned (.tuple #[.int .i64 c,.int .i64 p])/\Below w.heap.size w w'
def Um (s t:ByteArray):Prop:=∀w:World,Nq w->Calls prog 30 #[.string s] w λe w'=>e=.returned (.string t)/\Below w.heap.size w w'
variable {l:List By}
theorem zNj{l':List By}(h:l'.map Th.zN=l.map Th.zN)(heap fuel:Int):Sj l' heap fuel=Sj l heap fuel:=by
 have h1:Cp.program 1300 l'=Cp.program 1300 l:=by rw[<-zKq 1300 l,<-h,zKq]
 have h2:l'.length=l.length:=by simpa using qz List.length h
 have h3:JE l'=JE l:=by rw[<-ZS l,<-h,ZS]
 unfold Sj;rw[h1,h2,h3]
variable {n:Nat}
theorem zMw(h:l≠[]):Md n l≠[]:=by
 cases l with
 |nil=>exact absurd rfl h
 |cons x l=>rw[zJt];simp[Pa]
theorem zKG(s:ByteArray):(∃c p,c≠0/\Tc s c p/\Um s ⟨#[]⟩) \/
  ∃(p:Int)(t:ByteArray),Tc s 0 p/\Um s t/\t.size<=1000000/\(t.size<=600->t≠⟨#[]⟩/\(∃p',Tc t 0 p')/\Um t t/\∀heap fuel:Int,∃r,Qm s heap fuel r 0/\Qm t heap fuel r 0):=by
 rcases Rs 600 s.size with h|h
 .exact .inl ⟨1,0,by decide,λw=>zyb h w,λw _=>zL2 h w⟩
 .obtain⟨q,N,hp⟩:=zys s h;by_cases h0:(answer s.size q N).1=0
  .have hb:=zJ3 h0;obtain⟨hk,h1,h2,h3,h4,h5⟩:=zLd h hp h0;have C1:Tc s 0 (answer s.size q N).2:=λw=>by have:=zyk h hp w;rw[h0]at this;exact this
   refine .inr ⟨_,⟨(Md 1300 q.1).toArray⟩,C1,λw ht=>zLc h hp h0 h1 h2 h3 h4 h5 w ht,?_,λh6=>?_⟩
   .show(Md 1300 q.1).toArray.size<=_;rw[O3];exact h5
   .obtain⟨q',l1,l2,l3⟩:=zKI (λx hx=>⟨hk x hx,h1 x hx⟩) (s:=⟨(Md 1300 q.1).toArray⟩) rfl h6;obtain⟨q2,N',l4,lu⟩:=zjz ⟨(Md 1300 q.1).toArray⟩ h6;rw[l1]at l4;cases l4;have ea:(answer (ByteArray.mk (Md 1300 q.1).toArray).size q' N').1=0:=by
     rw[zsu h6 lu];rw[zsu h hp]at h0;obtain⟨l,R,b⟩:=q;obtain⟨l',R',b'⟩:=q';simp only at hb l3 l2;subst hb l3;rw[<-zLg _ _ _ _ [],l2,zLg _ _ _ R];unfold answer at h0|-;simp only at h0|-;split at h0
     .simp at h0
     .split at h0
      .next hm=>rw[nB hm]
      .simp at h0
    obtain⟨_,k1,k2,k3,k4,k5⟩:=zLd h6 lu ea;have et:Md 1300 q'.1=Md 1300 q.1:=by rw[<-zJL _ q.1,<-l2,zJL]
    refine⟨λe=>?_,⟨(answer _ q' N').2,λw=>by have:=zyk h6 lu w;rw[ea]at this;exact this⟩,λw ht=>?_,λheap fuel=>?_⟩
    .have aH:q.1≠[]:=λhn=>by
      unfold answer at h0;rw[hb,hn]at h0;simp[NM,Pp]at h0
     have e2:Md 1300 q.1=[]:=by simpa using qz (λx:ByteArray=>x.data.toList) e
     exact zMw aH e2
    .have:=zLc h6 lu ea k1 k2 k3 k4 k5 w ht;rw[et]at this;exact this
    .have ho:=YY h hp h0;obtain⟨r,hr⟩:=Sf.zjK ho (Ov heap 262144/2) (Ov fuel 4000000);refine⟨r,zjN h hp h0 hr,zjN h6 lu ea ?_⟩;rw[zNj l2];exact hr
  .exact .inl ⟨(answer s.size q N).1,(answer s.size q N).2,by omega,λw=>zyk h hp w,λw _=>zM5 h hp h0 w⟩
end Go.Proofs.YtgahgkddaljmkaaGreatDoor
