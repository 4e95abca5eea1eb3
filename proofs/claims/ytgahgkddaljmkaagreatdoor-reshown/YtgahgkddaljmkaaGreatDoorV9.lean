/- Cmp14 .. Cmp24 -/
import Derived.Test.YtgahgkddaljmkaaGreatDoorV8
import Derived.Lib.OwnBridge
set_option maxRecDepth 100000
set_option maxHeartbeats 4000000
namespace Go.Proofs.YtgahgkddaljmkaaGreatDoor
open Tryz Th Cp
section
open Go.RowKit Go.Shelf
attribute [local go_sem ↓] Go.wp_at_zero Go.wp_at_succ
variable {w:World}{g:Nat}{x:Value}{l1:List (List UInt8)}{S1:Nat->Prop}
theorem zpq(hb:oH w g [x] 38)(hx:Row S1 w 9 1 x l1.length (strCells l1))(h1:l1.length<=1000000):
  Calls prog 72 #[.slice (some ⟨g,0,none⟩) 1 1] w λe w'=>∃v,e=.returned v/\w'.ownsRow w.heap.size 9 1 v l1.length (strCells l1)/\Below w.heap.size w w':=by
 have hl:=hb.lt;have H:=eu hb;have c0:=al hb 0;simp at c0;have HX:=eu hx;have oc:=Mq hx;clear hb hx;have cX:Hid (x=.slice none 0 0->l1.length=0):=eu (λh=>by
  rcases HX.o.1.2 with⟨_,h0⟩|⟨_,_,_,h0,_⟩
  .exact h0
  .rw[h]at h0;cases h0)
 obtain⟨xa,n1,xc,rfl,cR⟩:∃xa n1 xc,x=.slice xa n1 xc/\n1=l1.length:=by
  rcases oc with h|⟨g1,c1,h⟩
  .exact⟨_,_,_,h,(cX.o h).symm⟩
  .exact⟨_,_,_,h,rfl⟩
 have xM:n1<=1000000:=by omega
 have HN:=eu cR;clear cR oc h1 cX;go_enter func72,ntmps72;go_wp2_with fail;refine oI 2 ?_;rw[nE];go_wp2_with fail;rw[nE];go_wp2_with fail;have pY:=zqx w n1;refine pY.mono ?_;clear pY;rintro e w1⟨v,rfl,ai,hb⟩;have d0:w1.cell? ⟨g,0,none⟩=some (.slice xa n1 xc):=(kI (hb.block g hl)).trans c0;have HO:Hid (w1.ownsRow w.heap.size 9 1 v ([]:List (List UInt8)).length (strCells [])):=eu ai;have kM:=HX.o.gb (Bj none hb) (by simp);have Hb:=eu hb;have cT:=hb.size;rcases Mq (lP ai)with rfl|⟨g2,fI,rfl⟩
 all_goals
  clear ai hb c0;go_wp2_with fail;refine oI 2 ?_;rw[nE];go_wp2_with (at_builtin;refine Yo rfl _ _ rfl rfl rfl HO.o kM (by simp) (by have:=HN.o;omega) (by omega) ?_;intro v2 w2 bB fL);have HG:Hid (w.grownBy w2 none):=eu (US (Bj none Hb.o) HO.o fL);rw[MQ]at bB;have mA:=eu bB;have aI:=Mq (lP bB);clear fL bB d0 kM HO;rcases aI with rfl|⟨g3,wq,rfl⟩
  all_goals
   rw[nE];go_wp2;go_ret;exact⟨_,rfl,mA.o,Pw HG.o⟩
variable {v:Value}{l:List Cp.Nm}
theorem zjI{B:Nat}{w0:World}(h:w.ownsRow B 9 1 v l.length (strCells l))(hl:l.length<=1000000)(hb:Below B w0 w):
  Calls prog 86 #[v] w λe w'=>e=.returned (.tuple #[])/\w'.ownsRow B 9 1 v l.reverse.length (strCells l.reverse)/\Below B w0 w':=by
 rcases Mq (lP h)with rfl|⟨g,cap,rfl⟩
 .refine(Tryz.slices_Reverse_string_empty none 0 w).mono ?_;rintro e w'⟨rfl,rfl⟩;have h0:l=[]:=by
   rcases h.2 with⟨_,h0⟩|⟨_,_,_,h0,_⟩
   .exact Pl.1 h0
   .cases h0
  subst h0;exact⟨rfl,h,hb⟩
 .have h':w.ownsRow B 9 1 (.slice (some ⟨g,0,none⟩) l.length cap) l.length (l.map encStr):=h;obtain⟨g',dU,he,hg,aj,hn,hm,hz,hH⟩:=Go.Lib.holds_of_ownsRow h' (by simp);cases he;refine(Tryz.slices_Reverse_string g 0 cap l w hH (by omega)).mono ?_;rintro e w'⟨rfl,n,rfl⟩;refine⟨rfl,?_,Go.Lib.below_putRow hb hg⟩;have:=Go.Lib.ownsRow_putRow (q:=n) (k:=l.length) (ys:=l.reverse) h' (by simp) (qP _);rw[N8 (by simp)]at this;rw[OO];exact this
theorem zlp(hb:oH w g [x] 38)(hx:Row S1 w 9 1 x l1.length (strCells l1))(h1:l1.length<=1000000):
  Calls prog 51 #[.slice (some ⟨g,0,none⟩) 1 1] w λe w'=>∃v,e=.returned v/\Names w.heap.size w' v (l1).reverse/\Fr (λ_=>False) w w':=by
 have CC:=eu (zpq hb hx h1);clear hb hx;go_enter func51,ntmps51;go_wp2_with fail;refine CC.o.mono ?_;clear CC;rintro e w1⟨v,rfl,ai,dw⟩;obtain⟨va,vn,vc,rfl⟩:=OG ai;have CR:=eu (zjI ai h1 dw);clear ai dw;go_wp2_with fail;refine CR.o.mono ?_;clear CR;rintro e w2⟨rfl,ai,dw⟩;have HO:=eu ai;have HB:=eu dw;clear ai dw;go_wp2;go_ret;exact⟨_,rfl,lP HO.o,oq HB.o⟩
theorem WV{y:Value}{l2:List (List UInt8)}{S2:Nat->Prop}(hb:oH w g [x,y] 38)(hx:Row S1 w 9 1 x l1.length (strCells l1))(hy:Row S2 w 9 1 y l2.length (strCells l2))(h1:l1.length+l2.length<=1000000):
  Calls prog 51 #[.slice (some ⟨g,0,none⟩) 2 2] w λe w'=>∃v,e=.returned v/\Names w.heap.size w' v (l1++l2).reverse/\Fr (λ_=>False) w w':=by
 have CC:=eu (zlj hb hx hy (by omega) (by omega));clear hb hx hy;go_enter func51,ntmps51;go_wp2_with fail;refine CC.o.mono ?_;clear CC;rintro e w1⟨v,rfl,ai,dw⟩;obtain⟨va,vn,vc,rfl⟩:=OG ai;have CR:=eu (zjI ai (by rw[IJ];exact h1) dw);clear ai dw;go_wp2_with fail;refine CR.o.mono ?_;clear CR;rintro e w2⟨rfl,ai,dw⟩;have HO:=eu ai;have HB:=eu dw;clear ai dw;go_wp2;go_ret;exact⟨_,rfl,lP HO.o,oq HB.o⟩
end
section
open Go.RowKit
theorem qU.Ku{Z Z' K:Nat->Prop}{w w':World}{n:Nat}{v:Value}{e:Ex}(h:qU Z w n v e)(f:Fr K w w')(hK:∀k,k<w.heap.size->Z k->¬K k)(hZ:∀k,k<w.heap.size->Z k->Z' k):qU Z' w' n v e:=
 Jm (λ_ _ _ _ _ hR=>hR.Ku f hK hZ) n v e h
structure CS (Z:Nat->Prop) (w:World) (cb:Nat) (rv:Value) (fns:List Cp.Nm) (bl:List (Nat × List Ds)):Prop where
 OA:∃fv,oH w cb [fv,rv] 86/\Row Z w 9 1 fv fns.length (strCells fns)
 OL:∃cP,cP.length=bl.length/\w.ownsRow 0 96 2 rv bl.length (M4 bl cP)/\∀(i:Nat)(b:Nat × List Ds)(cv:Value),bl[i]?=some b->cP[i]?=some cv->QV Z w cv b.2
 Ny:∀k,Z k->k<w.heap.size
 zk:∀k,Z k->k≠cb/\rv.ownBlock≠some k
 rc:rv.ownBlock≠some cb
variable {Z:Nat->Prop}{w:World}{cb bb:Nat}{rv sv kv:Value}{fns:List Cp.Nm}{q:Bs}
theorem BS.cs(h:BS Z w cb bb rv sv kv fns q):CS Z w cb rv fns q.blocks:=
 ⟨h.OA,h.OL,h.Ny,λk hk=>⟨λe=>h.zk k hk (.inl e),λe=>h.zk k hk (.inr (.inr (.inl e)))⟩,h.rc.1⟩
variable {bl:List (Nat × List Ds)}
theorem CS.Nr(h:CS Z w cb rv fns bl):cb<w.heap.size:=by obtain⟨fv,h1,_⟩:=h.OA;exact h1.lt
theorem CS.Ns(h:CS Z w cb rv fns bl):∀k,rv.ownBlock=some k->k<w.heap.size:=by obtain⟨cP,_,h2,_⟩:=h.OL;exactλk hk=>(h2.lt k hk).2
variable {K:Nat->Prop}{w':World}
theorem CS.SS(h:CS Z w cb rv fns bl)(f:Fr K w w')(hK:∀k,Z k\/k=cb\/rv.ownBlock=some k->¬K k):CS Z w' cb rv fns bl:=by
 obtain⟨fv,bH,bT⟩:=h.OA;obtain⟨cP,dd,cg,jc⟩:=h.OL;have hz:∀k,k<w.heap.size->Z k->¬K k:=λk _ hk=>hK k (.inl hk)
 exact⟨⟨fv,gd bH f (hK cb (.inr (.inl rfl))),bT.Ku f hz (λ_ _ x=>x)⟩,⟨cP,dd,f.gb cg (λk hk=>hK k (.inr (.inr hk))),λi b cv h1 h2=>(jc i b cv h1 h2).Ku f hz (λ_ _ x=>x)⟩,λk hk=>Kl (h.Ny k hk) f.size,h.zk,h.rc⟩
theorem BS.SS{Z K:Nat->Prop}{w w':World}{cb bb:Nat}{rv sv kv:Value}{fns:List Cp.Nm}{q:Bs}(h:BS Z w cb bb rv sv kv fns q)(f:Fr K w w')(hK:∀k,Z k\/KL cb bb rv sv kv k->¬K k):BS Z w' cb bb rv sv kv fns q:=by
 have hc:=h.cs.SS f (λk hk=>hK k (by
  rcases hk with hk|hk|hk
  .exact .inl hk
  .exact .inr (.inl hk)
  .exact .inr (.inr (.inr (.inl hk)))))
 obtain⟨vs,cK,aG⟩:=h.Pz;exact⟨hc.OA,gd h.Kq f (hK bb (.inr (.inr (.inl rfl)))),hc.OL,f.gb h.Og (λk hk=>hK k (.inr (.inr (.inr (.inr (.inl hk)))))),⟨vs,f.gb cK (λk hk=>hK k (.inr (.inr (.inr (.inr (.inr hk)))))),aG.Ku f (λk _ hk=>hK k (.inl hk)) (λ_ _ x=>x)⟩,hc.Ny,h.zk,h.ne,h.rc,h.sc,h.kc,h.rs,h.rk,h.sk⟩
theorem CS.qR(h:CS Z w cb rv fns bl)(f:Fr (λ_=>False) w w'):CS Z w' cb rv fns bl:=h.SS f (by simp)
theorem CS.more{A:Nat->Prop}(h:CS Z w cb rv fns bl)(hA:∀k,A k->k<w.heap.size/\k≠cb/\rv.ownBlock≠some k):CS (λk=>Z k\/A k) w cb rv fns bl:=by
 obtain⟨fv,bH,bT⟩:=h.OA;obtain⟨cP,dd,cg,jc⟩:=h.OL;refine⟨⟨fv,bH,bT.Ku (eU (λ_=>False) _) (by simp) (λ_ _ x=>.inl x)⟩,⟨cP,dd,cg,λi b cv h1 h2=>(jc i b cv h1 h2).Ku (eU (λ_=>False) _) (by simp) (λ_ _ x=>.inl x)⟩,?_,?_,h.rc⟩
 .rintro k(hk|hk)
  .exact h.Ny k hk
  .exact(hA k hk).1
 .rintro k(hk|hk)
  .exact h.zk k hk
  .exact(hA k hk).2
theorem BS.more{Z A:Nat->Prop}{w:World}{cb bb:Nat}{rv sv kv:Value}{fns:List Cp.Nm}{q:Bs}(h:BS Z w cb bb rv sv kv fns q)(hA:∀k,A k->k<w.heap.size/\¬KL cb bb rv sv kv k):BS (λk=>Z k\/A k) w cb bb rv sv kv fns q:=by
 have hc:=h.cs.more (A:=A) (λk hk=>⟨(hA k hk).1,λe=>(hA k hk).2 (.inl e),λe=>(hA k hk).2 (.inr (.inr (.inl e)))⟩);obtain⟨vs,cK,aG⟩:=h.Pz;refine⟨hc.OA,h.Kq,hc.OL,h.Og,⟨vs,cK,aG.Ku (eU (λ_=>False) _) (by simp) (λ_ _ x=>.inl x)⟩,hc.Ny,?_,h.ne,h.rc,h.sc,h.kc,h.rs,h.rk,h.sk⟩;rintro k(hk|hk)
 .exact h.zk k hk
 .exact(hA k hk).2
variable {sl:List Cp.Nm}
theorem CS.bs(h:CS Z w cb rv fns bl)(hb:oH w bb [.pointer (some ⟨cb,0,none⟩),sv,.slice none 0 0] 159)(hs:w.ownsRow 0 9 1 sv sl.length (strCells sl))(h1:bb≠cb/\rv.ownBlock≠some bb/\¬Z bb)(h2:∀k,sv.ownBlock=some k->k≠cb/\k≠bb/\rv.ownBlock≠some k/\¬Z k):BS Z w cb bb rv sv (.slice none 0 0) fns ⟨bl,sl,[]⟩:=by
 refine⟨h.OA,hb,h.OL,hs,⟨[],kt _ _ _ _,rfl,by simp⟩,h.Ny,?_,λe=>h1.1 e.symm,⟨h.rc,h1.2.1⟩,⟨λe=>(h2 cb e).1 rfl,λe=>(h2 bb e).2.1 rfl⟩,⟨by simp[Value.ownBlock],by simp[Value.ownBlock]⟩,λk hk e=>(h2 k e).2.2.1 hk,by simp[Value.ownBlock],by simp[Value.ownBlock]⟩;rintro k hk(e|e|e|e|e)
 .exact(h.zk k hk).1 e
 .exact h1.2.2 (e▸hk)
 .exact(h.zk k hk).2 e
 .exact(h2 k e).2.2.2 hk
 .cases e
def NO (Z:Nat->Prop) (w:World) (cb:Nat) (rv:Value) (fns:List Cp.Nm) (bl:List (Nat × List Ds)) (w':World):Prop:=
 ∃Z' aO,(∀k,k<w.heap.size->(Z' k↔Z k))/\CS Z' w' cb aO fns bl/\Fr (λk=>k=cb\/rv.ownBlock=some k) w w'/\Mv w rv aO
theorem NO.V3(d:NO Z w cb rv fns bl w')(h:BS Z w cb bb rv sv kv fns q):ES Z w cb bb rv sv kv fns ⟨bl,q.kD,q.code⟩ w':=by
 obtain⟨Z',aO,e1,e2,e3,e4⟩:=d;obtain⟨vs,cK,aG⟩:=h.Pz;have hs:=h.slt;have hk:=h.Pt;have cV:=h.Kq.lt;have hm:∀k,k=cb\/rv.ownBlock=some k->KL cb bb rv sv kv k:=λk hk=>by
  rcases hk with hk|hk
  .exact .inl hk
  .exact .inr (.inr (.inl hk))
 have iJ:¬(bb=cb\/rv.ownBlock=some bb):=by
  rintro(e|e)
  .exact h.ne e.symm
  .exact h.rc.2 e
 have xR:∀k,sv.ownBlock=some k->¬(k=cb\/rv.ownBlock=some k):=by
  rintro k e1(e|e)
  .exact h.sc.1 (e▸e1)
  .exact h.rs k e e1
 have xO:∀k,kv.ownBlock=some k->¬(k=cb\/rv.ownBlock=some k):=by
  rintro k e1(e|e)
  .exact h.kc.1 (e▸e1)
  .exact h.rk k e e1
 refine⟨Z',aO,sv,kv,e1,⟨e2.OA,gd h.Kq e3 iJ,e2.OL,e3.gb h.Og xR,⟨vs,e3.gb cK xO,aG.Ku e3 ?_ (λk hk hz=>(e1 k hk).2 hz)⟩,e2.Ny,?_,h.ne,⟨e2.rc,?_⟩,h.sc,h.kc,?_,?_,h.sk⟩,e3.mono hm,e4,kq _ _,kq _ _⟩
 .exactλk _ hz he=>h.zk k hz (hm k he)
 .rintro k hz(e|e|e|e|e)
  .exact(e2.zk k hz).1 e
  .subst e;exact h.zk k ((e1 k cV).1 hz) (.inr (.inl rfl))
  .exact(e2.zk k hz).2 e
  .exact h.zk k ((e1 k (hs k e)).1 hz) (.inr (.inr (.inr (.inl e))))
  .exact h.zk k ((e1 k (hk k e)).1 hz) (.inr (.inr (.inr (.inr e))))
 .intro e;rcases e4 bb e with e|e
  .exact h.rc.2 e
  .omega
 .intro k e e';rcases e4 k e with e|e
  .exact h.rs k e e'
  .have:=hs k e';omega
 .intro k e e';rcases e4 k e with e|e
  .exact h.rk k e e'
  .have:=hk k e';omega
theorem BS.done(h:BS Z w cb bb rv sv kv fns q):CS (λk=>Z k\/kv.ownBlock=some k) w cb rv fns q.blocks/\QV (λk=>Z k\/kv.ownBlock=some k) w kv q.code:=by obtain⟨vs,cK,aG⟩:=h.Pz;refine⟨h.cs.more (A:=λk=>kv.ownBlock=some k) (λk hk=>⟨h.Pt k hk,λe=>h.kc.1 (e▸hk),λe=>h.rk k e hk⟩),vs,⟨cK,λk hk=>.inr hk⟩,aG.Ku (eU (λ_=>False) _) (by simp) (λ_ _ x=>.inl x)⟩
end
section
open Go.RowKit Go.Shelf
attribute [local go_sem ↓] Go.wp_at_zero Go.wp_at_succ
def VZ (Z:Nat->Prop) (w:World) (cb:Nat) (rv sv:Value) (fns sl:List Cp.Nm) (bl:List (Nat × List Ds)) (gf:Nat) (lb:Array Value) (q:Bs):Prop:=
 ∀W bb,Fr (λ_=>False) w W->BS Z W cb bb rv sv (.slice none 0 0) fns ⟨bl,sl,[]⟩->Calls prog gf (#[.pointer (some ⟨bb,0,none⟩)]++lb) W λe w'=>e=.returned (.tuple #[])/\ES Z W cb bb rv sv (.slice none 0 0) fns q w'
variable {Z:Nat->Prop}{w:World}{cb:Nat}{rv sv:Value}{fns sl:List Cp.Nm}{bl:List (Nat × List Ds)}{q:Bs}
theorem znu{gf:Nat}{lb:Array Value}(eg:∀args w,(callFunc gf args).run prog w=.ok (.enter gf args) w)(h:CS Z w cb rv fns bl)(hs:w.ownsRow 0 9 1 sv sl.length (strCells sl))(bA:∀k,sv.ownBlock=some k->k≠cb/\rv.ownBlock≠some k/\¬Z k)(hw:VZ Z w cb rv sv fns sl bl gf lb q):
  Calls prog 50 #[.pointer (some ⟨cb,0,none⟩),sv,.func (.func gf) #[] lb] w λe w'=>∃Z' bb aO sv' bG,e=.returned (.agg #[.int .i64 sl.length,bG])/\(∀k,k<w.heap.size->(Z' k↔Z k))/\BS Z' w' cb bb aO sv' bG fns q /\
   Fr (λk=>k=cb\/rv.ownBlock=some k\/sv.ownBlock=some k) w w'/\Mv w rv aO/\(∀k,bG.ownBlock=some k->w.heap.size<=k):=by
 obtain⟨sp,sc,sg,rfl,_⟩:=Pc hs;have aj:∀k,(Value.slice sp sl.length sc).ownBlock=some k->k<w.heap.size:=λk hk=>(hs.lt k hk).2
 have f0:Fr (λ_=>False) w ((w.alloc (.cells #[.int .i64 0,.slice none 0 0] 96)).alloc (.cells #[.pointer (some ⟨cb,0,none⟩),.slice sp sl.length sc,.slice none 0 0] 159)):=((eU _ _).alloc _).alloc _;have hB:=gH (w.alloc (.cells #[.int .i64 0,.slice none 0 0] 96)) [.pointer (some ⟨cb,0,none⟩),.slice sp sl.length sc,.slice none 0 0] 159;have hR:=mr (gH w [.int .i64 0,.slice none 0 0] 96) (.cells #[.pointer (some ⟨cb,0,none⟩),.slice sp sl.length sc,.slice none 0 0] 159);rw[gM]at hB;have aN:=h.Nr;have bd:=h.Ns;have pr:=h.Ny;have gG:=CS.bs (bb:=w.heap.size+1) (h.qR f0) hB (Vz hs f0) ⟨by omega,λe=>by have:=bd _ e;omega,λe=>by have:=pr _ e;omega⟩ (λk hk=>⟨(bA k hk).1,by have:=aj k hk;omega,(bA k hk).2⟩);have CW:=eu (hw _ _ f0 gG);have HR:=eu hR;have F0:=eu f0;have HF:=eu (kK aN (kK bd (kK pr aj)));have EG:=eg;clear h hs bA hw aj f0 hB hR aN bd pr gG eg;go_enter func50,ntmps50;go_wp2_with fail;refine CW.o.mono ?_;rintro e w1⟨rfl,Z',aO,sv',bG,z1,gG,f1,n1,n2,n3⟩;obtain⟨FI,sC,_⟩:=gG.Pz;obtain⟨kp,kn,kc,rfl⟩:=OG sC;have sL:¬KL cb (w.heap.size+1) rv (.slice sp sl.length sc) (.slice none 0 0) w.heap.size:=by
  obtain⟨a1,a2,_,a3⟩:=HF.o;rintro(e|e|e|e|e)
  .omega
  .omega
  .have:=a2 _ e;omega
  .have:=a3 _ e;omega
  .cases e
 have nI:=gd HR.o f1 sL;have r0:=al nI 0;have r1:=al nI 1;have z0:=ku nI 0;have z2:=ku nI 1;have b2:=al gG.Kq 2;simp at r0 r1 b2;have Cv:=eu nI;have BF:=eu (kK gG (kK f1 (kK n1 (kK n2 (kK n3 (kK sL z1))))));clear gG f1 n1 n2 n3 sC nI CW HR sL z1;go_wp2_with fail;have hq:=(xN Cv.o 0 (.int .i64 sl.length)).set 1 (.slice kp kn kc);refine mF (Dr rfl _ _ w.heap.size _ _ _ _ rfl hq underlying96 rfl (by kernel_rfl)) rfl ?_;obtain⟨gG,f1,n1,n2,n3,sL,z1⟩:=BF.o;obtain⟨a1,a2,a4,a3⟩:=HF.o;have iP:=F0.o.size;have lz:w.heap.size<((w.alloc (.cells #[.int .i64 0,.slice none 0 0] 96)).alloc (.cells #[.pointer (some ⟨cb,0,none⟩),.slice sp sl.length sc,.slice none 0 0] 159)).heap.size:=by rw[gM,gM];omega
 refine⟨Z',w.heap.size+1,aO,sv',.slice kp kn kc,rfl,λk hk=>(z1 k (Kl hk iP)),gG.SS (((eU (λk=>k=w.heap.size) _).set _ _ (.inl rfl)).set _ _ (.inl rfl)) ?_,?_,?_,?_⟩
 .rintro k(hk|hk)rfl
  .have:=a4 _ ((z1 _ lz).1 hk);omega
  .exact sL (Ia hk n1 n2 n3 lz)
 .refine IL (IL ?_ _ _ (.inr (qP _))) _ _ (.inr (qP _));refine⟨f1.os.trans F0.o.os,f1.tape.trans F0.o.tape,f1.output.trans F0.o.output,yM iP f1.size,λi hi hK=>(f1.block i (Kl hi iP) (λhn=>hK ?_)).trans (F0.o.block i hi (by simp))⟩;rcases hn with e|e|e|e|e
  .exact .inl e
  .omega
  .exact .inr (.inl e)
  .exact .inr (.inr e)
  .cases e
 .exact kH (kq w rv) n1 iP
 .intro k hk;rcases n3 k hk with e|e
  .cases e
  .exact yM iP e
theorem znT:(prog.info? 96).map (λi=>(i.zero,i.size,i.bytes))=some (some (.agg #[.int .i64 0,.slice none 0 0]),2,32):=by kernel_rfl
theorem zgN:∀(l:List (Nat × List Ds))(vs:List Value)(b:Nat × List Ds)(v:Value),vs.length=l.length->M4 (l++[b]) (vs++[v])=M4 l vs++[.int .i64 b.1,v]
 |[],[],_,_,_=>rfl
 |x::l,y::vs,b,v,h=>by simp only[MP,M4];rw[zgN l vs b v (by simpa using h)];simp
 |[],_::_,_,_,h=>by simp at h
 |_::_,[],_,_,h=>by simp at h
variable {w3:World}{g m:Nat}{kv:Value}
theorem CS.added{a:World}{cap:Nat}{c:List Ds}{cP:List Value}(h:CS Z w cb rv fns bl)(hc:QV Z w kv c)(iW:cP.length=bl.length)(El:∀(i:Nat)(b:Nat × List Ds)(cv:Value),bl[i]?=some b->cP[i]?=some cv->QV Z w cv b.2)(fa:Fr (λ_=>False) w a)(ai:w3.ownsRow 0 96 2 (.slice (some ⟨g,0,none⟩) (bl.length+1) cap) (bl.length+1) (M4 bl cP++[.int .i64 m,kv]))(ah:a.grownBy w3 rv.ownBlock)(aV:rv.ownBlock=some g\/w.heap.size<=g):
  (w3.cell? ⟨cb,1,none⟩=some rv/\w3.frozen? ⟨cb,1,none⟩=false)/\CS Z (w3.setCell ⟨cb,1,none⟩ (.slice (some ⟨g,0,none⟩) (bl.length+1) cap)) cb (.slice (some ⟨g,0,none⟩) (bl.length+1) cap) fns (bl++[(m,c)]) /\
   Fr (λk=>k=cb\/rv.ownBlock=some k) w (w3.setCell ⟨cb,1,none⟩ (.slice (some ⟨g,0,none⟩) (bl.length+1) cap))/\Mv w rv (.slice (some ⟨g,0,none⟩) (bl.length+1) cap):=by
 obtain⟨fv,bH,bT⟩:=h.OA;have aN:=bH.lt;have gm:oH a cb [fv,rv] 86:=gd bH fa;have bD:=gm.grown ah (λe=>h.rc e.symm);have so:g≠cb:=by
  rcases aV with e|e
  .intro e2;subst e2;exact h.rc e
  .omega
 have f0:Fr (λk=>k=cb\/rv.ownBlock=some k) w (w3.setCell ⟨cb,1,none⟩ (.slice (some ⟨g,0,none⟩) (bl.length+1) cap)):=
  ((fa.mono (λ_ x=>x.elim)).UT ah (λk _ e=>.inr e)).set _ _ (.inl (.inl rfl))
 have hz:∀k,k<w.heap.size->Z k->¬(k=cb\/rv.ownBlock=some k):=λk _ hk he=>by
  rcases he with e|e
  .exact(h.zk k hk).1 e
  .exact(h.zk k hk).2 e
 have nk:Mv w rv (.slice (some ⟨g,0,none⟩) (bl.length+1) cap):=by
  intro k hk;simp only[Value.ownBlock,IA]at hk;rcases aV with e|e
  .exact .inl (by rw[e,hk])
  .exact .inr (by omega)
 refine⟨⟨by simpa using al bD 1,ku bD 1⟩,⟨⟨fv,bD.set 1 _,bT.Ku f0 hz (λ_ _ x=>x)⟩,⟨cP++[kv],by simp[iW],?_,?_⟩,λk hk=>Kl (h.Ny k hk) f0.size,?_,?_⟩,f0,nk⟩
 .have f3:Fr (λk=>k=cb) w3 (w3.setCell ⟨cb,1,none⟩ (.slice (some ⟨g,0,none⟩) (bl.length+1) cap)):=(eU _ _).set _ _ (.inl rfl);rw[IJ,Ng,zgN _ _ _ _ iW];exact f3.gb ai (λk hk=>by simp only[Value.ownBlock,IA]at hk;omega)
 .intro i b cv hi hv;rw[OQ]at hi hv;by_cases aj:i<bl.length
  .rw[nB aj]at hi;rw[nB (by rw[iW];exact aj)]at hv;exact(El i b cv hi hv).Ku f0 hz (λ_ _ x=>x)
  .rw[pL aj]at hi;rw[pL (by rw[iW];exact aj),iW]at hv;have h1:i-bl.length=0:=by
    have:=(Dq.1 hi).1;simp at this;omega
   rw[h1]at hi hv;simp only[Pk,IA]at hi hv;rw[<-hi,<-hv];exact hc.Ku f0 hz (λ_ _ x=>x)
 .intro k hk;refine⟨(h.zk k hk).1,λe=>?_⟩;rcases nk k e with e|e
  .exact(h.zk k hk).2 e
  .have:=h.Ny k hk;omega
 .intro e;simp only[Value.ownBlock,IA]at e;exact so e
theorem UJ{gf:Nat}{lb:Array Value}(eg:∀args w,(callFunc gf args).run prog w=.ok (.enter gf args) w)(h:CS Z w cb rv fns bl)(hs:w.ownsRow 0 9 1 sv sl.length (strCells sl))(bA:∀k,sv.ownBlock=some k->k≠cb/\rv.ownBlock≠some k/\¬Z k)(hw:VZ Z w cb rv sv fns sl bl gf lb q)(hl:q.blocks.length<=1000000000):
  Calls prog 154 #[.pointer (some ⟨cb,0,none⟩),sv,.func (.func gf) #[] lb] w λe w'=>e=.returned (.int .i64 q.blocks.length)/\∃Z' aO,(∀k,k<w.heap.size->(Z' k↔Z k))/\CS Z' w' cb aO fns (q.blocks++[(sl.length,q.code)]) /\
   Fr (λk=>k=cb\/rv.ownBlock=some k\/sv.ownBlock=some k) w w'/\Mv w rv aO:=by
 obtain⟨i0,dt,bq,aP,bF⟩:=nC znT;have HI:=eu dt;clear dt;have HZ:=eu (kK bq (kK aP bF));clear bq aP bF;obtain⟨sp,sn,sc,rfl⟩:=OG hs;have CB:=eu (znu eg h hs bA hw);clear h hs bA hw eg;go_enter func154,ntmps154;go_wp2_with fail;refine CB.o.mono ?_;rintro e w1⟨Z',bb,aO,sv',bG,rfl,z1,gG,f1,n1,n2⟩;obtain⟨aE,jF⟩:=gG.done;obtain⟨FI,sC,_⟩:=gG.Pz;obtain⟨kp,kn,kc,rfl⟩:=OG sC;obtain⟨fv,bH,_⟩:=aE.OA;obtain⟨cP,dd,cg,jc⟩:=aE.OL;obtain⟨ra,rn,rc,rfl⟩:=OG cg;have oT:=al bH 1;simp at oT;have aN:w1.heap.size≠cb:=by have:=bH.lt;omega
 have a1:(w1.alloc (.cells #[.int .i64 sl.length,.slice kp kn kc] 96)).cell? ⟨cb,1,none⟩=some (.slice ra rn rc):=by simpa using al (mr bH (.cells #[.int .i64 sl.length,.slice kp kn kc] 96)) 1
 have a2:((w1.alloc (.cells #[.int .i64 sl.length,.slice kp kn kc] 96)).alloc (.cells #[.int .i64 sl.length,.slice kp kn kc] 96)).cell? ⟨cb,1,none⟩=some (.slice ra rn rc):=by simpa using al (mr (mr bH (.cells #[.int .i64 sl.length,.slice kp kn kc] 96)) (.cells #[.int .i64 sl.length,.slice kp kn kc] 96)) 1
 have HD:=eu (kK z1 (kK f1 (kK n1 n2)));have HC:=eu (kK aE (kK jF (kK dd jc)));have Cw:=eu cg;have ff:Hid (Fr (λ_=>False) w1 ((w1.alloc (.cells #[.int .i64 sl.length,.slice kp kn kc] 96)).alloc (.cells #[.int .i64 sl.length,.slice kp kn kc] 96)).drew):=eu (((eU _ _).alloc _).alloc _).drew;clear z1 f1 n1 n2 gG aE jF sC bH dd cg jc CB;go_wp2_with fail
 go_region_law (first
  |(refine step_append_lies _ (by rfl) _ _ _ (by rfl) 0 96 i0 _ 2 32 underlying64 HI.o HZ.o.1 HZ.o.2.1 HZ.o.2.2 rfl (by omega) (.slice ra rn rc) q.blocks.length (M4 q.blocks cP) (by rfl) (ff.o.gb Cw.o (by simp)) ⟨w1.heap.size+1,0,none⟩ 1 1 [.int .i64 sl.length,.slice kp kn kc] (by rfl) (by rfl) (World.news_of_block (cs:=#[.int .i64 sl.length,.slice kp kn kc]) (t:=96) (fr:=(0,0)) (heap_alloc2_new w1 (.cells #[.int .i64 sl.length,.slice kp kn kc] 96) (.cells #[.int .i64 sl.length,.slice kp kn kc] 96))) (by simp[Value.oneCell']) (by omega) (by unfold maxLen;omega) (by omega) (Kc _) (w1.heap.size+2) (by simp) ?_;intro g cap w3 ai ah aV aj;have AD:=eu (HC.o.1.added (m:=sl.length) HC.o.2.1 HC.o.2.2.1 HC.o.2.2.2 ff.o ai ah (by rcases aV with e|e;exact .inl e;exact .inr (by omega)));have d1:=AD.o.1.1;have df:=AD.o.1.2;clear ai ah aV aj)
  |(go_simp;go_wp2_with fail))
 all_goals
  obtain⟨Gl,h4,_⟩:=AD.o.2.1.OA;have e4:(w3.setCell ⟨cb,1,none⟩ (.slice (some ⟨g,0,none⟩) (q.blocks.length+1) cap)).cell? ⟨cb,1,none⟩=some (.slice (some ⟨g,0,none⟩) (q.blocks.length+1) cap):=al h4 1;have Bf:=eu AD.o.2;clear h4 AD a1 a2 oT d1 df;go_wp2;go_ret;obtain⟨z1,f1,n1,n2⟩:=HD.o;obtain⟨c1,c2,c3⟩:=Bf.o;refine⟨by simp,_,_,λk hk=>?_,c1,?_,n1.trans c3 f1.size⟩
  .rw[<-z1 k hk];constructor
   .rintro(e|e)
    .exact e
    .have:=n2 k e;omega
   .exact .inl
  .refine⟨c2.os.trans f1.os,c2.tape.trans f1.tape,c2.output.trans f1.output,yM f1.size c2.size,λi hi hK=>(c2.block i (Kl hi f1.size) (λhn=>hK ?_)).trans (f1.block i hi hK)⟩;rcases hn with e|e
   .exact .inl e
   .rcases n1 i e with e|e
    .exact .inr (.inl e)
    .omega
end
section
open Go.RowKit
namespace Th
def MM:List (List UInt8):=[[43],[45],[42],[47],[60],[61,61]]
def Wf:Nat->Ex->Prop
 |0,_=>False
 |n+1,e=>
  (e.kind=1/\e.n<=999999999)\/e.kind=2\/(e.kind=3/\e.tag<=99/\e.arity<=9) \/
  (e.kind=4/\e.names≠[]/\∃b,e.kids=[b]/\Wf n b) \/
  (e.kind=5/\∃a b,e.kids=[a,b]/\Wf n a/\Wf n b) \/
  (e.kind=6/\e.tok.s∈MM/\∃a b,e.kids=[a,b]/\Wf n a/\Wf n b) \/
  ((e.kind=7\/e.kind=8)/\e.names≠[]/\∃b parts,e.kids=b::parts/\parts.length=e.names.length/\(∀p∈parts,Wf n p)/\Wf n b) \/
  (e.kind=9/\e.nA≠[]/\(∀a∈e.nA,a.1<=99)/\∃b ag,e.kids=b::ag/\ag.length=e.nA.length/\(∀p∈ag,Wf n p)/\Wf n b)
theorem Wf.succ:∀(n:Nat)(e:Ex),Wf n e->Wf (n+1) e
 |0,_,h=>h.elim
 |n+1,e,h=>by
  have ih:=Wf.succ n;rcases h with h|h|h|⟨hk,hn,b,h1,h2⟩|⟨hk,a,b,h1,h2,h3⟩|⟨hk,hs,a,b,h1,h2,h3⟩|⟨hk,hn,b,parts,h1,h2,h3,h4⟩|⟨hk,hn,ht,b,ag,h1,h2,h3,h4⟩
  .exact .inl h
  .exact .inr (.inl h)
  .exact .inr (.inr (.inl h))
  .exact .inr (.inr (.inr (.inl ⟨hk,hn,b,h1,ih _ h2⟩)))
  .exact .inr (.inr (.inr (.inr (.inl ⟨hk,a,b,h1,ih _ h2,ih _ h3⟩))))
  .exact .inr (.inr (.inr (.inr (.inr (.inl ⟨hk,hs,a,b,h1,ih _ h2,ih _ h3⟩)))))
  .exact .inr (.inr (.inr (.inr (.inr (.inr (.inl ⟨hk,hn,b,parts,h1,h2,λp hp=>ih _ (h3 p hp),ih _ h4⟩))))))
  .exact .inr (.inr (.inr (.inr (.inr (.inr (.inr ⟨hk,hn,ht,b,ag,h1,h2,λp hp=>ih _ (h3 p hp),ih _ h4⟩))))))
variable {n m:Nat}
theorem Wf.le{e:Ex}(h:Wf n e)(hm:n<=m):Wf m e:=by
 induction hm with
 |refl=>exact h
 |step _ ih=>exact Wf.succ _ _ ih
def TK (st:St):Prop:=∀t∈st.rest,t.k=3->val t.s<=999999999
theorem Vm(a b:Nat)(st:St):(Kv a b st).1<=b:=by
 unfold Th.Kv;split
 .next h=>simp only[OR,tY]at h;exact h.2
 .exact Kc _
theorem Vn{s:List UInt8}{st:St}(h:st.is s=true):st.hd.s=s:=by unfold St.is at h;simp only[OR,uq]at h;exact h.2
end Th
end
section
structure Cp.ZI (e:Th.Ex):Prop where
 lo:1<=e.kind
 hi:e.kind<=9
 num:e.n<=999999999
 tag:e.tag<=99
 ar:e.arity<=9
 nm:∀t∈e.names,t.s≠[]
 am:∀a∈e.nA,a.1<=99/\∀t∈a.2,t.s≠[]
 us:e.kind=2->e.tok.s≠[]
 k4:e.kind=4->e.names≠[]/\∃b,e.kids=[b]
 k5:e.kind=5\/e.kind=6->∃a b,e.kids=[a,b]
 k6:e.kind=6->e.tok.s∈Th.MM
 k7:e.kind=7\/e.kind=8->e.names≠[]/\∃b ps,e.kids=b::ps/\ps.length=e.names.length
 k9:e.kind=9->e.nA≠[]/\∃b ds,e.kids=b::ds/\ds.length=e.nA.length
def Cp.Dp:Nat->Th.Ex->Prop
 |0,_=>False
 |n+1,e=>ZI e/\∀k∈e.kids,Dp n k
theorem Cp.Dp.Nf:∀{n:Nat}{e:Th.Ex},Cp.Dp n e->Cp.ZI e
 |0,_,h=>h.elim
 |_+1,_,h=>h.1
theorem Cp.Dp.succ:∀{n:Nat}{e:Th.Ex},Cp.Dp n e->Cp.Dp (n+1) e
 |0,_,h=>h.elim
 |_n+1,_,h=>⟨h.1,λk hk=>Dp.succ (h.2 k hk)⟩
variable {n m:Nat}{e:Ex}
theorem Cp.Dp.le(h:Cp.Dp n e)(hm:n<=m):Cp.Dp m e:=by
 induction hm with
 |refl=>exact h
 |step _ ih=>exact ih.succ
theorem Cp.zqb:∀{n:Nat}{e:Th.Ex},Cp.Dp n e->Cp.wt (n+1) e=Cp.wt n e
 |0,_,h=>h.elim
 |n+1,e,h=>by rw[Cp.wt,Cp.wt];rw[U3 (λk hk=>zqb (h.2 k hk))]
theorem Cp.zk9(h:Cp.Dp n e)(hm:n<=m:=by omega):Cp.wt m e=Cp.wt n e:=by
 induction hm with
 |refl=>rfl
 |step hle ih=>rw[zqb (h.le hle),ih]
abbrev JD:=@Cp.zk9
theorem Cp.zeJ{f g:Th.Ex->List Cp.Nm}:∀{ps:List Th.Ex}{l:List Cp.Nm},(∀k∈ps,f k=g k)->Cp.M7 f ps l=Cp.M7 g ps l
 |[],_,_=>rfl
 |p::ps,l,h=>by rw[M7,M7,h p (by simp)];exact zeJ (λk hk=>h k (by simp[hk]))
theorem Cp.zfY{f g:Th.Ex->List Cp.Nm}:∀{az:List (Nat × List Th.Tok)}{bs:List Th.Ex}{l:List Cp.Nm},(∀k∈bs,f k=g k)->Cp.Mu f az bs l=Cp.Mu g az bs l
 |[],_,_,_=>by simp[Mu]
 |_::_,[],_,_=>by simp[Mu]
 |a::az,b::bs,l,h=>by rw[Mu,Mu,h b (by simp)];exact zfY (λk hk=>h k (by simp[hk]))
theorem Cp.zgV:∀{n:Nat}{e:Th.Ex},Cp.Dp n e->Cp.free (n+1) e=Cp.free n e
 |0,_,h=>h.elim
 |n+1,e,h=>by
  have ih:∀k∈e.kids,Cp.free (n+1) k=Cp.free n k:=λk hk=>zgV (h.2 k hk)
  rw[Cp.free,Cp.free];by_cases h2:e.kind=2
  .simp[h2]
  .by_cases h4:e.kind=4
   .simp only[h4]
    match hk:e.kids with
    |[b]=>simp[ih b (by simp[hk])]
    |[]=>rfl
    |_::_::_=>rfl
   .by_cases h5:e.kind=5\/e.kind=6
    .simp only[h2,h4,h5,nt,kP]
     match hk:e.kids with
     |[a,b]=>simp[ih a (by simp[hk]),ih b (by simp[hk])]
     |[]=>rfl
     |[_]=>rfl
     |_::_::_::_=>rfl
    .simp only[h2,h4,h5,nt]
     match hk:e.kids with
     |[]=>simp
     |b::ps=>simp only;rw[ih b (by simp[hk]),zeJ (f:=Cp.free (n+1)) (g:=Cp.free n) (λk hp=>ih k (by simp[hk,hp])),zfY (f:=Cp.free (n+1)) (g:=Cp.free n) (λk hp=>ih k (by simp[hk,hp]))]
theorem Cp.zjT{kD:List Cp.Nm}{x:Cp.Nm}:∀{k:Nat},k<=kD.length->(Cp.Ph kD x k=none↔x ∉ kD.take k)
 |0,_=>by simp[Ph]
 |k+1,hk=>by
  have ih:=zjT (kD:=kD) (x:=x) (k:=k) (by omega);rw[Ph];have hg:kD[k]?=some kD[k]:=Iv (by omega);rw[T9,hg,Option.toList_some,Ni,NA];by_cases h:kD[k]=x
  .simp[h]
  .have h':¬x=kD[k]:=λe=>h e.symm
   simp[h,h',ih]
variable {kD:List Cp.Nm}
theorem Cp.Uw{x:Cp.Nm}:Cp.Nu kD x=none↔x ∉ kD:=by unfold Cp.Nu;rw[Cp.zjT (qP _),UY]
variable {l:List Cp.Nm}
theorem Cp.Qk{x:Cp.Nm}:x∈Cp.Il kD l↔x∈l/\x∈kD:=by
 unfold Il;rw[List.mem_filter];have:=Uw (kD:=kD) (x:=x);cases h:Nu kD x with
 |none=>rw[h]at this;simp at this;simp[this]
 |some i=>rw[h]at this;simp at this;simp[this]
theorem Cp.Pu{g:List Cp.Nm}{x:Cp.Nm}:x∈Cp.M6 l g↔x∈l/\x ∉ g:=by unfold Cp.M6;simp
theorem Cp.No{m:List Cp.Nm}{x:Cp.Nm}:x∈Cp.union l m↔x∈l\/x∈m:=by unfold Cp.union;rw[Ni,Cp.Pu];by_cases h:x∈l<;>simp[h]
theorem Cp.Sr{f:Th.Ex->List Cp.Nm}{x:Cp.Nm}:∀{ps:List Th.Ex}{l:List Cp.Nm},x∈Cp.M7 f ps l↔x∈l\/∃p∈ps,x∈f p
 |[],l=>by simp[M7]
 |p::ps,l=>by rw[M7,Sr,No];simp[or_assoc]
theorem Cp.RH(kD l:List Cp.Nm):(Cp.Il kD l).length<=l.length:=I7 _ _
abbrev JA:=@Cp.RH
theorem Cp.Dp.Nn{k:Th.Ex}(h:Cp.Dp n e)(hk:k∈e.kids):Cp.Dp n k:=by
 cases n with
 |zero=>exact h.elim
 |succ n=>exact(h.2 k hk).succ
theorem Cp.Dp.wt{n:Nat}{e:Th.Ex}(h:Cp.Dp n e):Cp.wt n e=1+e.names.length+(e.nA.map λa=>1+a.2.length).sum+(e.kids.map (Cp.wt n)).sum:=by
 cases n with
 |zero=>exact h.elim
 |succ n=>rw[Cp.wt,U3 (λk hk=>(zqb (h.2 k hk)).symm)]
theorem Cp.Dp.pos(h:Cp.Dp n e):1<=Cp.wt n e:=by rw[h.wt];omega
theorem Cp.Dp.free{n:Nat}{e:Th.Ex}(h:Cp.Dp n e):Cp.free n e =
  if e.kind=2 then[e.tok.s]else
  if e.kind=4 then(match e.kids with|[b]=>M6 (Cp.free n b) (texts e.names)|_=>[])else
  if e.kind=5\/e.kind=6 then(match e.kids with|[a,b]=>union (Cp.free n a) (Cp.free n b)|_=>[])else
  if e.kind=7 then(match e.kids with|b::ps=>union (M7 (Cp.free n) ps []) (M6 (Cp.free n b) (texts e.names))|_=>[])else
  if e.kind=8 then(match e.kids with|b::ps=>union (M6 (M7 (Cp.free n) ps []) (texts e.names)) (M6 (Cp.free n b) (texts e.names))|_=>[])else
  if e.kind=9 then(match e.kids with|s::bs=>union (Cp.free n s) (Mu (Cp.free n) e.nA bs [])|_=>[])else[]:=by
 cases n with
 |zero=>exact h.elim
 |succ n=>rw[<-zgV h,Cp.free];rfl
theorem Cp.WN{f:Th.Ex->List Cp.Nm}{x:Cp.Nm}:∀{az:List (Nat × List Th.Tok)}{bs:List Th.Ex}{l:List Cp.Nm},x∈Cp.Mu f az bs l↔x∈l\/∃(i:Nat)(a:Nat × List Th.Tok)(d:Th.Ex),az[i]?=some a/\bs[i]?=some d/\x∈f d/\x ∉ Th.texts a.2
 |[],bs,l=>by simp[Mu]
 |_::_,[],l=>by simp[Mu]
 |a::az,b::bs,l=>by
  rw[Mu,WN,No,Pu];constructor
  .rintro((h|h)|⟨i,a',d,h1,h2,h3⟩)
   .exact .inl h
   .exact .inr ⟨0,a,b,rfl,rfl,h⟩
   .exact .inr ⟨i+1,a',d,by simpa using h1,by simpa using h2,h3⟩
  .rintro(h|⟨i,a',d,h1,h2,h3⟩)
   .exact .inl (.inl h)
   .cases i with
    |zero=>simp at h1 h2;subst h1 h2;exact .inl (.inr h3)
    |succ i=>exact .inr ⟨i,a',d,by simpa using h1,by simpa using h2,h3⟩
end
section
open Go.RowKit Go.Shelf
attribute [local go_sem ↓] Go.wp_at_zero Go.wp_at_succ
structure Fit (M N:Nat) (fns:List Cp.Nm) (q:Bs) (e:Ex):Prop where
 dp:Dp N e
 wt:Cp.wt N e<=M
 mm:M<=5000
 fl:fns.length<=1000000
 nm:∀x∈Cp.free N e,x≠[]/\(x∈q.kD\/x∈fns)
 cl:q.code.length+(M+8)*Cp.wt N e<=1000000000
 sl:q.kD.length+(M+8)*Cp.wt N e<=100000000
 bl:q.blocks.length+8*Cp.wt N e<=1000000
def Nw (M N n:Nat):Prop:=∀⦃Z:Nat->Prop⦄⦃w:World⦄⦃cb bb:Nat⦄⦃rv sv kv v:Value⦄⦃fns:List Cp.Nm⦄⦃q:Bs⦄⦃e:Ex⦄⦃below:Nat⦄,BS Z w cb bb rv sv kv fns q->qU Z w n v e->Fit M N fns q e->below+(M+8)*Cp.wt N e<=1000000000 ->
 Calls prog 54 #[.pointer (some ⟨bb,0,none⟩),v,.int .i64 below] w λr w'=>r=.returned (.tuple #[])/\ES Z w cb bb rv sv kv fns (Cp.work (Cp.free N) fns n e below q) w'
def Zo (M N n:Nat) (e:Ex):Prop:=∀⦃Z:Nat->Prop⦄⦃w:World⦄⦃cb bb:Nat⦄⦃rv sv kv v:Value⦄⦃fns:List Cp.Nm⦄⦃q:Bs⦄,BS Z w cb bb rv sv kv fns q->qU Z w n v e->Fit M N fns q e ->
 Calls prog 54 #[.pointer (some ⟨bb,0,none⟩),v,.int .i64 0] w λr w'=>r=.returned (.tuple #[])/\ES Z w cb bb rv sv kv fns (Cp.work (Cp.free N) fns n e 0 q) w'
variable {M N n:Nat}
theorem Nw.zero(hW:Nw M N n)(e:Ex):Zo M N n e:=λ_ _ _ _ _ _ _ _ _ _ h hr hf=>hW (below:=0) h hr hf (by have:=hf.cl;omega)
variable {Z Z':Nat->Prop}{w w2 w':World}{cb:Nat}{rv aO sv:Value}{fns:List Cp.Nm}{bl:List (Nat × List Ds)}
theorem Y6(f:Fr (λ_=>False) w w2)(hs:∀k,sv.ownBlock=some k->w.heap.size<=k)(hz:∀k,k<w2.heap.size->(Z' k↔Z k))(hc:CS Z' w' cb aO fns bl)(f2:Fr (λk=>k=cb\/rv.ownBlock=some k\/sv.ownBlock=some k) w2 w')(hn:Mv w2 rv aO):NO Z w cb rv fns bl w':=by
 refine⟨Z',aO,λk hk=>hz k (Kl hk f.size),hc,?_,kH (kq w rv) hn f.size⟩;refine⟨f2.os.trans f.os,f2.tape.trans f.tape,f2.output.trans f.output,yM f.size f2.size,λi hi hK=>(f2.block i (Kl hi f.size) (λhn=>?_)).trans (f.block i hi (by simp))⟩;rcases hn with e|e|e
 .exact hK (.inl e)
 .exact hK (.inr e)
 .have:=hs i e;omega
theorem zxk:∀args w,(callFunc 216 args).run prog w=.ok (.enter 216 args) w:=by
 intro args w
 kernel_rfl
variable {e:Ex}{bb bx:Nat}{kv:Value}{t:TypeId}{x:Value}{q:Bs}
theorem zuD(hW:Zo M N n e)(hx:oH w bx [.iface t x] 91)(h:BS Z w cb bb rv sv kv fns q)(hr:qU Z w n (.iface t x) e)(hf:Fit M N fns q e):
  Calls prog 216 #[.pointer (some ⟨bb,0,none⟩),.pointer (some ⟨bx,0,none⟩)] w λr w'=>r=.returned (.tuple #[])/\ES Z w cb bb rv sv kv fns (Cp.work (Cp.free N) fns n e 0 q) w':=by
 have c0:=al hx 0;simp at c0;have CW:=eu (hW h hr hf);clear hW h hr hf hx;go_enter func216,ntmps216;go_wp2_with fail;refine CW.o.mono ?_;rintro r w'⟨rfl,hd⟩;have HD:=eu hd;clear hd CW c0;go_wp2
 first|go_end0|refine Ju rfl rfl ?_
 exact⟨rfl,HD.o⟩
variable {v nv:Value}{names:List Cp.Nm}
theorem ze3(hW:Zo M N n e)(h:CS Z w cb rv fns bl)(hr:qU Z w n v e)(hn:Row Z w 9 1 nv names.length (strCells names))(hf:Fit M N fns ⟨bl,names.reverse,[]⟩ e)(ev:names.length<=1000000)(hl:(Cp.work (Cp.free N) fns n e 0 ⟨bl,names.reverse,[]⟩).blocks.length<=1000000000):
  Calls prog 161 #[.pointer (some ⟨cb,0,none⟩),v,nv] w λr w'=>r=.returned (.int .i64 (Cp.work (Cp.free N) fns n e 0 ⟨bl,names.reverse,[]⟩).blocks.length) /\
   NO Z w cb rv fns ((Cp.work (Cp.free N) fns n e 0 ⟨bl,names.reverse,[]⟩).blocks++[(names.reverse.length,(Cp.work (Cp.free N) fns n e 0 ⟨bl,names.reverse,[]⟩).code)]) w':=by
 have mc:∀(fn:Fn)(first cap:Array Value)(w:World),(Instr.makeFunc fn first cap).run prog w=.ok (.func fn first cap) w:=λ_ _ _ _=>rfl
 obtain⟨t,x,rfl⟩:=JQ hr;obtain⟨np,nn,nc,rfl⟩:=Jk hn;have f0:Fr (λ_=>False) w ((w.alloc (.cells #[.iface t x] 91)).alloc (.cells #[.slice np nn nc] 38)):=((eU _ _).alloc _).alloc _;have hB:=gH (w.alloc (.cells #[.iface t x] 91)) [.slice np nn nc] 38;have hX:=mr (gH w [.iface t x] 91) (.cells #[.slice np nn nc] 38);rw[gM]at hB;have CF:=eu (zlp hB (mq hn f0) ev);have HX:=eu hX;have F0:=eu f0;have HH:=eu (kK h (kK hr (kK hf hl)));have HW:=eu hW;clear hW h hr hn hf hl hB hX f0;go_enter func161,ntmps161;go_wp2_with fail;refine CF.o.mono ?_;rintro r w2⟨sv,rfl,bA,f2⟩;obtain⟨sp,sn,sc,rfl⟩:=Jk bA;have f3:=F0.o.trans f2;have bK:∀k,(Value.slice sp sn sc).ownBlock=some k->w.heap.size<=k:=λk hk=>yM F0.o.size (bA.2 k hk)
 obtain⟨h,hr,hf,hl⟩:=HH.o;have CA:=eu (UJ (lb:=#[.pointer (some ⟨w.heap.size,0,none⟩)]) zxk (h.qR f3) (Ou bA.1 (Kc _)) (λk hk=>⟨by have:=h.Nr;have:=bK k hk;omega,λe=>by have:=h.Ns k e;have:=bK k hk;omega,λe=>by have:=h.Ny k e;have:=bK k hk;omega⟩)
  (λW bb bQ hb=>zuD HW.o (gd (gd HX.o f2) bQ) hb (hr.qR (f3.trans bQ)) hf) hl)
 have HS:=eu bK;have F3:=eu f3;clear h hr hf hl bA f2 f3 bK CF;go_wp2_with fail;refine CA.o.mono ?_;rintro r w4⟨rfl,Z',aO,z1,hc,f4,n4⟩;have HD:=eu (Y6 F3.o HS.o z1 hc f4 n4);clear CA z1 hc f4 n4;go_wp2;go_ret;exact⟨rfl,HD.o⟩
theorem zkK(hW:Nw M N n)(h:CS Z w cb rv fns bl)(hr:qU Z w n v e)(hn:Row Z w 9 1 nv names.length (strCells names))(hf:Fit M N fns ⟨bl,names.reverse,[]⟩ e)(ev:names.length<=1000000)(hl:(Cp.work (Cp.free N) fns n e 0 ⟨bl,names.reverse,[]⟩).blocks.length<=1000000000):
  Calls prog 161 #[.pointer (some ⟨cb,0,none⟩),v,nv] w λr w'=>r=.returned (.int .i64 (Cp.work (Cp.free N) fns n e 0 ⟨bl,names.reverse,[]⟩).blocks.length) /\
   NO Z w cb rv fns ((Cp.work (Cp.free N) fns n e 0 ⟨bl,names.reverse,[]⟩).blocks++[(names.reverse.length,(Cp.work (Cp.free N) fns n e 0 ⟨bl,names.reverse,[]⟩).code)]) w':=ze3 (hW.zero e) h hr hn hf ev hl
theorem zvn(f:Fr (λ_=>False) w w2)(hz:∀k,k<w2.heap.size->(Z' k↔Z k))(hc:CS Z' w' cb aO fns bl)(f2:Fr (λk=>k=cb\/rv.ownBlock=some k\/w.heap.size<=k) w2 w')(hn:Mv w2 rv aO):NO Z w cb rv fns bl w':=by
 refine⟨Z',aO,λk hk=>hz k (Kl hk f.size),hc,?_,kH (kq w rv) hn f.size⟩;refine⟨f2.os.trans f.os,f2.tape.trans f.tape,f2.output.trans f.output,yM f.size f2.size,λi hi hK=>(f2.block i (Kl hi f.size) (λhn=>?_)).trans (f.block i hi (by simp))⟩;rcases hn with e|e|e
 .exact hK (.inl e)
 .exact hK (.inr e)
 .omega
theorem zsU:∀args w,(callFunc 258 args).run prog w=.ok (.enter 258 args) w:=by
 intro args w
 kernel_rfl
variable {pn pc:Nat}{pp:Option Addr}
theorem zpB(hW:Nw M N n)(hx:oH w bx [.slice pp pn pc,.iface t x] 226)(h:BS Z w cb bb rv sv kv fns q)(hr:qU Z w n (.iface t x) e)(hf:Fit M N fns q e):
  Calls prog 258 #[.pointer (some ⟨bb,0,none⟩),.pointer (some ⟨bx,0,none⟩)] w λr w'=>r=.returned (.tuple #[])/\ES Z w cb bb rv sv kv fns (Cp.work (Cp.free N) fns n e 0 q) w':=by
 have c0:=al hx 1;simp at c0;have CW:=eu (hW (below:=0) h hr hf (by have:=hf.cl;omega));clear hW h hr hf hx;go_enter func258,ntmps258;go_wp2_with fail;refine CW.o.mono ?_;rintro r w'⟨rfl,hd⟩;have HD:=eu hd;clear hd CW c0;go_wp2
 first|go_end0|refine Ju rfl rfl ?_
 exact⟨rfl,HD.o⟩
variable {sl:List Cp.Nm}
theorem zrz(hW:Nw M N n){pv:Value}{l:List Tok}(aK:sl=(names++texts l).reverse)(hq:q=Cp.work (Cp.free N) fns n e 0 ⟨bl,sl,[]⟩)(h:CS Z w cb rv fns bl)(hr:qU Z w n v e)(hp:Row Z w 88 2 pv l.length (Ms l))(hn:Row Z w 9 1 nv names.length (strCells names))(hf:Fit M N fns ⟨bl,sl,[]⟩ e)(ev:names.length+l.length<=1000000)(hl:q.blocks.length<=1000000000):
  Calls prog 217 #[.pointer (some ⟨cb,0,none⟩),.agg #[pv,v],nv] w λr w'=>r=.returned (.int .i64 q.blocks.length) /\
   NO Z w cb rv fns (q.blocks++[(sl.length,q.code)]) w':=by
 have mc:∀(fn:Fn)(first cap:Array Value)(w:World),(Instr.makeFunc fn first cap).run prog w=.ok (.func fn first cap) w:=λ_ _ _ _=>rfl
 obtain⟨t,x,rfl⟩:=JQ hr;obtain⟨np,nn,nc,rfl⟩:=Jk hn;have xV:∃pp pc,pv=.slice pp l.length pc:=by
  rcases hp.1.2 with⟨h1,h0⟩|⟨g,cap,cur,h0,_⟩
  .rw[<-h0]at h1;exact⟨_,_,h1⟩
  .exact⟨_,_,h0⟩
 obtain⟨pp,pc,rfl⟩:=xV;have f0:Fr (λ_=>False) w (w.alloc (.cells #[.slice pp l.length pc,.iface t x] 226)):=((eU _ _).alloc _);have hX:=gH w [.slice pp l.length pc,.iface t x] 226;have CT:=eu (WT (mq hp f0));have HX:=eu hX;have F0:=eu f0;have HN:=eu hn;have HH:=eu (kK h (kK hr (kK hf hl)));have HW:=eu hW;have iw:=eu (kK aK hq);clear hW h hr hn hf hl hp hX f0 aK hq;go_enter func217,ntmps217;go_wp2_with fail;refine CT.o.mono ?_;rintro r w1⟨tv,rfl,eC,f1⟩;obtain⟨ta,tn,tc,rfl⟩:=Jk eC;have f10:=F0.o.trans f1;have f11:Fr (λ_=>False) w1 (w1.alloc (.cells #[.slice np nn nc,.slice ta tn tc] 38)):=(eU _ _).alloc _;have CF:=eu (WV (gH w1 [.slice np nn nc,.slice ta tn tc] 38) (mq HN.o (f10.trans f11)) (mq eC f11) (by simp[texts];omega));have F1:=eu (f1.trans f11);have b0:=al (gd HX.o f1) 0;clear eC f1 f10 f11 CT;go_wp2_with fail;refine CF.o.mono ?_;rintro r w2⟨sv,rfl,bA,f2⟩;rw[<-iw.o.1]at bA;obtain⟨sp,sn,sc,rfl⟩:=Jk bA;have f20:=F1.o.trans f2;have f3:=F0.o.trans f20;have bK:∀k,(Value.slice sp sn sc).ownBlock=some k->w.heap.size<=k:=λk hk=>yM (yM F0.o.size F1.o.size) (bA.2 k hk)
 have oc:Hid (∀k,(Value.slice sp sn sc).ownBlock=some k->(w.alloc (.cells #[.slice pp l.length pc,.iface t x] 226)).heap.size<=k):=eu (λk hk=>yM F1.o.size (bA.2 k hk));obtain⟨h,hr,hf,hl⟩:=HH.o;have CA:=eu (UJ (lb:=#[.pointer (some ⟨w.heap.size,0,none⟩)]) zsU (h.qR f3) (Ou bA.1 (Kc _)) (λk hk=>⟨by have:=h.Nr;have:=bK k hk;omega,λe=>by have:=h.Ns k e;have:=bK k hk;omega,λe=>by have:=h.Ny k e;have:=bK k hk;omega⟩)
  (λW bb bQ hb=>zpB HW.o (gd (gd HX.o f20) bQ) hb (hr.qR (f3.trans bQ)) hf) (iw.o.2▸hl))
 rw[<-iw.o.2]at CA;have HS:=eu bK;have F3:=eu f3;have tX:=eu f20;clear h hr hf hl bA f2 f3 bK CF f20;go_wp2_with fail;refine CA.o.mono ?_;rintro r w4⟨rfl,Z',aO,z1,hc,f4,n4⟩;have HD:=eu (Y6 F3.o HS.o z1 hc f4 n4);clear CA z1 hc f4 n4;go_wp2;go_ret;exact⟨rfl,HD.o⟩
theorem zyl:∀args w,(callFunc 215 args).run prog w=.ok (.enter 215 args) w:=by
 intro args w
 kernel_rfl
variable {tag:Nat}
theorem zu6(hW:Nw M N n)(hx:oH w bx [.int .i64 tag,.slice pp pn pc,.iface t x] 240)(h:BS Z w cb bb rv sv kv fns q)(hr:qU Z w n (.iface t x) e)(hf:Fit M N fns q e):
  Calls prog 215 #[.pointer (some ⟨bb,0,none⟩),.pointer (some ⟨bx,0,none⟩)] w λr w'=>r=.returned (.tuple #[])/\ES Z w cb bb rv sv kv fns (Cp.work (Cp.free N) fns n e 0 q) w':=by
 have c0:=al hx 2;simp at c0;have CW:=eu (hW (below:=0) h hr hf (by have:=hf.cl;omega));clear hW h hr hf hx;go_enter func215,ntmps215;go_wp2_with fail;refine CW.o.mono ?_;rintro r w'⟨rfl,hd⟩;have HD:=eu hd;clear hd CW c0;go_wp2
 first|go_end0|refine Ju rfl rfl ?_
 exact⟨rfl,HD.o⟩
theorem zw6(hW:Nw M N n){pv:Value}{l:List Tok}(aK:sl=(texts l++names).reverse)(hq:q=Cp.work (Cp.free N) fns n e 0 ⟨bl,sl,[]⟩)(h:CS Z w cb rv fns bl)(hr:qU Z w n v e)(hp:Row Z w 88 2 pv l.length (Ms l))(hn:Row Z w 9 1 nv names.length (strCells names))(hf:Fit M N fns ⟨bl,sl,[]⟩ e)(ev:names.length+l.length<=1000000)(hl:q.blocks.length<=1000000000):
  Calls prog 160 #[.pointer (some ⟨cb,0,none⟩),.agg #[.int .i64 tag,pv,v],nv] w λr w'=>r=.returned (.agg #[.int .i64 tag,.int .i64 l.length,.int .i64 q.blocks.length]) /\
   NO Z w cb rv fns (q.blocks++[(sl.length,q.code)]) w':=by
 have mc:∀(fn:Fn)(first cap:Array Value)(w:World),(Instr.makeFunc fn first cap).run prog w=.ok (.func fn first cap) w:=λ_ _ _ _=>rfl
 obtain⟨t,x,rfl⟩:=JQ hr;obtain⟨np,nn,nc,rfl⟩:=Jk hn;have xV:∃pp pc,pv=.slice pp l.length pc:=by
  rcases hp.1.2 with⟨h1,h0⟩|⟨g,cap,cur,h0,_⟩
  .rw[<-h0]at h1;exact⟨_,_,h1⟩
  .exact⟨_,_,h0⟩
 obtain⟨pp,pc,rfl⟩:=xV;have f0:Fr (λ_=>False) w ((w.alloc (.cells #[.int .i64 tag,.slice pp l.length pc,.iface t x] 240)).alloc (.cells #[.int .i64 0,.int .i64 0,.int .i64 0] 290)):=((eU _ _).alloc _).alloc _;have hX:=mr (gH w [.int .i64 tag,.slice pp l.length pc,.iface t x] 240) (.cells #[.int .i64 0,.int .i64 0,.int .i64 0] 290);have hR:=gH (w.alloc (.cells #[.int .i64 tag,.slice pp l.length pc,.iface t x] 240)) [.int .i64 0,.int .i64 0,.int .i64 0] 290;rw[gM]at hR;have CT:=eu (WT (mq hp f0));have HX:=eu hX;have F0:=eu f0;have HN:=eu hn;have HR:=eu hR;clear hR;have HH:=eu (kK h (kK hr (kK hf hl)));have HW:=eu hW;have iw:=eu (kK aK hq);clear hW h hr hn hf hl hp hX f0 aK hq;go_enter func160,ntmps160;go_wp2_with fail;refine CT.o.mono ?_;rintro r w1⟨tv,rfl,eC,f1⟩;obtain⟨ta,tn,tc,rfl⟩:=Jk eC;have f10:=F0.o.trans f1;have f11:Fr (λ_=>False) w1 (w1.alloc (.cells #[.slice ta tn tc,.slice np nn nc] 38)):=(eU _ _).alloc _;have CF:=eu (WV (gH w1 [.slice ta tn tc,.slice np nn nc] 38) (mq eC f11) (mq HN.o (f10.trans f11)) (by simp[texts];omega));have F1:=eu (f1.trans f11);have b0:=al (gd HX.o f1) 0;clear eC f1 f10 f11 CT;go_wp2_with fail;refine CF.o.mono ?_;rintro r w2⟨sv,rfl,bA,f2⟩;rw[<-iw.o.1]at bA;obtain⟨sp,sn,sc,rfl⟩:=Jk bA;have f20:=F1.o.trans f2;have f3:=F0.o.trans f20;have bK:∀k,(Value.slice sp sn sc).ownBlock=some k->w.heap.size<=k:=λk hk=>yM (yM F0.o.size F1.o.size) (bA.2 k hk)
 have oc:Hid (∀k,(Value.slice sp sn sc).ownBlock=some k->((w.alloc (.cells #[.int .i64 tag,.slice pp l.length pc,.iface t x] 240)).alloc (.cells #[.int .i64 0,.int .i64 0,.int .i64 0] 290)).heap.size<=k):=eu (λk hk=>yM F1.o.size (bA.2 k hk));obtain⟨h,hr,hf,hl⟩:=HH.o;have CA:=eu (UJ (lb:=#[.pointer (some ⟨w.heap.size,0,none⟩)]) zyl (h.qR f3) (Ou bA.1 (Kc _)) (λk hk=>⟨by have:=h.Nr;have:=bK k hk;omega,λe=>by have:=h.Ns k e;have:=bK k hk;omega,λe=>by have:=h.Ny k e;have:=bK k hk;omega⟩)
  (λW bb bQ hb=>zu6 HW.o (gd (gd HX.o f20) bQ) hb (hr.qR (f3.trans bQ)) hf) (iw.o.2▸hl))
 rw[<-iw.o.2]at CA;have HS:=eu bK;have F3:=eu f3;have tX:=eu f20;clear h hr hf hl bA f2 f3 bK CF f20;go_wp2_with fail;refine CA.o.mono ?_;rintro r w4⟨rfl,Z',aO,z1,hc,f4,n4⟩;obtain⟨h,hr,hf,hl⟩:=HH.o;have aB:w.heap.size+1<w2.heap.size:=(gd HR.o tX.o).lt;have wT:∀j,j=w.heap.size\/j=w.heap.size+1->¬(j=cb\/rv.ownBlock=some j\/(Value.slice sp sn sc).ownBlock=some j):=by
  rintro j hj(e|e|e)
  .have:=h.Nr;omega
  .have:=h.Ns j e;omega
  .have:=oc.o j e;rw[gM,gM]at this;omega
 have xe:=gd (gd HX.o tX.o) f4 (wT _ (.inl rfl));have nJ:=gd (gd HR.o tX.o) f4 (wT _ (.inr rfl));have x0:=al xe 0;have x1:=al xe 1;have r0:=al nJ 0;have r1:=al nJ 1;have r2:=al nJ 2;have z0:=ku nJ 0;have z3:=ku nJ 1;have z4:=ku nJ 2;simp at x0 x1 r0 r1 r2;have uU:¬Z' (w.heap.size+1):=λe=>by have:=h.Ny _ ((z1 _ aB).1 e);omega
 have sJ:aO.ownBlock≠some (w.heap.size+1):=λe=>by
  rcases n4 _ e with e|e
  .have:=h.Ns _ e;omega
  .omega
 have rT:w.heap.size+1≠cb:=by have:=h.Nr;omega
 have HC:=eu (kK z1 (kK hc (kK f4 (kK n4 (kK uU (kK sJ rT))))));have vR:=eu nJ;clear h hr hf hl xe nJ z1 hc f4 n4 uU sJ wT CA aB rT b0;go_wp2_with fail;have hq:=(((xN vR.o 0 (.int .i64 tag)).set 1 (.int .i64 l.length)).set 2 (.int .i64 q.blocks.length));refine mF (Dr rfl _ _ (w.heap.size+1) _ _ _ _ rfl hq underlying290 rfl (by kernel_rfl)) rfl ?_;obtain⟨z1,hc,f4,n4,uU,sJ,rT⟩:=HC.o;refine⟨rfl,zvn F3.o z1 (hc.SS (((((eU (λk=>k=w.heap.size+1) _).set _ _ (.inl rfl)).set _ _ (.inl rfl)).set _ _ (.inl rfl))) ?_) ?_ n4⟩
 .rintro k(e|e|e)rfl
  .exact uU e
  .exact rT e
  .exact sJ e
 .have f5:Fr (λk=>k=cb\/rv.ownBlock=some k\/w.heap.size<=k) w2 w4:=f4.mono (λk hk=>by
   rcases hk with e|e|e
   .exact .inl e
   .exact .inr (.inl e)
   .exact .inr (.inr (HS.o k e)))
  exact IL (IL (IL f5 _ _ (.inl (.inr (.inr (UZ _))))) _ _ (.inl (.inr (.inr (UZ _))))) _ _ (.inl (.inr (.inr (UZ _))))
theorem zro:∀args w,(callFunc 214 args).run prog w=.ok (.enter 214 args) w:=by
 intro args w
 kernel_rfl
variable {sg:ByteArray}
theorem znD(hx:oH w bx [.string sg] 9)(h:BS Z w cb bb rv sv kv fns q)(hl:q.code.length<=1000000):
  Calls prog 214 #[.pointer (some ⟨bb,0,none⟩),.pointer (some ⟨bx,0,none⟩)] w λr w'=>r=.returned (.tuple #[])/\ES Z w cb bb rv sv kv fns ((q.write (.comp sg)).write .enter) w':=by
 have c0:=al hx 0;simp at c0;have CW:=eu (Re (i:=.comp sg) h rfl (by omega));clear h hx;go_enter func214,ntmps214;go_wp2_with fail;refine CW.o.mono ?_;rintro r w1⟨rfl,Z1,bh,bf,cA,z1,hb,f1,n1,n2,n3⟩;have CE:=eu (Re (i:=.enter) hb rfl (by simp[Bs.write];omega));have HD:=eu (kK z1 (kK f1 (kK n1 (kK n2 n3))));clear CW c0 z1 hb f1 n1 n2 n3;go_wp2_with fail;refine CE.o.mono ?_;rintro r w2⟨rfl,hd⟩;have HE:=eu hd;clear hd CE;go_wp2
 first|go_end0|refine Ju rfl rfl ?_
 exact⟨rfl,kU HD.o.1 HD.o.2.1 HD.o.2.2.1 HD.o.2.2.2.1 HD.o.2.2.2.2 HE.o⟩
theorem zvq:∀args w,(callFunc 259 args).run prog w=.ok (.enter 259 args) w:=by
 intro args w
 kernel_rfl
theorem zrJ{ar:Nat}(hx:oH w bx [.int .i64 tag,.int .i64 ar] 219)(h:BS Z w cb bb rv sv kv fns q)(hl:q.code.length<=1000000):
  Calls prog 259 #[.pointer (some ⟨bb,0,none⟩),.pointer (some ⟨bx,0,none⟩)] w λr w'=>r=.returned (.tuple #[])/\ES Z w cb bb rv sv kv fns ((q.write (.pack tag ar)).write .enter) w':=by
 have c0:=al hx 0;have c1:=al hx 1;simp at c0 c1;have CW:=eu (Re (i:=.pack tag ar) h rfl (by omega));clear h hx;go_enter func259,ntmps259;go_wp2_with fail;refine CW.o.mono ?_;rintro r w1⟨rfl,Z1,bh,bf,cA,z1,hb,f1,n1,n2,n3⟩;have CE:=eu (Re (i:=.enter) hb rfl (by simp[Bs.write];omega));have HD:=eu (kK z1 (kK f1 (kK n1 (kK n2 n3))));clear CW c0 c1 z1 hb f1 n1 n2 n3;go_wp2_with fail;refine CE.o.mono ?_;rintro r w2⟨rfl,hd⟩;have HE:=eu hd;clear hd CE;go_wp2
 first|go_end0|refine Ju rfl rfl ?_
 exact⟨rfl,kU HD.o.1 HD.o.2.1 HD.o.2.2.1 HD.o.2.2.2.1 HD.o.2.2.2.2 HE.o⟩
theorem znE(h:CS Z w cb rv fns bl)(hl:bl.length<=1000000000):
  Calls prog 158 #[.pointer (some ⟨cb,0,none⟩),.string sg] w λr w'=>r=.returned (.int .i64 bl.length)/\NO Z w cb rv fns (bl++[(2,[.comp sg,.enter])]) w':=by
 have mc:∀(fn:Fn)(first cap:Array Value)(w:World),(Instr.makeFunc fn first cap).run prog w=.ok (.func fn first cap) w:=λ_ _ _ _=>rfl
 have HX:=eu (gH w [.string sg] 9);have F0:Hid (Fr (λ_=>False) w (w.alloc (.cells #[.string sg] 9))):=eu ((eU _ _).alloc _);have HH:=eu h;clear h;go_enter func158,ntmps158;go_wp2_with fail;generalize w.alloc (.cells #[.string sg] 9)=w0 at HX F0|-;refine(WY _).mono ?_;rintro r w1⟨rfl,aD⟩;have F1:Hid (Fr (λ_=>False) w0 w1):=eu (aD▸(eU _ _).alloc _);have A1:Hid (oH w1 w0.heap.size [.string ⟨#[]⟩] 9):=eu (aD▸gH w0 [.string ⟨#[]⟩] 9);clear aD;go_wp2_with fail;refine(WY _).mono ?_;rintro r w2⟨rfl,aB⟩;have F2:Hid (Fr (λ_=>False) w1 w2):=eu (aB▸(eU _ _).alloc _);have A2:Hid (oH w2 w1.heap.size [.string ⟨#[]⟩] 9):=eu (aB▸gH w1 [.string ⟨#[]⟩] 9);clear aB;have f3:Fr (λ_=>False) w2 (w2.alloc (.cells #[.slice (some ⟨w0.heap.size,0,none⟩) 1 1,.slice (some ⟨w1.heap.size,0,none⟩) 1 1] 38)):=(eU _ _).alloc _;have one:∀{W:World}{g:Nat},oH W g [.string ⟨#[]⟩] 9->Row (λ_=>True) W 9 1 (.slice (some ⟨g,0,none⟩) 1 1) ([[]]:List Cp.Nm).length (strCells [[]]):=λhb=>⟨UK (base:=0) hb rfl (qP _) (by unfold maxLen;omega) (Kc _) rfl,λ_ _=>trivial⟩
 have CF:=eu (WV (gH w2 [.slice (some ⟨w0.heap.size,0,none⟩) 1 1,.slice (some ⟨w1.heap.size,0,none⟩) 1 1] 38) (one (gd A1.o (F2.o.trans f3))) (one (gd A2.o f3)) (by simp));have F3:=eu f3;clear f3 one;go_wp2_with fail;refine CF.o.mono ?_;rintro r w4⟨sv,rfl,bA,f4⟩;obtain⟨sp,sn,sc,rfl⟩:=Jk bA;have aK:(([[]]:List Cp.Nm)++[[]]).reverse=[[],[]]:=rfl;rw[aK]at bA;have f40:=F1.o.trans (F2.o.trans (F3.o.trans f4));have f5:=F0.o.trans f40;have bK:∀k,(Value.slice sp sn sc).ownBlock=some k->w.heap.size<=k:=λk hk=>yM (yM F0.o.size (yM F1.o.size (yM F2.o.size F3.o.size))) (bA.2 k hk)
 have h:=HH.o;have CA:=eu (UJ (lb:=#[.pointer (some ⟨w.heap.size,0,none⟩)]) (q:=((⟨bl,[[],[]],[]⟩:Bs).write (.comp sg)).write .enter) zro (h.qR f5) (Ou bA.1 (Kc _)) (λk hk=>⟨by have:=h.Nr;have:=bK k hk;omega,λe=>by have:=h.Ns k e;have:=bK k hk;omega,λe=>by have:=h.Ny k e;have:=bK k hk;omega⟩)
  (λW bb bQ hb=>znD (gd (gd HX.o f40) bQ) hb (by simp)) hl)
 have HS:=eu bK;have F5:=eu f5;clear h bA f4 f40 f5 bK CF aK;go_wp2_with fail;refine CA.o.mono ?_;rintro r w6⟨rfl,Z',aO,z1,hc,f6,n6⟩;have HD:=eu (Y6 F5.o HS.o z1 hc f6 n6);clear CA z1 hc f6 n6;go_wp2;go_ret;exact⟨rfl,HD.o⟩
theorem zvI:(prog.info? 9).map (λi=>(i.size,i.bytes,i.zero))=some (1,16,some (.string ⟨#[]⟩)):=by kernel_rfl
theorem V8(n:Nat):madeCells (Value.cells (.string ⟨#[]⟩)) n=(strCells (List.replicate n [])).toArray:=by
 apply Array.ext
 .simp[madeCells,strCells]
 .intro i h1 h2;simp[madeCells,strCells,Value.cells,Nat.mod_one]
theorem ztA(hn:n<=1000000)(W:World):(Instr.makeSlice 38 (.int .i64 (n:Int)) (.int .i64 (n:Int))).run prog W=.ok (.slice (some ⟨W.heap.size,0,none⟩) n n) (W.alloc (.cells (strCells (List.replicate n [])).toArray 9)):=by obtain⟨i,hi,he⟩:=M9.1 zvI;simp only[O2]at he;obtain⟨h1,h2,h3⟩:=he;have:=run_make (P:=prog) W 38 9 i (.string ⟨#[]⟩) underlying38 hi h3 .i64 .i64 n n (by omega) (by omega) (by rw[h2];omega) (by omega);rw[this,h1,MO,S8,V8]
theorem zrK{ar:Nat}(aK:sl=List.replicate ar [])(h:CS Z w cb rv fns bl)(hl:bl.length<=1000000000)(pQ:ar<=1000000):
  Calls prog 218 #[.pointer (some ⟨cb,0,none⟩),.agg #[.int .i64 tag,.int .i64 ar]] w λr w'=>r=.returned (.int .i64 bl.length)/\NO Z w cb rv fns (bl++[(sl.length,[.pack tag ar,.enter])]) w':=by
 have mc:∀(fn:Fn)(first cap:Array Value)(w:World),(Instr.makeFunc fn first cap).run prog w=.ok (.func fn first cap) w:=λ_ _ _ _=>rfl
 have HM:=ztA pQ;have aU:sl.length=ar:=by rw[aK];simp
 rw[<-aK]at HM;obtain⟨vs,gW⟩:∃vs,strCells sl=vs:=⟨_,rfl⟩;have dJ:vs.length=ar:=by rw[<-gW];simp[strCells,aU]
 rw[gW]at HM;have hX:=mr (gH w [.int .i64 tag,.int .i64 ar] 219) (.cells vs.toArray 9);have f0:Fr (λ_=>False) w ((w.alloc (.cells #[.int .i64 tag,.int .i64 ar] 219)).alloc (.cells vs.toArray 9)):=((eU _ _).alloc _).alloc _;have hB:=gH (w.alloc (.cells #[.int .i64 tag,.int .i64 ar] 219)) vs 9;rw[gM]at hB;have ai:((w.alloc (.cells #[.int .i64 tag,.int .i64 ar] 219)).alloc (.cells vs.toArray 9)).ownsRow 0 9 1 (.slice (some ⟨w.heap.size+1,0,none⟩) ar ar) sl.length (strCells sl):=by rw[aU,gW];exact UK hB dJ (qP _) (by unfold maxLen;omega) (Kc _) (by rw[<-dJ,UY])
 have bK:∀k,(Value.slice (some ⟨w.heap.size+1,0,none⟩) ar ar).ownBlock=some k->w.heap.size<=k:=λk hk=>by simp[Value.ownBlock]at hk;omega
 have CA:=eu (UJ (lb:=#[.pointer (some ⟨w.heap.size,0,none⟩)]) (q:=((⟨bl,sl,[]⟩:Bs).write (.pack tag ar)).write .enter) zvq (h.qR f0) ai (λk hk=>⟨by have:=h.Nr;have:=bK k hk;omega,λe=>by have:=h.Ns k e;have:=bK k hk;omega,λe=>by have:=h.Ny k e;have:=bK k hk;omega⟩)
  (λW bb bQ hb=>zrJ (gd hX bQ) hb (by simp)) hl)
 have HS:=eu bK;have F0:=eu f0;clear h bK ai hB f0 hX dJ gW aU aK;go_enter func218,ntmps218;go_wp2_with fail;refine CA.o.mono ?_;rintro r w6⟨rfl,Z',aO,z1,hc,f6,n6⟩;have HD:=eu (Y6 F0.o HS.o z1 hc f6 n6);clear CA z1 hc f6 n6;go_wp2;go_ret;exact⟨rfl,HD.o⟩
theorem zqn(f:Fr (λ_=>False) w w2)(hs:∀k,sv.ownBlock=some k->w.heap.size<=k)(hz:∀k,k<w.heap.size->(Z' k↔Z k))(hc:CS Z' w' cb aO fns bl)(f2:Fr (λk=>k=cb\/rv.ownBlock=some k\/sv.ownBlock=some k) w2 w')(hn:Mv w2 rv aO):NO Z w cb rv fns bl w':=by
 refine⟨Z',aO,hz,hc,?_,kH (kq w rv) hn f.size⟩;refine⟨f2.os.trans f.os,f2.tape.trans f.tape,f2.output.trans f.output,yM f.size f2.size,λi hi hK=>(f2.block i (Kl hi f.size) (λhn=>?_)).trans (f.block i hi (by simp))⟩;rcases hn with e|e|e
 .exact hK (.inl e)
 .exact hK (.inr e)
 .have:=hs i e;omega
variable {Z1:Nat->Prop}{w1:World}
theorem BS.box{k:Nat}{vs:List Value}(h:BS Z w cb bb rv sv kv fns q)(f:Fr (KL cb bb rv sv kv) w w1)(z:∀k,k<w.heap.size->(Z1 k↔Z k))(hb:oH w k vs t)(hz:Z k):oH w1 k vs t/\Z1 k:=
 ⟨gd hb f (h.zk k hz),(z k hb.lt).2 hz⟩
theorem BS.rep(h:BS Z w cb bb rv sv kv fns q)(f:Fr (KL cb bb rv sv kv) w w1)(z:∀k,k<w.heap.size->(Z1 k↔Z k))(hr:qU Z w n v e):qU Z1 w1 n v e:=
 hr.Ku f (λk _ hz=>h.zk k hz) (λk hk hz=>(z k hk).2 hz)
theorem BS.row{size:Nat}{xs:List Value}(h:BS Z w cb bb rv sv kv fns q)(f:Fr (KL cb bb rv sv kv) w w1)(z:∀k,k<w.heap.size->(Z1 k↔Z k))(hr:Row Z w t size v n xs):Row Z1 w1 t size v n xs:=
 hr.Ku f (λk _ hz=>h.zk k hz) (λk hk hz=>(z k hk).2 hz)
def Cp.Xq (wk:Cp.Bs->Cp.Bs) (sg:ByteArray) (q:Cp.Bs):Cp.Bs:=
 let q2:=(q.write .PJ).push (.push (q.kD.length-1))
 wk (Bs.push ⟨q2.blocks++[(2,[.comp sg,.enter])],q2.kD,q2.code⟩ (.wait q2.blocks.length))
variable {m:Nat}
theorem zrS(hW:Nw M N n){bc bo:Nat}{lv:Value}(hm:q.kD.length=m+1)(hc:oH w bc [.pointer (some ⟨cb,0,none⟩)] 83)(zc:Z bc)(ho:oH w bo [.string sg,lv,.iface t x] 166)(zo:Z bo)(h:BS Z w cb bb rv sv kv fns q)(hr:qU Z w n (.iface t x) e)(aN:q.code.length<=1000000)(aK:q.kD.length<=1000000)(cV:q.blocks.length<=1000000)(hf:∀bl cd,bl.length=q.blocks.length+1->cd.length=q.code.length+3->Fit M N fns ⟨bl,(q.kD++[[]])++[[]],cd⟩ e)(aw:2+(M+8)*Cp.wt N e<=1000000000):
  Calls prog 156 #[.pointer (some ⟨bb,0,none⟩),.pointer (some ⟨bc,0,none⟩),.pointer (some ⟨bo,0,none⟩)] w λr w'=>r=.returned (.tuple #[])/\ES Z w cb bb rv sv kv fns (Xq (Cp.work (Cp.free N) fns n e 2) sg q) w':=by
 obtain⟨sp,sc,Hc,bA,_⟩:=Pc h.Og;rw[hm]at bA;subst bA;have c1:=al h.Kq 1;simp at c1;have CW:=eu (Re (i:=.PJ) h rfl (by omega));have HH:=eu (kK h (kK hr (kK hf (kK hc (kK zc (kK ho zo))))));have HW:=eu hW;have HM:=eu hm;have GL:m<=1000000:=by omega
 clear h hr hf hc zc ho zo hW hm;go_enter func156,ntmps156;go_wp2_with fail;refine CW.o.mono ?_;rintro r w1⟨rfl,Z1,bh,bf,cA,z1,b1,f1,n1,n2,n3⟩;obtain⟨h,hr,hf,hc,zc,ho,zo⟩:=HH.o;have CP:=eu (RJ (i:=.push m) b1 rfl (by simp[Bs.write];omega) (by simp[Bs.write];omega));have X1:=eu (kK z1 (kK b1 (kK f1 (kK n1 (kK n2 n3)))));have Y1:=eu (kK (h.rep f1 z1 hr) (kK (h.box f1 z1 hc zc) (h.box f1 z1 ho zo)));have HF:=eu hf;clear CW c1 h hr hf hc zc ho zo z1 b1 f1 n1 n2 n3 HH;go_wp2_with fail;refine CP.o.mono ?_;rintro r w2⟨rfl,Z2,im,iq,ik,z1,b1,f1,n1,n2,n3⟩;have h:=X1.o.2.1;have hc:=h.box f1 z1 Y1.o.2.1.1 Y1.o.2.1.2;have ho:=h.box f1 z1 Y1.o.2.2.1 Y1.o.2.2.2;have CC:=eu (znE (sg:=sg) b1.cs (by simp[Bs.write,Bs.push];omega));have c0:=al hc.1 0;have o0:=al ho.1 0;simp at c0 o0;have X2:=eu (kK z1 (kK b1 (kK f1 (kK n1 (kK n2 n3)))));have Y2:=eu (kK (h.rep f1 z1 Y1.o.1) (kK hc ho));clear CP h hc ho z1 b1 f1 n1 n2 n3;go_wp2_with fail;refine CC.o.mono ?_;rintro r w3⟨rfl,dc⟩;obtain⟨Z3,j8,j9,j7,z1,b1,f1,n1,n2,n3⟩:=dc.V3 X2.o.2.1;have h:=X2.o.2.1;have ho:=h.box f1 z1 Y2.o.2.2.1 Y2.o.2.2.2;have CP:=eu (RJ (i:=.wait q.blocks.length) b1 rfl (by simp[Bs.write,Bs.push];omega) (by simp[Bs.write,Bs.push];omega));have X3:=eu (kK z1 (kK b1 (kK f1 (kK n1 (kK n2 n3)))));have Y3:=eu (kK (h.rep f1 z1 Y2.o.1) ho);clear CC h ho z1 b1 f1 n1 n2 n3 c0 o0 dc;go_wp2_with fail;refine CP.o.mono ?_;rintro r w4⟨rfl,Z4,yA,yC,yv,z1,b1,f1,n1,n2,n3⟩;have h:=X3.o.2.1;have ho:=h.box f1 z1 Y3.o.2.1 Y3.o.2.2;have o2:=al ho.1 2;simp at o2;have CK:=eu (HW.o (below:=2) b1 (h.rep f1 z1 Y3.o.1) (HF.o _ _ (by simp[Bs.write,Bs.push]) (by simp[Bs.write,Bs.push])) aw);have X4:=eu (kK z1 (kK b1 (kK f1 (kK n1 (kK n2 n3)))));clear CP h ho z1 b1 f1 n1 n2 n3;go_wp2_with fail
 refine CK.o.mono ?_;rintro r w5⟨rfl,d5⟩;have D5:=eu d5;clear d5 CK o2;go_wp2
 first|go_end0|refine Ju rfl rfl ?_
 refine⟨rfl,?_⟩;obtain⟨z1,b1,f1,n1,n2,n3⟩:=X1.o;refine kU z1 f1 n1 n2 n3 ?_;obtain⟨z1,b1,f1,n1,n2,n3⟩:=X2.o;refine kU z1 f1 n1 n2 n3 ?_;obtain⟨z1,b1,f1,n1,n2,n3⟩:=X3.o;refine kU z1 f1 n1 n2 n3 ?_;obtain⟨z1,b1,f1,n1,n2,n3⟩:=X4.o;refine kU z1 f1 n1 n2 n3 ?_;have d5:=D5.o;unfold Xq;rw[HM.o];simpa[Bs.write,Bs.push]using d5
variable {g:Nat}
theorem ztH{W:World}(hb:oH W g [.string ⟨#[]⟩] 9):Row (λ_=>True) W 9 1 (.slice (some ⟨g,0,none⟩) 1 1) ([[]]:List Cp.Nm).length (strCells [[]]):=⟨UK (base:=0) hb rfl (qP _) (by unfold maxLen;omega) (Kc _) rfl,λ_ _=>trivial⟩
theorem zvr:∀args w,(callFunc 156 args).run prog w=.ok (.enter 156 args) w:=by
 intro args w
 kernel_rfl
theorem ztY(hW:Nw M N n){t1:TypeId}{x1:Value}(aK:sl=([]::names).reverse)(hq:q=Xq (Cp.work (Cp.free N) fns n e 2) sg ⟨bl,sl,[]⟩)(h:CS Z w cb rv fns bl)(hr:qU Z w n v e)(hn:Row Z w 9 1 nv names.length (strCells names))(hf:∀b2 cd,b2.length=bl.length+1->cd.length=3->Fit M N fns ⟨b2,(sl++[[]])++[[]],cd⟩ e)(aw:2+(M+8)*Cp.wt N e<=1000000000)(ev:names.length<=100000)(cV:bl.length<=1000000)(hl:q.blocks.length<=1000000000):
  Calls prog 91 #[.pointer (some ⟨cb,0,none⟩),.agg #[.string sg,.iface t1 x1,v],nv] w λr w'=>r=.returned (.int .i64 q.blocks.length)/\NO Z w cb rv fns (q.blocks++[(sl.length,q.code)]) w':=by
 have mc:∀(fn:Fn)(first cap:Array Value)(w:World),(Instr.makeFunc fn first cap).run prog w=.ok (.func fn first cap) w:=λ_ _ _ _=>rfl
 obtain⟨t,x,rfl⟩:=JQ hr;obtain⟨np,nn,nc,rfl⟩:=Jk hn;have f0:Fr (λ_=>False) w ((w.alloc (.cells #[.pointer (some ⟨cb,0,none⟩)] 83)).alloc (.cells #[.string sg,.iface t1 x1,.iface t x] 166)):=((eU _ _).alloc _).alloc _;have kM:=mr (gH w [.pointer (some ⟨cb,0,none⟩)] 83) (.cells #[.string sg,.iface t1 x1,.iface t x] 166);have oP:=gH (w.alloc (.cells #[.pointer (some ⟨cb,0,none⟩)] 83)) [.string sg,.iface t1 x1,.iface t x] 166;rw[gM]at oP;have n9:sl.length=names.length+1:=by rw[aK];simp
 have eR:=eu kM;have pM:=eu oP;have F0:=eu f0;have HN:=eu hn;have HH:=eu (kK h (kK hr (kK hf hl)));have iw:=eu (kK aK (kK hq n9));have HW:=eu hW;clear hW h hr hn hf hl kM oP f0 aK hq n9;go_enter func91,ntmps91;go_wp2_with fail;generalize(w.alloc (.cells #[.pointer (some ⟨cb,0,none⟩)] 83)).alloc (.cells #[.string sg,.iface t1 x1,.iface t x] 166)=w0 at eR pM F0|-;have q1:w0.cell? ⟨w.heap.size,0,none⟩=some (.pointer (some ⟨cb,0,none⟩)):=al eR.o 0;have AA:Hid (∀(W:World)(sp:Option Addr)(sn sc:Nat),Fr (λ_=>False) w0 W->Names w0.heap.size W (.slice sp sn sc) sl->Calls prog 154 #[.pointer (some ⟨cb,0,none⟩),.slice sp sn sc,.func (.func 156) #[] #[.pointer (some ⟨w.heap.size,0,none⟩),.pointer (some ⟨w.heap.size+1,0,none⟩)]] W λr w'=>r=.returned (.int .i64 q.blocks.length)/\NO Z w cb rv fns (q.blocks++[(sl.length,q.code)]) w'/\w'.cell? ⟨w.heap.size,0,none⟩=some (.pointer (some ⟨cb,0,none⟩))):=eu (by
  intro W sp sn sc f2 bA;obtain⟨h,hr,hf,hl⟩:=HH.o;have f3:=F0.o.trans f2;have bq:=pM.o.lt;have bK:∀k,(Value.slice sp sn sc).ownBlock=some k->w.heap.size+2<=k:=λk hk=>by have:=bA.2 k hk;omega
  have hA:∀k,(k=w.heap.size\/k=w.heap.size+1)->k<W.heap.size/\k≠cb/\rv.ownBlock≠some k:=λk hk=>⟨by have:=f2.size;omega,by have:=h.Nr;omega,λe=>by have:=h.Ns k e;omega⟩
  have h3:=(h.qR f3).more hA;refine(UJ (q:=q) zvr h3 (Ou bA.1 (Kc _)) (λk hk=>⟨by have:=h.Nr;have:=bK k hk;omega,λe=>by have:=h.Ns k e;have:=bK k hk;omega,λe=>by
    have:=bK k hk;rcases e with e|e
    .have:=h.Ny k e;omega
    .omega⟩) (λW' bb bQ hb=>?_) hl).mono ?_
  .rw[iw.o.2.1];refine zrS HW.o (m:=names.length) iw.o.2.2 (gd (gd eR.o f2) bQ) (.inr (.inl rfl)) (gd (gd pM.o f2) bQ) (.inr (.inr rfl)) hb ((hr.qR (f3.trans bQ)).mono (λk _ hk=>.inl hk)) (by simp) (by simp[iw.o.2.2];omega) cV (λb2 cd h1 h2=>hf b2 cd h1 h2) aw
  .rintro r w6⟨rfl,Z',aO,z1,hc,f6,n6⟩;refine⟨rfl,zqn f3 (λk hk=>by have:=bK k hk;omega) (λk hk=>?_) hc f6 n6,?_⟩
   .rw[z1 k (Kl hk f3.size)];constructor
    .rintro(e|e)
     .exact e
     .omega
    .exact .inl
   .refine al (gd (gd eR.o f2) f6 ?_) 0;rintro(e|e|e)
    .have:=h.Nr;omega
    .have:=h.Ns _ e;omega
    .have:=bK _ e;omega)
 go_region_held3 (λW=>W.cell? ⟨w.heap.size,0,none⟩=some (.pointer (some ⟨cb,0,none⟩))) (first|assumption|go_keep) (first
  |(go_at_call 155;refine(WY _).mono ?_;rintro e wA⟨rfl,pj⟩;have FA:Hid (Fr (λ_=>False) w0 wA):=eu (by rw[pj];exact((eU _ _).drew).alloc _);have A1:Hid (oH wA w0.heap.size [.string ⟨#[]⟩] 9):=eu (by rw[pj];exact gH w0.drew [.string ⟨#[]⟩] 9);clear pj;have q2:wA.cell? ⟨w.heap.size,0,none⟩=some (.pointer (some ⟨cb,0,none⟩)):=al (gd eR.o FA.o) 0;
    have q5:(wA.alloc (.cells #[.slice (some ⟨w0.heap.size,0,none⟩) 1 1,.slice np nn nc] 38)).cell? ⟨w.heap.size,0,none⟩=some (.pointer (some ⟨cb,0,none⟩)):=al (mr (gd eR.o FA.o) _) 0)
  |(go_at_call 51;have f11:Fr (λ_=>False) wA (wA.alloc (.cells #[.slice (some ⟨w0.heap.size,0,none⟩) 1 1,.slice np nn nc] 38)):=(eU _ _).alloc _;refine(WV (gH wA [.slice (some ⟨w0.heap.size,0,none⟩) 1 1,.slice np nn nc] 38) (ztH (gd A1.o f11)) (mq HN.o (F0.o.trans (FA.o.trans f11))) (by simp;omega)).mono ?_;rintro r w2⟨sv,rfl,bA,f2⟩;have lF:Names _ w2 sv sl:=iw.o.1▸bA;obtain⟨sp,sn,sc,rfl⟩:=Jk bA;have F2:=eu (FA.o.trans (f11.trans f2));have um:=eu lF;have mo:=eu (yM FA.o.size f11.size);clear bA lF f2 f11;have q3:w2.cell? ⟨w.heap.size,0,none⟩=some (.pointer (some ⟨cb,0,none⟩)):=al (gd eR.o F2.o) 0)
  |(go_at_call 154;refine(AA.o _ _ _ _ F2.o (um.o.NB mo.o)).mono ?_;rintro r w6⟨rfl,hd,q6⟩;have HD:=eu hd;clear hd))
 all_goals
  go_wp2;go_ret;exact⟨rfl,HD.o⟩
theorem BS.ins{i:Ds}(h:BS Z w cb bb rv sv kv fns q)(f:Fr (KL cb bb rv sv kv) w w1)(z:∀k,k<w.heap.size->(Z1 k↔Z k))(hi:PS Z w v i):PS Z1 w1 v i:=
 hi.Ku f (λk _ hz=>h.zk k hz) (λk hk hz=>(z k hk).2 hz)
theorem Xm{c:Nat}{i:Ds}(h:BS Z w cb bb rv sv kv fns q)(hi:PS Z w v i)(hl:q.code.length+1<=1000000000):
  Calls prog 96 #[.pointer (some ⟨bb,0,none⟩),.int .i64 c,v] w λr w'=>r=.returned (.tuple #[])/\ES Z w cb bb rv sv kv fns (q.ends c i) w':=by
 obtain⟨t,x,rfl⟩:=zqA hi;have CW:=eu (Re (i:=.NG c) h rfl (by omega));have HH:=eu (kK h hi);clear h hi;go_enter func96,ntmps96;go_wp2_with fail;refine CW.o.mono ?_;rintro r w1⟨rfl,Z1,bh,bf,cA,z1,b1,f1,n1,n2,n3⟩;have CE:=eu (Re b1 (HH.o.1.ins f1 z1 HH.o.2) (by simp[Bs.write];omega));have X1:=eu (kK z1 (kK f1 (kK n1 (kK n2 n3))));clear CW z1 b1 f1 n1 n2 n3;go_wp2_with fail;refine CE.o.mono ?_;rintro r w2⟨rfl,hd⟩;have HE:=eu hd;clear hd CE;go_wp2
 first|go_end0|refine Ju rfl rfl ?_
 exact⟨rfl,kU X1.o.1 X1.o.2.1 X1.o.2.2.1 X1.o.2.2.2.1 X1.o.2.2.2.2 HE.o⟩
variable {blk:Nat}
theorem zqY(hW:Nw M N n){below:Nat}(h:BS Z w cb bb rv sv kv fns q)(hr:qU Z w n v e)(hn:Row Z w 9 1 nv names.length (strCells names))(IU:∀x∈names,x≠[]/\(Nu q.kD x=none->x∈fns))(aL:q.code.length+names.length+1<=1000000000)(aC:q.kD.length+names.length+1<=1000000000)(cW:fns.length<=1000000000)(hf:Fit M N fns ((q.J7 fns names).push (.wait blk)) e)(hb:below+names.length+1+(M+8)*Cp.wt N e<=1000000000:=by omega):
  Calls prog 90 #[.pointer (some ⟨bb,0,none⟩),v,nv,.int .i64 blk,.int .i64 below] w λr w'=>r=.returned (.tuple #[])/\ES Z w cb bb rv sv kv fns (Cp.work (Cp.free N) fns n e (below+names.length+1) ((q.J7 fns names).push (.wait blk))) w':=by
 obtain⟨t,x,rfl⟩:=JQ hr;obtain⟨np,nc,_,rfl,_⟩:=Pc hn.1;have CU:=eu (WL h hn IU (by omega) (by omega) cW);have HH:=eu (kK h (kK hr hf));have HW:=eu hW;have iC:below+names.length+1<=1000000000:=by omega
 have HB:=eu hb;have ul:=Uu fns names.reverse q;have eI:(q.J7 fns names).code.length<=1000000000:=by unfold Bs.J7;rw[ul.2.1,OO];omega
 have eN:(q.J7 fns names).kD.length<=1000000000:=by unfold Bs.J7;rw[ul.1,OO];omega
 obtain⟨qu,AI⟩:∃qu,q.J7 fns names=qu:=⟨_,rfl⟩;rw[AI]at CU HH eI eN|-;clear h hr hn IU hf hW hb ul AI aL aC;go_enter func90,ntmps90;go_wp2_with fail;refine CU.o.mono ?_;rintro r w1⟨rfl,Z1,bh,bf,cA,z1,b1,f1,n1,n2,n3⟩;obtain⟨h,hr,hf⟩:=HH.o;have CP:=eu (RJ (i:=.wait blk) b1 rfl eI eN);have X1:=eu (kK z1 (kK b1 (kK f1 (kK n1 (kK n2 n3)))));have Y1:=eu (h.rep f1 z1 hr);have HF:=eu hf;clear CU z1 b1 f1 n1 n2 n3 h hr hf HH;go_wp2_with fail;refine CP.o.mono ?_;rintro r w2⟨rfl,Z2,im,iq,ik,z1,b1,f1,n1,n2,n3⟩;have CK:=eu (HW.o (below:=below+names.length+1) b1 (X1.o.2.1.rep f1 z1 Y1.o) HF.o HB.o);have X2:=eu (kK z1 (kK f1 (kK n1 (kK n2 n3))));clear CP z1 b1 f1 n1 n2 n3;rw[show((below+names.length+1:Nat):Int)=(below:Int)+(names.length:Int)+1 by omega]at CK;go_wp2_with fail;refine CK.o.mono ?_;rintro r w3⟨rfl,hd⟩;have D3:=eu hd;clear hd CK;go_wp2
 first|go_end0|refine Ju rfl rfl ?_
 refine⟨rfl,?_⟩;obtain⟨z1,b1,f1,n1,n2,n3⟩:=X1.o;refine kU z1 f1 n1 n2 n3 ?_;obtain⟨z1,f1,n1,n2,n3⟩:=X2.o;exact kU z1 f1 n1 n2 n3 D3.o
def Tz (Z:Nat->Prop) (w:World) (cb bb:Nat) (rv sv kv:Value) (fns:List Cp.Nm) (q':Bs) (w':World) (nv:Value) (names:List Cp.Nm):Prop:=
 ∃Z' aO sv' bG,(∀k,k<w.heap.size->(Z' k↔Z k))/\BS Z' w' cb bb aO sv' bG fns q'/\Fr (KL cb bb rv sv kv) w w'/\Mv w rv aO/\Mv w sv sv'/\Mv w kv bG/\Row Z' w' 9 1 nv names.length (strCells names)
theorem NO.qR(f:Fr (λ_=>False) w w1)(d:NO Z w1 cb rv fns bl w2):NO Z w cb rv fns bl w2:=by obtain⟨Z',aO,h1,h2,h3,h4⟩:=d;refine⟨Z',aO,λk hk=>h1 k (Kl hk f.size),h2,(f.mono (λ_ x=>x.elim)).trans h3,kH (kq w rv) h4 f.size⟩
theorem BS.UU(h:BS Z w cb bb rv sv kv fns q)(f2:Fr (λ_=>False) w w2)(ay:Names w.heap.size w2 nv names):BS (λk=>Z k\/nv.ownBlock=some k) w2 cb bb rv sv kv fns q:=by
 have hs:=h.slt;have hk:=h.Pt;have hr:=h.Ns;have hb:=h.Kq.lt;have hc:=h.Nr;refine(h.qR f2).more (λk fy=>⟨(ay.1.lt k fy).2,?_⟩);have nO:=ay.2 k fy;rintro(e|e|e|e|e)
 .omega
 .omega
 .have:=hr k e;omega
 .have:=hs k e;omega
 .have:=hk k e;omega
variable {w3:World}
theorem zeM(h:BS Z w cb bb rv sv kv fns q)(f2:Fr (λ_=>False) w w2)(ay:Names w.heap.size w2 nv names)(hd:NO (λk=>Z k\/nv.ownBlock=some k) w2 cb rv fns bl w3):Tz Z w cb bb rv sv kv fns ⟨bl,q.kD,q.code⟩ w3 nv names:=by
 have hb:=h.UU f2 ay;obtain⟨Z',aO,sv',bG,z1,b1,f1,n1,n2,n3⟩:=hd.V3 hb;have af:Row (λk=>Z k\/nv.ownBlock=some k) w2 9 1 nv names.length (strCells names):=⟨ay.1,λk hk=>.inr hk⟩;refine⟨Z',aO,sv',bG,λk hk=>?_,b1,(f2.mono (λ_ x=>x.elim)).trans f1,kH (kq w rv) n1 f2.size,kH (kq w sv) n2 f2.size,kH (kq w kv) n3 f2.size,hb.row f1 z1 af⟩;rw[z1 k (Kl hk f2.size)];constructor
 .rintro(e|e)
  .exact e
  .have:=ay.2 k e;omega
 .exact .inl
theorem VT{w4:World}(h:BS Z w cb bb rv sv kv fns q)(f2:Fr (λ_=>False) w w2)(_hnv:Names w.heap.size w2 nv names)(f3:Fr (λ_=>False) w2 w3)(hd:NO (λk=>Z k\/nv.ownBlock=some k) w3.drew cb rv fns bl w4):
  oH w4 bb [.pointer (some ⟨cb,0,none⟩),sv,kv] 159/\∀k vs t,w2.heap.size<=k->oH w3 k vs t->oH w4 k vs t:=by
 have hc:=h.Nr;have hr:=h.Ns;have h2:=f2.size;obtain⟨Z',aO,z1,b1,f1,n1⟩:=hd;refine⟨gd (a:=w3.drew) (((h.qR f2).qR f3).Kq) f1 ?_,λk vs t hk hb=>gd (a:=w3.drew) hb f1 ?_⟩
 .rintro(e|e)
  .exact h.ne e.symm
  .exact h.rc.2 e
 .rintro(e|e)
  .omega
  .have:=hr k e;omega
variable {l:List Cp.Nm}
theorem U8(i0:TN t 226 (.agg #[.slice none 0 0,.nilIface]))(i1:TN t 219 (.agg #[.int .i64 0,.int .i64 0]))(h:BS Z w cb bb rv sv kv fns q)(ak:Calls prog 89 #[.iface t x] w λr w'=>∃v',r=.returned v'/\Names w.heap.size w' v' l/\Fr (λ_=>False) w w')(bu:names=Il q.kD l)(aL:l.length<=1000000)(aC:q.kD.length<=1000000000)(hc:∀W nv,Fr (λ_=>False) w W->Names w.heap.size W nv names->Calls prog 161 #[.pointer (some ⟨cb,0,none⟩),.iface t x,nv] W λr w'=>r=.returned (.int .i64 blk)/\NO (λk=>Z k\/nv.ownBlock=some k) W cb rv fns bl w'):
  Calls prog 165 #[.pointer (some ⟨bb,0,none⟩),.iface t x] w λr w'=>∃nv,r=.returned (.tuple #[.int .i64 blk,nv])/\Tz Z w cb bb rv sv kv fns ⟨bl,q.kD,q.code⟩ w' nv names:=by
 have CF:=eu ak;have HH:=eu h;have HC:=eu hc;have HN:=eu bu;clear h ak hc bu;go_enter func165,ntmps165;go_wp2_with fail;refine CF.o.mono ?_;rintro r w1⟨fv,rfl,bI,f1⟩;obtain⟨fa,fn,fc,rfl⟩:=Jk bI;have dN:=eu (Vi (HH.o.qR f1) bI aL aC);have F1:=eu f1;clear CF bI f1;go_wp2_with fail;refine dN.o.mono ?_;rintro r w2⟨nv,rfl,ay,f2⟩;rw[<-HN.o]at ay;obtain⟨na,nn,nc,rfl⟩:=OG ay;have F2:=eu (F1.o.trans f2);have cZ:Hid (Names w.heap.size w2 (.slice na nn nc) names):=eu (Ib (lP ay) F1.o.size);have b0:=al (HH.o.qR F2.o).Kq 0;simp at b0;have CA:=eu (HC.o w2 _ F2.o cZ.o);clear dN ay f2;go_wp2_with fail;refine CA.o.mono ?_;rintro r w3⟨rfl,hd⟩;have HD:=eu (zeM HH.o F2.o cZ.o hd);clear hd CA b0 i0 i1;go_wp2_with fail;refine mF (Jy rfl _ _ _) rfl ?_;exact⟨_,rfl,HD.o⟩
theorem zky(h:BS Z w cb bb rv sv kv fns q)(ak:Calls prog 89 #[.iface 226 (.agg #[.slice pp pn pc,.iface t x])] w λr w'=>∃v',r=.returned v'/\Names w.heap.size w' v' l/\Fr (λ_=>False) w w')(bu:names=Il q.kD l)(aL:l.length<=1000000)(aC:q.kD.length<=1000000000)(hc:∀W nv,Fr (λ_=>False) w W->Names w.heap.size W nv names->Calls prog 217 #[.pointer (some ⟨cb,0,none⟩),.agg #[.slice pp pn pc,.iface t x],nv] W λr w'=>r=.returned (.int .i64 blk)/\NO (λk=>Z k\/nv.ownBlock=some k) W cb rv fns bl w'):
  Calls prog 165 #[.pointer (some ⟨bb,0,none⟩),.iface 226 (.agg #[.slice pp pn pc,.iface t x])] w λr w'=>∃nv,r=.returned (.tuple #[.int .i64 blk,nv])/\Tz Z w cb bb rv sv kv fns ⟨bl,q.kD,q.code⟩ w' nv names:=by
 obtain⟨i0,-⟩:=Uj;have CF:=eu ak;have HH:=eu h;have HC:=eu hc;have HN:=eu bu;clear h ak hc bu;go_enter func165,ntmps165;go_wp2_with fail;refine CF.o.mono ?_;rintro r w1⟨fv,rfl,bI,f1⟩;obtain⟨fa,fn,fc,rfl⟩:=Jk bI;have dN:=eu (Vi (HH.o.qR f1) bI aL aC);have F1:=eu f1;clear CF bI f1;go_wp2_with fail;refine dN.o.mono ?_;rintro r w2⟨nv,rfl,ay,f2⟩;rw[<-HN.o]at ay;obtain⟨na,nn,nc,rfl⟩:=OG ay;have F2:=eu (F1.o.trans f2);have cZ:Hid (Names w.heap.size w2 (.slice na nn nc) names):=eu (Ib (lP ay) F1.o.size);have b0:=al (HH.o.qR F2.o).Kq 0;simp at b0;have f3:Fr (λ_=>False) w2 (w2.alloc (.cells #[.slice pp pn pc,.iface t x] 226)):=(eU _ _).alloc _;have CA:=eu (HC.o (w2.alloc (.cells #[.slice pp pn pc,.iface t x] 226)).drew _ ((F2.o.trans f3).drew) (cZ.o.qR f3.drew));have B3:=eu (gH w2 [.slice pp pn pc,.iface t x] 226);have F3:=eu f3;have b3:=al ((HH.o.qR F2.o).qR f3).Kq 0;simp at b3;clear dN ay f2 f3;go_wp2_with fail;generalize(w2.alloc (.cells #[.slice pp pn pc,.iface t x] 226))=w3 at CA B3 F3 b3|-;have p0:=al B3.o 0;have p1:=al B3.o 1;simp at p0 p1
 go_region_held3 (λW=>W.cell? ⟨w2.heap.size,0,none⟩=some (.slice pp pn pc)/\W.cell? ⟨w2.heap.size,1,none⟩=some (.iface t x)/\W.cell? ⟨bb,0,none⟩=some (.pointer (some ⟨cb,0,none⟩))) (first|(refine⟨?_,?_,?_⟩<;>assumption)|go_keep) (first
  |(go_at_call 217;refine CA.o.mono ?_;rintro r w4⟨rfl,hd⟩;have HD:=eu hd;have mL:=(VT HH.o F2.o cZ.o F3.o hd);have b4:=al mL.1 0;simp at b4;have r0:=al (mL.2 w2.heap.size _ _ (qP _) B3.o) 0;have r1:=al (mL.2 w2.heap.size _ _ (qP _) B3.o) 1;simp at r0 r1;clear hd mL))
 all_goals
  go_wp2_with fail;refine mF (Jy rfl _ _ _) rfl ?_;exact⟨_,rfl,zeM HH.o F2.o cZ.o (HD.o.qR F3.o.drew)⟩
theorem zmb{tag ar:Int}(h:BS Z w cb bb rv sv kv fns q)(ak:Calls prog 89 #[.iface 219 (.agg #[.int .i64 tag,.int .i64 ar])] w λr w'=>∃v',r=.returned v'/\Names w.heap.size w' v' l/\Fr (λ_=>False) w w')(bu:names=Il q.kD l)(aL:l.length<=1000000)(aC:q.kD.length<=1000000000)(hc:∀W nv,Fr (λ_=>False) w W->Names w.heap.size W nv names->Calls prog 218 #[.pointer (some ⟨cb,0,none⟩),.agg #[.int .i64 tag,.int .i64 ar]] W λr w'=>r=.returned (.int .i64 blk)/\NO (λk=>Z k\/nv.ownBlock=some k) W cb rv fns bl w'):
  Calls prog 165 #[.pointer (some ⟨bb,0,none⟩),.iface 219 (.agg #[.int .i64 tag,.int .i64 ar])] w λr w'=>∃nv,r=.returned (.tuple #[.int .i64 blk,nv])/\Tz Z w cb bb rv sv kv fns ⟨bl,q.kD,q.code⟩ w' nv names:=by
 obtain⟨i1,-,-,-,-,-,-,i0,-⟩:=Ta;have CF:=eu ak;have HH:=eu h;have HC:=eu hc;have HN:=eu bu;clear h ak hc bu;go_enter func165,ntmps165;go_wp2_with fail;refine CF.o.mono ?_;rintro r w1⟨fv,rfl,bI,f1⟩;obtain⟨fa,fn,fc,rfl⟩:=Jk bI;have dN:=eu (Vi (HH.o.qR f1) bI aL aC);have F1:=eu f1;clear CF bI f1;go_wp2_with fail;refine dN.o.mono ?_;rintro r w2⟨nv,rfl,ay,f2⟩;rw[<-HN.o]at ay;obtain⟨na,nn,nc,rfl⟩:=OG ay;have F2:=eu (F1.o.trans f2);have cZ:Hid (Names w.heap.size w2 (.slice na nn nc) names):=eu (Ib (lP ay) F1.o.size);have b0:=al (HH.o.qR F2.o).Kq 0;simp at b0;have f3:Fr (λ_=>False) w2 (w2.alloc (.cells #[.int .i64 tag,.int .i64 ar] 219)):=(eU _ _).alloc _;have CA:=eu (HC.o (w2.alloc (.cells #[.int .i64 tag,.int .i64 ar] 219)).drew _ ((F2.o.trans f3).drew) (cZ.o.qR f3.drew));have B3:=eu (gH w2 [.int .i64 tag,.int .i64 ar] 219);have F3:=eu f3;have b3:=al ((HH.o.qR F2.o).qR f3).Kq 0;simp at b3;clear dN ay f2 f3;go_wp2_with fail;generalize(w2.alloc (.cells #[.int .i64 tag,.int .i64 ar] 219))=w3 at CA B3 F3 b3|-;have p0:=al B3.o 0;have p1:=al B3.o 1;simp at p0 p1
 go_region_held3 (λW=>W.cell? ⟨w2.heap.size,0,none⟩=some (.int .i64 tag)/\W.cell? ⟨w2.heap.size,1,none⟩=some (.int .i64 ar)/\W.cell? ⟨bb,0,none⟩=some (.pointer (some ⟨cb,0,none⟩))) (first|(refine⟨?_,?_,?_⟩<;>assumption)|go_keep) (first
  |(go_at_call 218;refine CA.o.mono ?_;rintro r w4⟨rfl,hd⟩;have HD:=eu hd;have mL:=(VT HH.o F2.o cZ.o F3.o hd);have b4:=al mL.1 0;simp at b4;have r0:=al (mL.2 w2.heap.size _ _ (qP _) B3.o) 0;have r1:=al (mL.2 w2.heap.size _ _ (qP _) B3.o) 1;simp at r0 r1;clear hd mL))
 all_goals
  go_wp2_with fail;refine mF (Jy rfl _ _ _) rfl ?_;exact⟨_,rfl,zeM HH.o F2.o cZ.o (HD.o.qR F3.o.drew)⟩
end
end Go.Proofs.YtgahgkddaljmkaaGreatDoor
