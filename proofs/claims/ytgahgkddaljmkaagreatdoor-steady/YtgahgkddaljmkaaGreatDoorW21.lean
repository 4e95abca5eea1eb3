/- Cmp14 .. Cmp18 -/
import Derived.Test.YtgahgkddaljmkaaGreatDoorW20
import Derived.Lib.OwnBridge
set_option maxRecDepth 100000
set_option maxHeartbeats 4000000
namespace Go.Proofs.YtgahgkddaljmkaaGreatDoor
open Tryz
open Go.RowKit Go.Shelf
attribute [local go_sem ↓] Go.wp_at_zero Go.wp_at_succ
variable {w:World}
variable {g:Nat}
variable {l1:List (List UInt8)}
variable {S1:Nat->Prop}
theorem zpq{x:Value}(hb:Blk w g [x] 38)(hx:Row S1 w 9 1 x l1.length (strCells l1))(h1:l1.length<=1000000):
  Calls prog 72 #[.slice (some ⟨g,0,none⟩) 1 1] w fun e w'=>∃ v,e=.returned v/\w'.ownsRow w.heap.size 9 1 v l1.length (strCells l1)/\Below w.heap.size w w':=by
 have hl:=hb.lt;have H:=zab hb;have c0:=Blk.cell hb 0;simp at c0;have HX:=zab hx;have oc:=zan hx;clear hb hx;have cX:Hid (x=.slice none 0 0->l1.length=0):=zab (fun h=>by
  rcases HX.o.1.2 with ⟨_,h0⟩|⟨_,_,_,h0,_⟩
  ·exact h0
  ·rw[h]at h0;cases h0)
 obtain ⟨xa,n1,xc,rfl,cR⟩:∃ xa n1 xc,x=.slice xa n1 xc/\n1=l1.length:=by
  rcases oc with h|⟨g1,c1,h⟩
  ·exact ⟨_,_,_,h,(cX.o h).symm⟩
  ·exact ⟨_,_,_,h,rfl⟩
 have xM:n1<=1000000:=by omega
 have HN:=zab cR;clear cR oc h1 cX;go_enter func72,ntmps72
 go_wp2_with fail
 refine wp_loop_rounds 2 ?_;rw[rounds_succ];go_wp2_with fail
 rw[rounds_succ];go_wp2_with fail
 have pY:=zqx w n1 (by omega);refine pY.mono ?_;clear pY;rintro e w1 ⟨v,rfl,ai,hb⟩;have d0:w1.cell? ⟨g,0,none⟩=some (.slice xa n1 xc):=(World.cell?_of_block (hb.block g hl)).trans c0;have HO:Hid (w1.ownsRow w.heap.size 9 1 v ([]:List (List UInt8)).length (strCells [])):=zab ai;have kM:=HX.o.gb (zaf none hb) (by simp);have Hb:=zab hb;have cT:=hb.size;rcases zan (Row.zaE ai) with rfl|⟨g2,fI,rfl⟩
 all_goals
  clear ai hb c0;go_wp2_with fail
  refine wp_loop_rounds 2 ?_;rw[rounds_succ];go_wp2_with (at_builtin;refine zfG rfl _ _ rfl rfl rfl HO.o kM (by simp) (by have:=HN.o;omega) (by omega) ?_;intro v2 w2 bB fL)
  have HG:Hid (w.grownBy w2 none):=zab (zjh (zaf none Hb.o) HO.o fL);rw[zzb]at bB;have mA:=zab bB;have aI:=zan (Row.zaE bB);clear fL bB d0 kM HO;rcases aI with rfl|⟨g3,wq,rfl⟩
  all_goals
   rw[rounds_succ];go_wp2_with fail
   go_ret
   exact ⟨_,rfl,mA.o,zbk HG.o⟩
variable {v:Value}
variable {l:List Cp.Nm}
theorem zjI{B:Nat}{w0:World}(h:w.ownsRow B 9 1 v l.length (strCells l))(hl:l.length<=1000000)(hb:Below B w0 w):
  Calls prog 86 #[v] w fun e w'=>e=.returned (.tuple #[])/\w'.ownsRow B 9 1 v l.reverse.length (strCells l.reverse)/\Below B w0 w':=by
 rcases zan (Row.zaE h) with rfl|⟨g,cap,rfl⟩
 ·refine (Tryz.slices_Reverse_string_empty none 0 w).mono ?_;rintro e w' ⟨rfl,rfl⟩;have h0:l=[]:=by
   rcases h.2 with ⟨_,h0⟩|⟨_,_,_,h0,_⟩
   ·exact zzn.1 h0
   ·cases h0
  subst h0;exact ⟨rfl,h,hb⟩
 ·have h':w.ownsRow B 9 1 (.slice (some ⟨g,0,none⟩) l.length cap) l.length (l.map encStr):=h;obtain ⟨g',dU,he,hg,aj,hn,hm,hz,hH⟩:=Go.Lib.holds_of_ownsRow h' (by simp);cases he;refine (Tryz.slices_Reverse_string g 0 cap l w hH (by omega)).mono ?_;rintro e w' ⟨rfl,n,rfl⟩;refine ⟨rfl,?_,Go.Lib.below_putRow hb hg⟩;have:=Go.Lib.ownsRow_putRow (q:=n) (k:=l.length) (ys:=l.reverse) h' (by simp) (zyN _);rw[zy9 (by simp)]at this;rw[zy4];exact this
theorem zlp{x:Value}(hb:Blk w g [x] 38)(hx:Row S1 w 9 1 x l1.length (strCells l1))(h1:l1.length<=1000000):
  Calls prog 51 #[.slice (some ⟨g,0,none⟩) 1 1] w fun e w'=>∃ v,e=.returned v/\Names w.heap.size w' v (l1).reverse/\Fr (fun _=>False) w w':=by
 have CC:=zab (zpq hb hx h1);clear hb hx;go_enter func51,ntmps51
 go_wp2_with fail
 refine CC.o.mono ?_;clear CC;rintro e w1 ⟨v,rfl,ai,dw⟩;obtain ⟨va,vn,vc,rfl⟩:=zaF ai;have CR:=zab (zjI ai h1 dw);clear ai dw;go_wp2_with fail
 refine CR.o.mono ?_;clear CR;rintro e w2 ⟨rfl,ai,dw⟩;have HO:=zab ai;have HB:=zab dw;clear ai dw;go_wp2_with fail
 go_ret
 exact ⟨_,rfl,Row.zaE HO.o,Fr.below HB.o⟩
theorem zdR{x y:Value}{l2:List (List UInt8)}{S2:Nat->Prop}(hb:Blk w g [x,y] 38)(hx:Row S1 w 9 1 x l1.length (strCells l1))(hy:Row S2 w 9 1 y l2.length (strCells l2))(h1:l1.length+l2.length<=1000000):
  Calls prog 51 #[.slice (some ⟨g,0,none⟩) 2 2] w fun e w'=>∃ v,e=.returned v/\Names w.heap.size w' v (l1++l2).reverse/\Fr (fun _=>False) w w':=by
 have CC:=zab (zlj hb hx hy (by omega) (by omega));clear hb hx hy;go_enter func51,ntmps51
 go_wp2_with fail
 refine CC.o.mono ?_;clear CC;rintro e w1 ⟨v,rfl,ai,dw⟩;obtain ⟨va,vn,vc,rfl⟩:=zaF ai;have CR:=zab (zjI ai (by rw[zyT];exact h1) dw);clear ai dw;go_wp2_with fail
 refine CR.o.mono ?_;clear CR;rintro e w2 ⟨rfl,ai,dw⟩;have HO:=zab ai;have HB:=zab dw;clear ai dw;go_wp2_with fail
 go_ret
 exact ⟨_,rfl,Row.zaE HO.o,Fr.below HB.o⟩
end Go.Proofs.YtgahgkddaljmkaaGreatDoor
namespace Go.Proofs.YtgahgkddaljmkaaGreatDoor
open Tryz
open Go.RowKit
theorem Rep.frz{Z Z' K:Nat->Prop}{w w':World}{n:Nat}{v:Value}{e:Th.Ex}(h:Rep Z w n v e)(f:Fr K w w')(hK:∀ k,k<w.heap.size->Z k->¬ K k)(hZ:∀ k,k<w.heap.size->Z k->Z' k):Rep Z' w' n v e:=
 Rep.imp (fun _ _ _ _ _ hR=>hR.frz f hK hZ) n v e h
structure CS (Z:Nat->Prop) (w:World) (cb:Nat) (rv:Value) (fns:List Cp.Nm) (bl:List (Nat × List Ins)):Prop where
 zkt:∃ fv,Blk w cb [fv,rv] 86/\Row Z w 9 1 fv fns.length (strCells fns)
 zkI:∃ cP,cP.length=bl.length/\w.ownsRow 0 96 2 rv bl.length (zaz bl cP)/\∀ (i:Nat) (b:Nat × List Ins) (cv:Value),bl[i]?=some b->cP[i]?=some cv->zir Z w cv b.2
 zlt:∀ k,Z k->k<w.heap.size
 zk:∀ k,Z k->k≠cb/\rv.ownBlock≠some k
 rc:rv.ownBlock≠some cb
variable {Z:Nat->Prop}
variable {w:World}
variable {cb bb:Nat}
variable {rv sv kv:Value}
variable {fns:List Cp.Nm}
variable {q:Cp.Bs}
theorem BS.cs(h:BS Z w cb bb rv sv kv fns q):CS Z w cb rv fns q.blocks:=
 ⟨h.zkt,h.zkI,h.zlt,fun k hk=>⟨fun e=>h.zk k hk (.inl e),fun e=>h.zk k hk (.inr (.inr (.inl e)))⟩,h.rc.1⟩
variable {bl:List (Nat × List Ins)}
theorem CS.clt(h:CS Z w cb rv fns bl):cb<w.heap.size:=by obtain ⟨fv,h1,_⟩:=h.zkt;exact h1.lt
theorem CS.rlt(h:CS Z w cb rv fns bl):∀ k,rv.ownBlock=some k->k<w.heap.size:=by obtain ⟨cP,_,h2,_⟩:=h.zkI;exact fun k hk=>(h2.lt k hk).2
variable {K:Nat->Prop}
variable {w':World}
theorem CS.frk(h:CS Z w cb rv fns bl)(f:Fr K w w')(hK:∀ k,Z k\/k=cb\/rv.ownBlock=some k->¬ K k):CS Z w' cb rv fns bl:=by
 obtain ⟨fv,bH,bT⟩:=h.zkt;obtain ⟨cP,dd,cg,jc⟩:=h.zkI;have hz:∀ k,k<w.heap.size->Z k->¬ K k:=fun k _ hk=>hK k (.inl hk)
 exact ⟨⟨fv,Fr.blk bH f (hK cb (.inr (.inl rfl))),bT.frz f hz (fun _ _ x=>x)⟩,⟨cP,dd,f.gb cg (fun k hk=>hK k (.inr (.inr hk))),fun i b cv h1 h2=>(jc i b cv h1 h2).frz f hz (fun _ _ x=>x)⟩,fun k hk=>zyS (h.zlt k hk) f.size,h.zk,h.rc⟩
theorem BS.frk{Z K:Nat->Prop}{w w':World}{cb bb:Nat}{rv sv kv:Value}{fns:List Cp.Nm}{q:Cp.Bs}(h:BS Z w cb bb rv sv kv fns q)(f:Fr K w w')(hK:∀ k,Z k\/KL cb bb rv sv kv k->¬ K k):BS Z w' cb bb rv sv kv fns q:=by
 have hc:=h.cs.frk f (fun k hk=>hK k (by
  rcases hk with hk|hk|hk
  ·exact .inl hk
  ·exact .inr (.inl hk)
  ·exact .inr (.inr (.inr (.inl hk)))))
 obtain ⟨vs,cK,aG⟩:=h.znV;exact ⟨hc.zkt,Fr.blk h.zbY f (hK bb (.inr (.inr (.inl rfl)))),hc.zkI,f.gb h.ziW (fun k hk=>hK k (.inr (.inr (.inr (.inr (.inl hk)))))),⟨vs,f.gb cK (fun k hk=>hK k (.inr (.inr (.inr (.inr (.inr hk)))))),aG.frz f (fun k _ hk=>hK k (.inl hk)) (fun _ _ x=>x)⟩,hc.zlt,h.zk,h.ne,h.rc,h.sc,h.kc,h.rs,h.rk,h.sk⟩
theorem CS.fr0(h:CS Z w cb rv fns bl)(f:Fr (fun _=>False) w w'):CS Z w' cb rv fns bl:=h.frk f (by simp)
theorem CS.more{A:Nat->Prop}(h:CS Z w cb rv fns bl)(hA:∀ k,A k->k<w.heap.size/\k≠cb/\rv.ownBlock≠some k):CS (fun k=>Z k\/A k) w cb rv fns bl:=by
 obtain ⟨fv,bH,bT⟩:=h.zkt;obtain ⟨cP,dd,cg,jc⟩:=h.zkI;refine ⟨⟨fv,bH,bT.frz (Fr.refl (fun _=>False) _) (by simp) (fun _ _ x=>.inl x)⟩,⟨cP,dd,cg,fun i b cv h1 h2=>(jc i b cv h1 h2).frz (Fr.refl (fun _=>False) _) (by simp) (fun _ _ x=>.inl x)⟩,?_,?_,h.rc⟩
 ·rintro k (hk|hk)
  ·exact h.zlt k hk
  ·exact (hA k hk).1
 ·rintro k (hk|hk)
  ·exact h.zk k hk
  ·exact (hA k hk).2
theorem BS.more{Z A:Nat->Prop}{w:World}{cb bb:Nat}{rv sv kv:Value}{fns:List Cp.Nm}{q:Cp.Bs}(h:BS Z w cb bb rv sv kv fns q)(hA:∀ k,A k->k<w.heap.size/\¬ KL cb bb rv sv kv k):BS (fun k=>Z k\/A k) w cb bb rv sv kv fns q:=by
 have hc:=h.cs.more (A:=A) (fun k hk=>⟨(hA k hk).1,fun e=>(hA k hk).2 (.inl e),fun e=>(hA k hk).2 (.inr (.inr (.inl e)))⟩);obtain ⟨vs,cK,aG⟩:=h.znV;refine ⟨hc.zkt,h.zbY,hc.zkI,h.ziW,⟨vs,cK,aG.frz (Fr.refl (fun _=>False) _) (by simp) (fun _ _ x=>.inl x)⟩,hc.zlt,?_,h.ne,h.rc,h.sc,h.kc,h.rs,h.rk,h.sk⟩;rintro k (hk|hk)
 ·exact h.zk k hk
 ·exact (hA k hk).2
variable {sl:List Cp.Nm}
theorem CS.bs(h:CS Z w cb rv fns bl)(hb:Blk w bb [.pointer (some ⟨cb,0,none⟩),sv,.slice none 0 0] 159)(hs:w.ownsRow 0 9 1 sv sl.length (strCells sl))(h1:bb≠cb/\rv.ownBlock≠some bb/\¬ Z bb)(h2:∀ k,sv.ownBlock=some k->k≠cb/\k≠bb/\rv.ownBlock≠some k/\¬ Z k):BS Z w cb bb rv sv (.slice none 0 0) fns ⟨bl,sl,[]⟩:=by
 refine ⟨h.zkt,hb,h.zkI,hs,⟨[],World.ownsRow_nil _ _ _ _,rfl,by simp⟩,h.zlt,?_,fun e=>h1.1 e.symm,⟨h.rc,h1.2.1⟩,⟨fun e=>(h2 cb e).1 rfl,fun e=>(h2 bb e).2.1 rfl⟩,⟨by simp[Value.ownBlock],by simp[Value.ownBlock]⟩,fun k hk e=>(h2 k e).2.2.1 hk,by simp[Value.ownBlock],by simp[Value.ownBlock]⟩;rintro k hk (e|e|e|e|e)
 ·exact (h.zk k hk).1 e
 ·exact h1.2.2 (e ▸ hk)
 ·exact (h.zk k hk).2 e
 ·exact (h2 k e).2.2.2 hk
 ·cases e
def zfH (Z:Nat->Prop) (w:World) (cb:Nat) (rv:Value) (fns:List Cp.Nm) (bl:List (Nat × List Ins)) (w':World):Prop:=
 ∃ Z' aO,(∀ k,k<w.heap.size->(Z' k↔Z k))/\CS Z' w' cb aO fns bl/\Fr (fun k=>k=cb\/rv.ownBlock=some k) w w'/\New w rv aO
theorem zfH.did(d:zfH Z w cb rv fns bl w')(h:BS Z w cb bb rv sv kv fns q):Did Z w cb bb rv sv kv fns ⟨bl,q.zac,q.code⟩ w':=by
 obtain ⟨Z',aO,e1,e2,e3,e4⟩:=d;obtain ⟨vs,cK,aG⟩:=h.znV;have hs:=h.slt;have hk:=h.klt;have cV:=h.zbY.lt;have hm:∀ k,k=cb\/rv.ownBlock=some k->KL cb bb rv sv kv k:=fun k hk=>by
  rcases hk with hk|hk
  ·exact .inl hk
  ·exact .inr (.inr (.inl hk))
 have iJ:¬ (bb=cb\/rv.ownBlock=some bb):=by
  rintro (e|e)
  ·exact h.ne e.symm
  ·exact h.rc.2 e
 have xR:∀ k,sv.ownBlock=some k->¬ (k=cb\/rv.ownBlock=some k):=by
  rintro k e1 (e|e)
  ·exact h.sc.1 (e ▸ e1)
  ·exact h.rs k e e1
 have xO:∀ k,kv.ownBlock=some k->¬ (k=cb\/rv.ownBlock=some k):=by
  rintro k e1 (e|e)
  ·exact h.kc.1 (e ▸ e1)
  ·exact h.rk k e e1
 refine ⟨Z',aO,sv,kv,e1,⟨e2.zkt,Fr.blk h.zbY e3 iJ,e2.zkI,e3.gb h.ziW xR,⟨vs,e3.gb cK xO,aG.frz e3 ?_ (fun k hk hz=>(e1 k hk).2 hz)⟩,e2.zlt,?_,h.ne,⟨e2.rc,?_⟩,h.sc,h.kc,?_,?_,h.sk⟩,e3.mono hm,e4,New.refl _ _,New.refl _ _⟩
 ·exact fun k _ hz he=>h.zk k hz (hm k he)
 ·rintro k hz (e|e|e|e|e)
  ·exact (e2.zk k hz).1 e
  ·subst e;exact h.zk k ((e1 k cV).1 hz) (.inr (.inl rfl))
  ·exact (e2.zk k hz).2 e
  ·exact h.zk k ((e1 k (hs k e)).1 hz) (.inr (.inr (.inr (.inl e))))
  ·exact h.zk k ((e1 k (hk k e)).1 hz) (.inr (.inr (.inr (.inr e))))
 ·intro e;rcases e4 bb e with e|e
  ·exact h.rc.2 e
  ·omega
 ·intro k e e';rcases e4 k e with e|e
  ·exact h.rs k e e'
  ·have:=hs k e';omega
 ·intro k e e';rcases e4 k e with e|e
  ·exact h.rk k e e'
  ·have:=hk k e';omega
theorem BS.done(h:BS Z w cb bb rv sv kv fns q):CS (fun k=>Z k\/kv.ownBlock=some k) w cb rv fns q.blocks/\zir (fun k=>Z k\/kv.ownBlock=some k) w kv q.code:=by
 obtain ⟨vs,cK,aG⟩:=h.znV;refine ⟨h.cs.more (A:=fun k=>kv.ownBlock=some k) (fun k hk=>⟨h.klt k hk,fun e=>h.kc.1 (e ▸ hk),fun e=>h.rk k e hk⟩),vs,⟨cK,fun k hk=>.inr hk⟩,aG.frz (Fr.refl (fun _=>False) _) (by simp) (fun _ _ x=>.inl x)⟩
end Go.Proofs.YtgahgkddaljmkaaGreatDoor
namespace Go.Proofs.YtgahgkddaljmkaaGreatDoor
open Tryz
open Go.RowKit Go.Shelf
attribute [local go_sem ↓] Go.wp_at_zero Go.wp_at_succ
def WrOK (Z:Nat->Prop) (w:World) (cb:Nat) (rv sv:Value) (fns sl:List Cp.Nm) (bl:List (Nat × List Ins)) (gf:Nat) (lb:Array Value) (q:Cp.Bs):Prop:=
 ∀ W bb,Fr (fun _=>False) w W->BS Z W cb bb rv sv (.slice none 0 0) fns ⟨bl,sl,[]⟩->Calls prog gf (#[.pointer (some ⟨bb,0,none⟩)]++lb) W fun e w'=>e=.returned (.tuple #[])/\Did Z W cb bb rv sv (.slice none 0 0) fns q w'
variable {Z:Nat->Prop}
variable {w:World}
variable {cb:Nat}
variable {rv sv:Value}
variable {fns sl:List Cp.Nm}
variable {bl:List (Nat × List Ins)}
variable {q:Cp.Bs}
theorem znu{gf:Nat}{lb:Array Value}(eg:∀ args w,(callFunc gf args).run prog w=.ok (.enter gf args) w)(h:CS Z w cb rv fns bl)(hs:w.ownsRow 0 9 1 sv sl.length (strCells sl))(bA:∀ k,sv.ownBlock=some k->k≠cb/\rv.ownBlock≠some k/\¬ Z k)(hw:WrOK Z w cb rv sv fns sl bl gf lb q):
  Calls prog 50 #[.pointer (some ⟨cb,0,none⟩),sv,.func (.func gf) #[] lb] w fun e w'=>∃ Z' bb aO sv' bG,e=.returned (.agg #[.int .i64 sl.length,bG])/\(∀ k,k<w.heap.size->(Z' k↔Z k))/\BS Z' w' cb bb aO sv' bG fns q /\
   Fr (fun k=>k=cb\/rv.ownBlock=some k\/sv.ownBlock=some k) w w'/\New w rv aO/\(∀ k,bG.ownBlock=some k->w.heap.size<=k):=by
 obtain ⟨sp,sc,sg,rfl,_⟩:=zaO hs;have aj:∀ k,(Value.slice sp sl.length sc).ownBlock=some k->k<w.heap.size:=fun k hk=>(hs.lt k hk).2
 have f0:Fr (fun _=>False) w ((w.alloc (.cells #[.int .i64 0,.slice none 0 0] 96)).alloc (.cells #[.pointer (some ⟨cb,0,none⟩),.slice sp sl.length sc,.slice none 0 0] 159)):=((Fr.refl _ _).alloc _).alloc _;have hB:=Blk.new (w.alloc (.cells #[.int .i64 0,.slice none 0 0] 96)) [.pointer (some ⟨cb,0,none⟩),.slice sp sl.length sc,.slice none 0 0] 159;have hR:=Blk.alloc (Blk.new w [.int .i64 0,.slice none 0 0] 96) (.cells #[.pointer (some ⟨cb,0,none⟩),.slice sp sl.length sc,.slice none 0 0] 159);rw[World.size_alloc]at hB;have aN:=h.clt;have bd:=h.rlt;have pr:=h.zlt;have gG:=CS.bs (bb:=w.heap.size+1) (h.fr0 f0) hB (zhO hs f0 (by simp)) ⟨by omega,fun e=>by have:=bd _ e;omega,fun e=>by have:=pr _ e;omega⟩ (fun k hk=>⟨(bA k hk).1,by have:=aj k hk;omega,(bA k hk).2⟩);have CW:=zab (hw _ _ f0 gG);have HR:=zab hR;have F0:=zab f0;have HF:=zab (And.intro aN (And.intro bd (And.intro pr aj)));have EG:=eg;clear h hs bA hw aj f0 hB hR aN bd pr gG eg;go_enter func50,ntmps50
 go_wp2_with fail
 refine CW.o.mono ?_;rintro e w1 ⟨rfl,Z',aO,sv',bG,z1,gG,f1,n1,n2,n3⟩;obtain ⟨FI,sC,_⟩:=gG.znV;obtain ⟨kp,kn,kc,rfl⟩:=zaF sC;have sL:¬ KL cb (w.heap.size+1) rv (.slice sp sl.length sc) (.slice none 0 0) w.heap.size:=by
  obtain ⟨a1,a2,_,a3⟩:=HF.o;rintro (e|e|e|e|e)
  ·omega
  ·omega
  ·have:=a2 _ e;omega
  ·have:=a3 _ e;omega
  ·cases e
 have nI:=Fr.blk HR.o f1 sL;have r0:=Blk.cell nI 0;have r1:=Blk.cell nI 1;have z0:=Blk.frozen nI 0;have z2:=Blk.frozen nI 1;have b2:=Blk.cell gG.zbY 2;simp at r0 r1 b2;have Cv:=zab nI;have BF:=zab (And.intro gG (And.intro f1 (And.intro n1 (And.intro n2 (And.intro n3 (And.intro sL z1))))));clear gG f1 n1 n2 n3 sC nI CW HR sL z1;go_wp2_with fail
 have hq:=(Blk.set Cv.o 0 (.int .i64 sl.length)).set 1 (.slice kp kn kc);refine bodyPost_ret (results_cell_row rfl _ _ w.heap.size _ _ _ _ rfl hq underlying96 rfl (by kernel_rfl)) rfl ?_;obtain ⟨gG,f1,n1,n2,n3,sL,z1⟩:=BF.o;obtain ⟨a1,a2,a4,a3⟩:=HF.o;have iP:=F0.o.size;have lz:w.heap.size<((w.alloc (.cells #[.int .i64 0,.slice none 0 0] 96)).alloc (.cells #[.pointer (some ⟨cb,0,none⟩),.slice sp sl.length sc,.slice none 0 0] 159)).heap.size:=by rw[World.size_alloc,World.size_alloc];omega
 refine ⟨Z',w.heap.size+1,aO,sv',.slice kp kn kc,rfl,fun k hk=>(z1 k (zyS hk iP)),gG.frk (((Fr.refl (fun k=>k=w.heap.size) _).set _ _ (.inl rfl)).set _ _ (.inl rfl)) ?_,?_,?_,?_⟩
 ·rintro k (hk|hk) rfl
  ·have:=a4 _ ((z1 _ lz).1 hk);omega
  ·exact sL (KL.new hk n1 n2 n3 lz)
 ·refine Fr.set (Fr.set ?_ _ _ (.inr (zyN _))) _ _ (.inr (zyN _));refine ⟨f1.os.trans F0.o.os,f1.tape.trans F0.o.tape,f1.output.trans F0.o.output,zyR iP f1.size,fun i hi hK=>(f1.block i (zyS hi iP) (fun hn=>hK ?_)).trans (F0.o.block i hi (by simp))⟩;rcases hn with e|e|e|e|e
  ·exact .inl e
  ·omega
  ·exact .inr (.inl e)
  ·exact .inr (.inr e)
  ·cases e
 ·exact New.trans (New.refl w rv) n1 iP
 ·intro k hk;rcases n3 k hk with e|e
  ·cases e
  ·exact zyR iP e
theorem znT:(prog.info? 96).map (fun i=>(i.zero,i.size,i.bytes))=some (some (.agg #[.int .i64 0,.slice none 0 0]),2,32):=by kernel_rfl
theorem zgN:∀ (l:List (Nat × List Ins)) (vs:List Value) (b:Nat × List Ins) (v:Value),vs.length=l.length->zaz (l++[b]) (vs++[v])=zaz l vs++[.int .i64 b.1,v]
 |[],[],_,_,_=>rfl
 |x::l,y::vs,b,v,h=>by
  simp only[zy7,zaz];rw[zgN l vs b v (by simpa using h)];simp
 |[],_::_,_,_,h=>by simp at h
 |_::_,[],_,_,h=>by simp at h
variable {g m:Nat}
variable {kv:Value}
theorem CS.added{a w3:World}{cap:Nat}{c:List Ins}{cP:List Value}(h:CS Z w cb rv fns bl)(hc:zir Z w kv c)(iW:cP.length=bl.length)(El:∀ (i:Nat) (b:Nat × List Ins) (cv:Value),bl[i]?=some b->cP[i]?=some cv->zir Z w cv b.2)(fa:Fr (fun _=>False) w a)(ai:w3.ownsRow 0 96 2 (.slice (some ⟨g,0,none⟩) (bl.length+1) cap) (bl.length+1) (zaz bl cP++[.int .i64 m,kv]))(ah:a.grownBy w3 rv.ownBlock)(aV:rv.ownBlock=some g\/w.heap.size<=g):
  (w3.cell? ⟨cb,1,none⟩=some rv/\w3.frozen? ⟨cb,1,none⟩=false)/\CS Z (w3.setCell ⟨cb,1,none⟩ (.slice (some ⟨g,0,none⟩) (bl.length+1) cap)) cb (.slice (some ⟨g,0,none⟩) (bl.length+1) cap) fns (bl++[(m,c)]) /\
   Fr (fun k=>k=cb\/rv.ownBlock=some k) w (w3.setCell ⟨cb,1,none⟩ (.slice (some ⟨g,0,none⟩) (bl.length+1) cap))/\New w rv (.slice (some ⟨g,0,none⟩) (bl.length+1) cap):=by
 obtain ⟨fv,bH,bT⟩:=h.zkt;have aN:=bH.lt;have gm:Blk a cb [fv,rv] 86:=Fr.blk bH fa (by simp);have bD:=gm.grown ah (fun e=>h.rc e.symm);have so:g≠cb:=by
  rcases aV with e|e
  ·intro e2;subst e2;exact h.rc e
  ·omega
 have f0:Fr (fun k=>k=cb\/rv.ownBlock=some k) w (w3.setCell ⟨cb,1,none⟩ (.slice (some ⟨g,0,none⟩) (bl.length+1) cap)):=
  ((fa.mono (fun _ x=>x.elim)).zjj ah (fun k _ e=>.inr e)).set _ _ (.inl (.inl rfl))
 have hz:∀ k,k<w.heap.size->Z k->¬ (k=cb\/rv.ownBlock=some k):=fun k _ hk he=>by
  rcases he with e|e
  ·exact (h.zk k hk).1 e
  ·exact (h.zk k hk).2 e
 have nk:New w rv (.slice (some ⟨g,0,none⟩) (bl.length+1) cap):=by
  intro k hk;simp only[Value.ownBlock,zyP]at hk;rcases aV with e|e
  ·exact .inl (by rw[e,hk])
  ·exact .inr (by omega)
 refine ⟨⟨by simpa using Blk.cell bD 1,Blk.frozen bD 1⟩,⟨⟨fv,bD.set 1 _,bT.frz f0 hz (fun _ _ x=>x)⟩,⟨cP++[kv],by simp[iW],?_,?_⟩,fun k hk=>zyS (h.zlt k hk) f0.size,?_,?_⟩,f0,nk⟩
 ·have f3:Fr (fun k=>k=cb) w3 (w3.setCell ⟨cb,1,none⟩ (.slice (some ⟨g,0,none⟩) (bl.length+1) cap)):=(Fr.refl _ _).set _ _ (.inl rfl);rw[zyT,zy0,zgN _ _ _ _ iW];exact f3.gb ai (fun k hk=>by simp only[Value.ownBlock,zyP]at hk;omega)
 ·intro i b cv hi hv;rw[zzj]at hi hv;by_cases aj:i<bl.length
  ·rw[if_pos aj]at hi;rw[if_pos (by rw[iW];exact aj)]at hv;exact (El i b cv hi hv).frz f0 hz (fun _ _ x=>x)
  ·rw[if_neg aj]at hi;rw[if_neg (by rw[iW];exact aj),iW]at hv;have h1:i-bl.length=0:=by
    have:=(zyL.1 hi).1;simp at this;omega
   rw[h1]at hi hv;simp only[zzl,zyP]at hi hv;rw[<-hi,<-hv];exact hc.frz f0 hz (fun _ _ x=>x)
 ·intro k hk;refine ⟨(h.zk k hk).1,fun e=>?_⟩;rcases nk k e with e|e
  ·exact (h.zk k hk).2 e
  ·have:=h.zlt k hk;omega
 ·intro e;simp only[Value.ownBlock,zyP]at e;exact so e
theorem zgi{gf:Nat}{lb:Array Value}(eg:∀ args w,(callFunc gf args).run prog w=.ok (.enter gf args) w)(h:CS Z w cb rv fns bl)(hs:w.ownsRow 0 9 1 sv sl.length (strCells sl))(bA:∀ k,sv.ownBlock=some k->k≠cb/\rv.ownBlock≠some k/\¬ Z k)(hw:WrOK Z w cb rv sv fns sl bl gf lb q)(hl:q.blocks.length<=1000000000):
  Calls prog 154 #[.pointer (some ⟨cb,0,none⟩),sv,.func (.func gf) #[] lb] w fun e w'=>e=.returned (.int .i64 q.blocks.length)/\∃ Z' aO,(∀ k,k<w.heap.size->(Z' k↔Z k))/\CS Z' w' cb aO fns (q.blocks++[(sl.length,q.code)]) /\
   Fr (fun k=>k=cb\/rv.ownBlock=some k\/sv.ownBlock=some k) w w'/\New w rv aO:=by
 obtain ⟨i0,dt,bq,aP,bF⟩:=info_parts znT;have HI:=zab dt;clear dt;have HZ:=zab (And.intro bq (And.intro aP bF));clear bq aP bF;obtain ⟨sp,sn,sc,rfl⟩:=zaF hs;have CB:=zab (znu eg h hs bA hw);clear h hs bA hw eg;go_enter func154,ntmps154
 go_wp2_with fail
 refine CB.o.mono ?_;rintro e w1 ⟨Z',bb,aO,sv',bG,rfl,z1,gG,f1,n1,n2⟩;obtain ⟨aE,jF⟩:=gG.done;obtain ⟨FI,sC,_⟩:=gG.znV;obtain ⟨kp,kn,kc,rfl⟩:=zaF sC;obtain ⟨fv,bH,_⟩:=aE.zkt;obtain ⟨cP,dd,cg,jc⟩:=aE.zkI;obtain ⟨ra,rn,rc,rfl⟩:=zaF cg;have oT:=Blk.cell bH 1;simp at oT;have aN:w1.heap.size≠cb:=by have:=bH.lt;omega
 have a1:(w1.alloc (.cells #[.int .i64 sl.length,.slice kp kn kc] 96)).cell? ⟨cb,1,none⟩=some (.slice ra rn rc):=by
  simpa using Blk.cell (Blk.alloc bH (.cells #[.int .i64 sl.length,.slice kp kn kc] 96)) 1
 have a2:((w1.alloc (.cells #[.int .i64 sl.length,.slice kp kn kc] 96)).alloc (.cells #[.int .i64 sl.length,.slice kp kn kc] 96)).cell? ⟨cb,1,none⟩=some (.slice ra rn rc):=by
  simpa using Blk.cell (Blk.alloc (Blk.alloc bH (.cells #[.int .i64 sl.length,.slice kp kn kc] 96)) (.cells #[.int .i64 sl.length,.slice kp kn kc] 96)) 1
 have HD:=zab (And.intro z1 (And.intro f1 (And.intro n1 n2)));have HC:=zab (And.intro aE (And.intro jF (And.intro dd jc)));have Cw:=zab cg;have ff:Hid (Fr (fun _=>False) w1 ((w1.alloc (.cells #[.int .i64 sl.length,.slice kp kn kc] 96)).alloc (.cells #[.int .i64 sl.length,.slice kp kn kc] 96)).drew):=zab (((Fr.refl _ _).alloc _).alloc _).drew;clear z1 f1 n1 n2 gG aE jF sC bH dd cg jc CB;go_wp2_with fail
 go_region_law (first
  |(refine step_append_lies _ (by rfl) _ _ _ (by rfl) 0 96 i0 _ 2 32 underlying64 HI.o HZ.o.1 HZ.o.2.1 HZ.o.2.2 rfl (by omega) (.slice ra rn rc) q.blocks.length (zaz q.blocks cP) (by rfl) (ff.o.gb Cw.o (by simp)) ⟨w1.heap.size+1,0,none⟩ 1 1 [.int .i64 sl.length,.slice kp kn kc] (by rfl) (by rfl) (World.news_of_block (cs:=#[.int .i64 sl.length,.slice kp kn kc]) (t:=96) (fr:=(0,0)) (heap_alloc2_new w1 (.cells #[.int .i64 sl.length,.slice kp kn kc] 96) (.cells #[.int .i64 sl.length,.slice kp kn kc] 96))) (by simp[Value.oneCell']) (by omega) (by unfold maxLen;omega) (by omega) (zy5 _) (w1.heap.size+2) (by simp) ?_;intro g cap w3 ai ah aV aj;have AD:=zab (HC.o.1.added (m:=sl.length) HC.o.2.1 HC.o.2.2.1 HC.o.2.2.2 ff.o ai ah (by rcases aV with e|e;exact .inl e;exact .inr (by omega)));have d1:=AD.o.1.1;have df:=AD.o.1.2;clear ai ah aV aj)
  |(go_simp;go_wp2_with fail))
 all_goals
  obtain ⟨Gl,h4,_⟩:=AD.o.2.1.zkt;have e4:(w3.setCell ⟨cb,1,none⟩ (.slice (some ⟨g,0,none⟩) (q.blocks.length+1) cap)).cell? ⟨cb,1,none⟩=some (.slice (some ⟨g,0,none⟩) (q.blocks.length+1) cap):=Blk.cell h4 1;have Bf:=zab AD.o.2;clear h4 AD a1 a2 oT d1 df;go_wp2_with fail
  go_ret
  obtain ⟨z1,f1,n1,n2⟩:=HD.o;obtain ⟨c1,c2,c3⟩:=Bf.o;refine ⟨by simp,_,_,fun k hk=>?_,c1,?_,n1.trans c3 f1.size⟩
  ·rw[<-z1 k hk];constructor
   ·rintro (e|e)
    ·exact e
    ·have:=n2 k e;omega
   ·exact .inl
  ·refine ⟨c2.os.trans f1.os,c2.tape.trans f1.tape,c2.output.trans f1.output,zyR f1.size c2.size,fun i hi hK=>(c2.block i (zyS hi f1.size) (fun hn=>hK ?_)).trans (f1.block i hi hK)⟩;rcases hn with e|e
   ·exact .inl e
   ·rcases n1 i e with e|e
    ·exact .inr (.inl e)
    ·omega
end Go.Proofs.YtgahgkddaljmkaaGreatDoor
namespace Go.Proofs.YtgahgkddaljmkaaGreatDoor
open Tryz
open Go.RowKit
namespace Th
def six:List (List UInt8):=[[43],[45],[42],[47],[60],[61,61]]
theorem zdb(a b:Nat)(st:St):(zaB a b st).1<=b:=by
 unfold Th.zaB;split
 ·next h=>
  simp only[zzv,decide_eq_true_eq]at h;exact h.2
 ·exact zy5 _
theorem zeS{s:List UInt8}{st:St}(h:st.is s=true):st.hd.s=s:=by
 unfold St.is at h;simp only[zzv,beq_iff_eq]at h;exact h.2
end Th
end Go.Proofs.YtgahgkddaljmkaaGreatDoor
namespace Go.Proofs.YtgahgkddaljmkaaGreatDoor
open Tryz
structure Cp.Well (e:Th.Ex):Prop where
 lo:1<=e.kind
 hi:e.kind<=9
 num:e.n<=999999999
 tag:e.tag<=99
 ar:e.arity<=9
 nm:∀ t∈e.names,t.s≠[]
 am:∀ a∈e.zao,a.1<=99/\∀ t∈a.2,t.s≠[]
 us:e.kind=2->e.tok.s≠[]
 k4:e.kind=4->e.names≠[]/\∃ b,e.kids=[b]
 k5:e.kind=5\/e.kind=6->∃ a b,e.kids=[a,b]
 k6:e.kind=6->e.tok.s∈Th.six
 k7:e.kind=7\/e.kind=8->e.names≠[]/\∃ b ps,e.kids=b::ps/\ps.length=e.names.length
 k9:e.kind=9->e.zao≠[]/\∃ b ds,e.kids=b::ds/\ds.length=e.zao.length
def Cp.Dp:Nat->Th.Ex->Prop
 |0,_=>False
 |n+1,e=>Cp.Well e/\∀ k∈e.kids,Cp.Dp n k
theorem Cp.Dp.zea:∀ {n:Nat} {e:Th.Ex},Cp.Dp n e->Cp.Well e
 |0,_,h=>h.elim
 |_+1,_,h=>h.1
theorem Cp.Dp.succ:∀ {n:Nat} {e:Th.Ex},Cp.Dp n e->Cp.Dp (n+1) e
 |0,_,h=>h.elim
 |_n+1,_,h=>⟨h.1,fun k hk=>Cp.Dp.succ (h.2 k hk)⟩
variable {n m:Nat}
variable {e:Th.Ex}
theorem Cp.Dp.le(h:Cp.Dp n e)(hm:n<=m):Cp.Dp m e:=by
 induction hm with
 |refl=>exact h
 |step _ ih=>exact ih.succ
theorem Cp.zqb:∀ {n:Nat} {e:Th.Ex},Cp.Dp n e->Cp.wt (n+1) e=Cp.wt n e
 |0,_,h=>h.elim
 |n+1,e,h=>by
  rw[Cp.wt,Cp.wt];rw[zAf (fun k hk=>Cp.zqb (h.2 k hk))]
theorem Cp.zk9(h:Cp.Dp n e)(hm:n<=m):Cp.wt m e=Cp.wt n e:=by
 induction hm with
 |refl=>rfl
 |step hle ih=>rw[Cp.zqb (h.le hle),ih]
theorem Cp.zeJ{f g:Th.Ex->List Cp.Nm}:∀ {ps:List Th.Ex} {l:List Cp.Nm},(∀ k∈ps,f k=g k)->Cp.zav f ps l=Cp.zav g ps l
 |[],_,_=>rfl
 |p::ps,l,h=>by
  rw[Cp.zav,Cp.zav,h p (by simp)];exact Cp.zeJ (fun k hk=>h k (by simp[hk]))
theorem Cp.zfY{f g:Th.Ex->List Cp.Nm}:∀ {az:List (Nat × List Th.Tok)} {bs:List Th.Ex} {l:List Cp.Nm},(∀ k∈bs,f k=g k)->Cp.zas f az bs l=Cp.zas g az bs l
 |[],_,_,_=>by simp[Cp.zas]
 |_::_,[],_,_=>by simp[Cp.zas]
 |a::az,b::bs,l,h=>by
  rw[Cp.zas,Cp.zas,h b (by simp)];exact Cp.zfY (fun k hk=>h k (by simp[hk]))
theorem Cp.zgV:∀ {n:Nat} {e:Th.Ex},Cp.Dp n e->Cp.free (n+1) e=Cp.free n e
 |0,_,h=>h.elim
 |n+1,e,h=>by
  have ih:∀ k∈e.kids,Cp.free (n+1) k=Cp.free n k:=fun k hk=>Cp.zgV (h.2 k hk)
  rw[Cp.free,Cp.free];by_cases h2:e.kind=2
  ·simp[h2]
  ·by_cases h4:e.kind=4
   ·simp only[h4]
    match hk:e.kids with
    |[b]=>simp[ih b (by simp[hk])]
    |[]=>rfl
    |_::_::_=>rfl
   ·by_cases h5:e.kind=5\/e.kind=6
    ·simp only[h2,h4,h5,if_false,if_true]
     match hk:e.kids with
     |[a,b]=>simp[ih a (by simp[hk]),ih b (by simp[hk])]
     |[]=>rfl
     |[_]=>rfl
     |_::_::_::_=>rfl
    ·simp only[h2,h4,h5,if_false]
     match hk:e.kids with
     |[]=>simp
     |b::ps=>
      simp only;rw[ih b (by simp[hk]),Cp.zeJ (f:=Cp.free (n+1)) (g:=Cp.free n) (fun k hp=>ih k (by simp[hk,hp])),Cp.zfY (f:=Cp.free (n+1)) (g:=Cp.free n) (fun k hp=>ih k (by simp[hk,hp]))]
theorem Cp.zjT{zac:List Cp.Nm}{x:Cp.Nm}:∀ {k:Nat},k<=zac.length->(Cp.zcq zac x k=none↔x ∉ zac.take k)
 |0,_=>by simp[Cp.zcq]
 |k+1,hk=>by
  have ih:=Cp.zjT (zac:=zac) (x:=x) (k:=k) (by omega);rw[Cp.zcq];have hg:zac[k]?=some zac[k]:=zyM (by omega);rw[zAn,hg,Option.toList_some,zzi,zze];by_cases h:zac[k]=x
  ·simp[h]
  ·have h':¬ x=zac[k]:=fun e=>h e.symm
   simp[h,h',ih]
variable {zac:List Cp.Nm}
variable {x:Cp.Nm}
theorem Cp.zca :Cp.za9 zac x=none↔x ∉ zac:=by
 unfold Cp.za9;rw[Cp.zjT (zyN _),zz7]
variable {l:List Cp.Nm}
theorem Cp.zbK :x∈Cp.zai zac l↔x∈l/\x∈zac:=by
 unfold Cp.zai;rw[List.mem_filter];have:=Cp.zca (zac:=zac) (x:=x);cases h:Cp.za9 zac x with
 |none=>rw[h]at this;simp at this;simp[this]
 |some i=>rw[h]at this;simp at this;simp[this]
theorem Cp.zaN{g:List Cp.Nm}:x∈Cp.zaH l g↔x∈l/\x ∉ g:=by
 unfold Cp.zaH;simp
theorem Cp.zaw{m:List Cp.Nm}:x∈Cp.union l m↔x∈l\/x∈m:=by
 unfold Cp.union;rw[zzi,Cp.zaN];by_cases h:x∈l <;> simp[h]
theorem Cp.zbh{f:Th.Ex->List Cp.Nm}{x:Cp.Nm}:∀ {ps:List Th.Ex} {l:List Cp.Nm},x∈Cp.zav f ps l↔x∈l\/∃ p∈ps,x∈f p
 |[],l=>by simp[Cp.zav]
 |p::ps,l=>by
  rw[Cp.zav,Cp.zbh,Cp.zaw];simp[or_assoc]
theorem Cp.zbg(zac l:List Cp.Nm):(Cp.zai zac l).length<=l.length:=List.length_filter_le _ _
theorem Cp.Dp.kid{k:Th.Ex}(h:Cp.Dp n e)(hk:k∈e.kids):Cp.Dp n k:=by
 cases n with
 |zero=>exact h.elim
 |succ n=>exact (h.2 k hk).succ
theorem Cp.Dp.wt{n:Nat}{e:Th.Ex}(h:Cp.Dp n e):Cp.wt n e=1+e.names.length+(e.zao.map fun a=>1+a.2.length).sum+(e.kids.map (Cp.wt n)).sum:=by
 cases n with
 |zero=>exact h.elim
 |succ n=>rw[Cp.wt,zAf (fun k hk=>(Cp.zqb (h.2 k hk)).symm)]
theorem Cp.Dp.pos(h:Cp.Dp n e):1<=Cp.wt n e:=by rw[h.wt];omega
theorem Cp.Dp.free{n:Nat}{e:Th.Ex}(h:Cp.Dp n e):Cp.free n e =
  if e.kind=2 then [e.tok.s] else
  if e.kind=4 then (match e.kids with|[b]=>Cp.zaH (Cp.free n b) (Th.texts e.names)|_=>[]) else
  if e.kind=5\/e.kind=6 then (match e.kids with|[a,b]=>Cp.union (Cp.free n a) (Cp.free n b)|_=>[]) else
  if e.kind=7 then (match e.kids with|b::ps=>Cp.union (Cp.zav (Cp.free n) ps []) (Cp.zaH (Cp.free n b) (Th.texts e.names))|_=>[]) else
  if e.kind=8 then (match e.kids with|b::ps=>Cp.union (Cp.zaH (Cp.zav (Cp.free n) ps []) (Th.texts e.names)) (Cp.zaH (Cp.free n b) (Th.texts e.names))|_=>[]) else
  if e.kind=9 then (match e.kids with|s::bs=>Cp.union (Cp.free n s) (Cp.zas (Cp.free n) e.zao bs [])|_=>[]) else []:=by
 cases n with
 |zero=>exact h.elim
 |succ n=>
  rw[<-Cp.zgV h,Cp.free];rfl
theorem Cp.zcL{f:Th.Ex->List Cp.Nm}{x:Cp.Nm}:∀ {az:List (Nat × List Th.Tok)} {bs:List Th.Ex} {l:List Cp.Nm},x∈Cp.zas f az bs l↔x∈l\/∃ (i:Nat) (a:Nat × List Th.Tok) (d:Th.Ex),az[i]?=some a/\bs[i]?=some d/\x∈f d/\x ∉ Th.texts a.2
 |[],bs,l=>by simp[Cp.zas]
 |_::_,[],l=>by simp[Cp.zas]
 |a::az,b::bs,l=>by
  rw[Cp.zas,Cp.zcL,Cp.zaw,Cp.zaN];constructor
  ·rintro ((h|h)|⟨i,a',d,h1,h2,h3⟩)
   ·exact .inl h
   ·exact .inr ⟨0,a,b,rfl,rfl,h⟩
   ·exact .inr ⟨i+1,a',d,by simpa using h1,by simpa using h2,h3⟩
  ·rintro (h|⟨i,a',d,h1,h2,h3⟩)
   ·exact .inl (.inl h)
   ·cases i with
    |zero=>simp at h1 h2;subst h1 h2;exact .inl (.inr h3)
    |succ i=>exact .inr ⟨i,a',d,by simpa using h1,by simpa using h2,h3⟩
end Go.Proofs.YtgahgkddaljmkaaGreatDoor
namespace Go.Proofs.YtgahgkddaljmkaaGreatDoor
open Tryz
open Go.RowKit Go.Shelf
attribute [local go_sem ↓] Go.wp_at_zero Go.wp_at_succ
structure Fit (M N:Nat) (fns:List Cp.Nm) (q:Cp.Bs) (e:Th.Ex):Prop where
 dp:Cp.Dp N e
 wt:Cp.wt N e<=M
 mm:M<=5000
 fl:fns.length<=1000000
 nm:∀ x∈Cp.free N e,x≠[]/\(x∈q.zac\/x∈fns)
 cl:q.code.length+(M+8)*Cp.wt N e<=1000000000
 sl:q.zac.length+(M+8)*Cp.wt N e<=100000000
 bl:q.blocks.length+8*Cp.wt N e<=1000000
def zbi (M N n:Nat):Prop:=∀ ⦃Z:Nat->Prop⦄ ⦃w:World⦄ ⦃cb bb:Nat⦄ ⦃rv sv kv v:Value⦄ ⦃fns:List Cp.Nm⦄ ⦃q:Cp.Bs⦄ ⦃e:Th.Ex⦄ ⦃below:Nat⦄,BS Z w cb bb rv sv kv fns q->Rep Z w n v e->Fit M N fns q e->below+(M+8)*Cp.wt N e<=1000000000 ->
 Calls prog 54 #[.pointer (some ⟨bb,0,none⟩),v,.int .i64 below] w fun r w'=>r=.returned (.tuple #[])/\Did Z w cb bb rv sv kv fns (Cp.work (Cp.free N) fns n e below q) w'
def zu4 (M N n:Nat) (e:Th.Ex):Prop:=∀ ⦃Z:Nat->Prop⦄ ⦃w:World⦄ ⦃cb bb:Nat⦄ ⦃rv sv kv v:Value⦄ ⦃fns:List Cp.Nm⦄ ⦃q:Cp.Bs⦄,BS Z w cb bb rv sv kv fns q->Rep Z w n v e->Fit M N fns q e ->
 Calls prog 54 #[.pointer (some ⟨bb,0,none⟩),v,.int .i64 0] w fun r w'=>r=.returned (.tuple #[])/\Did Z w cb bb rv sv kv fns (Cp.work (Cp.free N) fns n e 0 q) w'
variable {M N n:Nat}
theorem zbi.zero(hW:zbi M N n)(e:Th.Ex):zu4 M N n e:=fun _ _ _ _ _ _ _ _ _ _ h hr hf=>hW (below:=0) h hr hf (by have:=hf.cl;omega)
variable {Z:Nat->Prop}
variable {w w':World}
variable {cb:Nat}
variable {rv sv:Value}
variable {fns:List Cp.Nm}
variable {bl:List (Nat × List Ins)}
theorem zmf{Z':Nat->Prop}{w2:World}{aO:Value}(f:Fr (fun _=>False) w w2)(hs:∀ k,sv.ownBlock=some k->w.heap.size<=k)(hz:∀ k,k<w2.heap.size->(Z' k↔Z k))(hc:CS Z' w' cb aO fns bl)(f2:Fr (fun k=>k=cb\/rv.ownBlock=some k\/sv.ownBlock=some k) w2 w')(hn:New w2 rv aO):zfH Z w cb rv fns bl w':=by
 refine ⟨Z',aO,fun k hk=>hz k (zyS hk f.size),hc,?_,New.trans (New.refl w rv) hn f.size⟩;refine ⟨f2.os.trans f.os,f2.tape.trans f.tape,f2.output.trans f.output,zyR f.size f2.size,fun i hi hK=>(f2.block i (zyS hi f.size) (fun hn=>?_)).trans (f.block i hi (by simp))⟩;rcases hn with e|e|e
 ·exact hK (.inl e)
 ·exact hK (.inr e)
 ·have:=hs i e;omega
theorem zxk:∀ args w,(callFunc 216 args).run prog w=.ok (.enter 216 args) w:=by
 intro args w
 kernel_rfl
variable {e:Th.Ex}
variable {bb:Nat}
variable {kv:Value}
variable {q:Cp.Bs}
theorem zuD(hW:zu4 M N n e){bx:Nat}{t:TypeId}{x:Value}(hx:Blk w bx [.iface t x] 91)(h:BS Z w cb bb rv sv kv fns q)(hr:Rep Z w n (.iface t x) e)(hf:Fit M N fns q e):
  Calls prog 216 #[.pointer (some ⟨bb,0,none⟩),.pointer (some ⟨bx,0,none⟩)] w fun r w'=>r=.returned (.tuple #[])/\Did Z w cb bb rv sv kv fns (Cp.work (Cp.free N) fns n e 0 q) w':=by
 have c0:=Blk.cell hx 0;simp at c0;have CW:=zab (hW h hr hf);clear hW h hr hf hx;go_enter func216,ntmps216
 go_wp2_with fail
 refine CW.o.mono ?_;rintro r w' ⟨rfl,hd⟩;have HD:=zab hd;clear hd CW c0;go_wp2_with fail
 first|go_end0|refine bodyPost_ret (results_none rfl _ _ _) rfl ?_
 exact ⟨rfl,HD.o⟩
variable {v:Value}
theorem ze3(hW:zu4 M N n e){nv:Value}{names:List Cp.Nm}(h:CS Z w cb rv fns bl)(hr:Rep Z w n v e)(hn:Row Z w 9 1 nv names.length (strCells names))(hf:Fit M N fns ⟨bl,names.reverse,[]⟩ e)(ev:names.length<=1000000)(hl:(Cp.work (Cp.free N) fns n e 0 ⟨bl,names.reverse,[]⟩).blocks.length<=1000000000):
  Calls prog 161 #[.pointer (some ⟨cb,0,none⟩),v,nv] w fun r w'=>r=.returned (.int .i64 (Cp.work (Cp.free N) fns n e 0 ⟨bl,names.reverse,[]⟩).blocks.length) /\
   zfH Z w cb rv fns ((Cp.work (Cp.free N) fns n e 0 ⟨bl,names.reverse,[]⟩).blocks++[(names.reverse.length,(Cp.work (Cp.free N) fns n e 0 ⟨bl,names.reverse,[]⟩).code)]) w':=by
 have mc:∀ (fn:Fn) (first cap:Array Value) (w:World),(Instr.makeFunc fn first cap).run prog w=.ok (.func fn first cap) w:=fun _ _ _ _=>rfl
 obtain ⟨t,x,rfl⟩:=zah hr;obtain ⟨np,nn,nc,rfl⟩:=zae hn;have f0:Fr (fun _=>False) w ((w.alloc (.cells #[.iface t x] 91)).alloc (.cells #[.slice np nn nc] 38)):=((Fr.refl _ _).alloc _).alloc _;have hB:=Blk.new (w.alloc (.cells #[.iface t x] 91)) [.slice np nn nc] 38;have hX:=Blk.alloc (Blk.new w [.iface t x] 91) (.cells #[.slice np nn nc] 38);rw[World.size_alloc]at hB;have CF:=zab (zlp hB (Row.frc hn f0 (by simp)) ev);have HX:=zab hX;have F0:=zab f0;have HH:=zab (And.intro h (And.intro hr (And.intro hf hl)));have HW:=zab hW;clear hW h hr hn hf hl hB hX f0;go_enter func161,ntmps161
 go_wp2_with fail
 refine CF.o.mono ?_;rintro r w2 ⟨sv,rfl,bA,f2⟩;obtain ⟨sp,sn,sc,rfl⟩:=zae bA;have f3:=F0.o.trans f2;have bK:∀ k,(Value.slice sp sn sc).ownBlock=some k->w.heap.size<=k:=fun k hk=>zyR F0.o.size (bA.2 k hk)
 obtain ⟨h,hr,hf,hl⟩:=HH.o;have CA:=zab (zgi (lb:=#[.pointer (some ⟨w.heap.size,0,none⟩)]) zxk (h.fr0 f3) (za0 bA.1 (zy5 _)) (fun k hk=>⟨by have:=h.clt;have:=bK k hk;omega,fun e=>by have:=h.rlt k e;have:=bK k hk;omega,fun e=>by have:=h.zlt k e;have:=bK k hk;omega⟩)
  (fun W bb bQ hb=>zuD HW.o (Fr.blk (Fr.blk HX.o f2 (by simp)) bQ (by simp)) hb (hr.fr0 (f3.trans bQ)) hf) hl)
 have HS:=zab bK;have F3:=zab f3;clear h hr hf hl bA f2 f3 bK CF;go_wp2_with fail
 refine CA.o.mono ?_;rintro r w4 ⟨rfl,Z',aO,z1,hc,f4,n4⟩;have HD:=zab (zmf F3.o HS.o z1 hc f4 n4);clear CA z1 hc f4 n4;go_wp2_with fail
 go_ret
 exact ⟨rfl,HD.o⟩
theorem zkK(hW:zbi M N n){nv:Value}{names:List Cp.Nm}(h:CS Z w cb rv fns bl)(hr:Rep Z w n v e)(hn:Row Z w 9 1 nv names.length (strCells names))(hf:Fit M N fns ⟨bl,names.reverse,[]⟩ e)(ev:names.length<=1000000)(hl:(Cp.work (Cp.free N) fns n e 0 ⟨bl,names.reverse,[]⟩).blocks.length<=1000000000):
  Calls prog 161 #[.pointer (some ⟨cb,0,none⟩),v,nv] w fun r w'=>r=.returned (.int .i64 (Cp.work (Cp.free N) fns n e 0 ⟨bl,names.reverse,[]⟩).blocks.length) /\
   zfH Z w cb rv fns ((Cp.work (Cp.free N) fns n e 0 ⟨bl,names.reverse,[]⟩).blocks++[(names.reverse.length,(Cp.work (Cp.free N) fns n e 0 ⟨bl,names.reverse,[]⟩).code)]) w':=ze3 (hW.zero e) h hr hn hf ev hl
end Go.Proofs.YtgahgkddaljmkaaGreatDoor
