/- SmE .. SmH -/
import Derived.Test.YtgahgkddaljmkaaGreatDoorQ23
import Derived.Deep.CutBlock
set_option maxRecDepth 100000
set_option maxHeartbeats 4000000
namespace Go.Proofs.YtgahgkddaljmkaaGreatDoor
open Tryz
open Go.RowKit
attribute [local go_sem ↓] Go.wp_at_zero Go.wp_at_succ
theorem Fr.rowN{K:Nat->Prop}{a b:World}(h:Fr K a b){g:Nat}(hg:a.heap.size<=g)(cs:Array Value):Fr K a (b.setRow g cs):=
 ⟨h.os,h.tape,h.output,by simp[World.setRow];exact h.size,fun k hk hK=>by rw[setRow_other b g k cs (by omega)];exact h.block k hk hK⟩
theorem zEj(t:List UInt8):(⟨#[40]⟩:ByteArray)++⟨t.toArray⟩++⟨#[41]⟩=⟨(Sm.par t).toArray⟩:=by
 have e1:(⟨#[40]⟩:ByteArray)=⟨[40].toArray⟩:=rfl;have e2:(⟨#[41]⟩:ByteArray)=⟨[41].toArray⟩:=rfl;rw[e1,e2,zqj,zqj];rfl
variable {k:Nat}
theorem zEC(hk:k<4):(⟨#[43,45,42,47]⟩:ByteArray).extract k (k+1)=⟨(Sm.sign k).toArray⟩:=by
 obtain rfl|rfl|rfl|rfl:k=0\/k=1\/k=2\/k=3:=by omega
 all_goals rfl
theorem zB2{a b:ByteArray}{la lb:List UInt8}(ha:a=⟨la.toArray⟩)(hb:b=⟨lb.toArray⟩)(h:la.length+lb.length<=1000000):∃ r,Hid (r=⟨(la++lb).toArray⟩)/\∀ W:World,(Op.stringOp .add a b).run prog W=.ok (.string r) W:=
 ⟨_,zab rfl,zl9 (by rw[ha,hb,zqj]) (by show (la++lb).toArray.size<=1000000;simp;omega)⟩
variable {len i:Nat}
theorem zE1{w:World}{sb cap left d Ij i1 Ir i2 kl i3:Nat}{t1 t2:List UInt8}{x1 x2:Int}{p1 p2:Bool}{a:Option Addr}{g:Nat->Int}(hd:d<=5)(hk:k<4)(hh:Ij≠0)(h8:Ij<8)(Ix:left+1<=1000)(l1:t1.length<=100000)(l2:t2.length<=100000)(N1:Hid (∀ W,zB9 W sb a len cap g i (left+1)->Calls prog 32 #[.pointer (some ⟨sb,0,none⟩),.int .i64 8] W fun e w'=>e=.returned (.int .i64 Ij)/\Fr (fun b=>b=sb) W w'/\Blk w' sb [.slice a len cap,.int .i64 (zBZ len i),.int .i64 ((left+1:Nat):Int)] 29))(H:zB9 w sb a len cap g i (left+1))(IY:Hid (∀ W,zB9 W sb a len cap g (zBZ len i) left->Calls prog 19 #[.pointer (some ⟨sb,0,none⟩),.int .i64 d] W fun e w'=>e=.returned (.agg #[.string ⟨t1.toArray⟩,.int .i64 x1,.bool p1])/\Fr (fun b=>b=sb) W w'/\zB9 w' sb a len cap g i1 Ir))(IZ:Hid (∀ W,zB9 W sb a len cap g i1 Ir->Calls prog 19 #[.pointer (some ⟨sb,0,none⟩),.int .i64 d] W fun e w'=>e=.returned (.agg #[.string ⟨t2.toArray⟩,.int .i64 x2,.bool p2])/\Fr (fun b=>b=sb) W w'/\zB9 w' sb a len cap g i2 kl))(N4:Hid (∀ W,zB9 W sb a len cap g i2 kl->Calls prog 32 #[.pointer (some ⟨sb,0,none⟩),.int .i64 4] W fun e w'=>e=.returned (.int .i64 k)/\Fr (fun b=>b=sb) W w'/\Blk w' sb [.slice a len cap,.int .i64 i3,.int .i64 kl] 29)):
  Calls prog 19 #[.pointer (some ⟨sb,0,none⟩),.int .i64 ((d:Int)+1)] w fun e w'=>e=.returned (.agg #[.string ⟨(opT Ij k t1 t2).toArray⟩,.int .i64 (if opB k x2 p1 p2 then 0 else opN k x1 x2),.bool (opB k x2 p1 p2)])/\Fr (fun b=>b=sb) w w'/\zB9 w' sb a len cap g i3 kl:=by
 obtain ⟨pb,iN⟩:∃ pb,Hid (pb=(p1||p2)):=⟨_,zab rfl⟩;have OB:Hid (opB k x2 p1 p2=(pb||(!(k=0||k=1||k=2) && x2 == 0))):=zab (by rw[iN.o];rfl);generalize IX:opT Ij k t1 t2=tx;generalize opB k x2 p1 p2=qb at *;generalize IV:opN k x1 x2=nn;generalize IW:(if qb=true then 0 else nn)=rn;have HT:=zab IX;have HN:=zab IV;have HR:=zab IW;clear IX IV IW;have F0:=zab ((Fr.refl (fun b=>b=sb) w).alloc (.cells #[.string ⟨#[]⟩,.int .i64 0,.bool false] 31));have h0:=H.fr F0.o (H.1.alloc _);have B0:=zab (Blk.new w [.string ⟨#[]⟩,.int .i64 0,.bool false] 31);have aH:=zab (show ¬ w.heap.size=sb from Nat.ne_of_gt H.1.lt);have HS:=zab h0;have H1:=zab H;clear H h0;go_enter func19,ntmps19
 go_wp2_with fail
 refine (N1.o _ HS.o).mono ?_;rintro e w1 ⟨rfl,f1,b1⟩;have S1:=zab (HS.o.fr f1 b1);have F1:=zab (F0.o.trans f1);have B1:=zab (Fr.blk B0.o f1 aH.o);have c2:=b1.cell 2;have z2:=b1.frozen 2;have cB:=zab b1;simp at c2;clear f1 b1;go_wp2_with fail
 all_goals try (exfalso;simp only[beq_iff_eq]at *;omega)
 have I4:Blk (w1.setCell ⟨sb,2,none⟩ (.int .i64 left)) sb [.slice a len cap,.int .i64 (zBZ len i),.int .i64 left] 29:=Blk.set cB.o 2 _;have Iz:=(Fr.refl (fun b=>b=sb) w1).set ⟨sb,2,none⟩ (.int .i64 left) (.inl rfl);have S2:=zab (S1.o.fr Iz I4);have F2:=zab (F1.o.trans Iz);have B2:=zab (Fr.blk B1.o Iz aH.o);clear Iz I4 c2 z2 cB;refine (IY.o _ S2.o).mono ?_;generalize w1.setCell ⟨sb,2,none⟩ (.int .i64 left)=w2 at *;rintro e w3 ⟨rfl,f3,I0⟩;have S3:=zab I0;have F3:=zab (F2.o.trans f3);have B3:=zab (Fr.blk B2.o f3 aH.o);clear f3 I0 S1 S2 F1 F2 B1 B2 N1 HS F0 B0;go_wp2_with fail
 have S4:=zab (S3.o.fr ((Fr.refl (fun b=>b=sb) w3).alloc (.cells #[.string ⟨t1.toArray⟩,.int .i64 x1,.bool p1] 31)) (S3.o.1.alloc _));have F4:=zab (F3.o.alloc (.cells #[.string ⟨t1.toArray⟩,.int .i64 x1,.bool p1] 31));have B4:=zab (B3.o.alloc (.cells #[.string ⟨t1.toArray⟩,.int .i64 x1,.bool p1] 31));have C4:=zab (Blk.new w3 [.string ⟨t1.toArray⟩,.int .i64 x1,.bool p1] 31);have o6:=zab (show ¬ w3.heap.size=sb from Nat.ne_of_gt S3.o.1.lt);have fN:=zab (show w.heap.size<=w3.heap.size from F3.o.size);refine (IZ.o _ S4.o).mono ?_;generalize w3.heap.size=ab at *;generalize w3.alloc (.cells #[.string ⟨t1.toArray⟩,.int .i64 x1,.bool p1] 31)=w4 at *;rintro e w5 ⟨rfl,f5,I3⟩;have S5:=zab I3;have F5:=zab (F4.o.trans f5);have B5:=zab (Fr.blk B4.o f5 aH.o);have C5:=zab (Fr.blk C4.o f5 o6.o);clear f5 I3 S3 F3 B3 S4 F4 B4 C4 IY IZ;go_wp2_with fail
 have S6:=zab (S5.o.fr ((Fr.refl (fun b=>b=sb) w5).alloc (.cells #[.string ⟨t2.toArray⟩,.int .i64 x2,.bool p2] 31)) (S5.o.1.alloc _));have F6:=zab (F5.o.alloc (.cells #[.string ⟨t2.toArray⟩,.int .i64 x2,.bool p2] 31));have B6:=zab (B5.o.alloc (.cells #[.string ⟨t2.toArray⟩,.int .i64 x2,.bool p2] 31));have C6:=zab (C5.o.alloc (.cells #[.string ⟨t2.toArray⟩,.int .i64 x2,.bool p2] 31));have D6:=zab (Blk.new w5 [.string ⟨t2.toArray⟩,.int .i64 x2,.bool p2] 31);have eZ:=zab (show ¬ w5.heap.size=sb from Nat.ne_of_gt S5.o.1.lt);have ma:=zab (show w.heap.size<=w5.heap.size from F5.o.size);refine (N4.o _ S6.o).mono ?_;generalize w5.heap.size=bb at *;generalize w5.alloc (.cells #[.string ⟨t2.toArray⟩,.int .i64 x2,.bool p2] 31)=w6 at *;rintro e w7 ⟨rfl,f7,b7⟩;have S7:=zab (S6.o.fr f7 b7);have F7:=zab (F6.o.trans f7);have B7:=zab (Fr.blk B6.o f7 aH.o);have c7:=Fr.blk C6.o f7 o6.o;have d7:=Fr.blk D6.o f7 eZ.o;have q0:=c7.cell 0;have q1:=c7.cell 1;have q2:=c7.cell 2;have r0:=d7.cell 0;have r1:=d7.cell 1;have r2:=d7.cell 2;simp at q0 q1 q2 r0 r1 r2;have C7:=zab c7;have D7:=zab d7;clear f7 b7 c7 d7 S5 F5 B5 S6 F6 B6 C6 D6 C5 N4;have oQ:=Nat.ne_of_lt C7.o.lt;have iC:=Nat.ne_of_lt D7.o.lt;clear q0 q1 q2 r0 r1 r2;have q0:∀ o,(w7.alloc o).cell? ⟨ab,0,none⟩=some (.string ⟨t1.toArray⟩):=fun o=>(C7.o.alloc o).cell 0
 have q1:∀ o,(w7.alloc o).cell? ⟨ab,1,none⟩=some (.int .i64 x1):=fun o=>(C7.o.alloc o).cell 1
 have q2:w7.cell? ⟨ab,2,none⟩=some (.bool p1):=C7.o.cell 2;have r0:∀ o,(w7.alloc o).cell? ⟨bb,0,none⟩=some (.string ⟨t2.toArray⟩):=fun o=>(D7.o.alloc o).cell 0
 have r1:∀ o,(w7.alloc o).cell? ⟨bb,1,none⟩=some (.int .i64 x2):=fun o=>(D7.o.alloc o).cell 1
 have r2:w7.cell? ⟨bb,2,none⟩=some (.bool p2):=D7.o.cell 2;have k0:∀ o,(w7.alloc o).cell? ⟨w.heap.size,0,none⟩=some (.string ⟨#[]⟩):=fun o=>(B7.o.alloc o).cell 0
 have k1:∀ o,(w7.alloc o).cell? ⟨w.heap.size,1,none⟩=some (.int .i64 0):=fun o=>(B7.o.alloc o).cell 1
 have k2:∀ o,(w7.alloc o).cell? ⟨w.heap.size,2,none⟩=some (.bool false):=fun o=>(B7.o.alloc o).cell 2
 have z0:∀ o,(w7.alloc o).frozen? ⟨w.heap.size,0,none⟩=false:=fun o=>(B7.o.alloc o).frozen 0
 have z1:∀ o,(w7.alloc o).frozen? ⟨w.heap.size,1,none⟩=false:=fun o=>(B7.o.alloc o).frozen 1
 have z2:∀ o,(w7.alloc o).frozen? ⟨w.heap.size,2,none⟩=false:=fun o=>(B7.o.alloc o).frozen 2
 have s1:(⟨t1.toArray⟩:ByteArray).size=t1.length:=by show t1.toArray.size=_;rw[zzr]
 have s2:(⟨t2.toArray⟩:ByteArray).size=t2.length:=by show t2.toArray.size=_;rw[zzr]
 have sp:(⟨#[32]⟩:ByteArray).size=1:=rfl;have sl:(⟨#[40]⟩:ByteArray).size=1:=rfl;have sr:(⟨#[41]⟩:ByteArray).size=1:=rfl;obtain ⟨u,hu,zu,cu⟩:=zC5 ⟨#[40]⟩ ⟨t1.toArray⟩ (by omega);obtain ⟨x,hx,zx,cx⟩:=zC5 u ⟨#[41]⟩ (by omega);obtain ⟨v,hv,zv,cv⟩:=zC5 ⟨#[40]⟩ ⟨t2.toArray⟩ (by omega);obtain ⟨y,hy,zy,cy⟩:=zC5 v ⟨#[41]⟩ (by omega);have zX:x.size<=100002:=by omega
 have zY:y.size<=100002:=by omega
 have HX:=zab (show x=⟨(Sm.par t1).toArray⟩ by rw[hx,hu];exact zEj t1);have HY:=zab (show y=⟨(Sm.par t2).toArray⟩ by rw[hy,hv];exact zEj t2);clear s1 s2 sp sl sr zu zx zv zy hu hx hv hy;have Jp:=zab (zEC hk);have lx:(Sm.par t1).length<=100002:=by simp[Sm.par];omega
 have ly:(Sm.par t2).length<=100002:=by simp[Sm.par];omega
 have ls:=Sm.zCu k;obtain ⟨J,hJ⟩:∃ J:World->Prop,Hid (∀ wc,J wc=(Blk wc w7.heap.size [.string ⟨tx.toArray⟩,.int .i64 0,.bool pb] 31/\Blk wc ab [.string ⟨t1.toArray⟩,.int .i64 x1,.bool p1] 31/\Blk wc bb [.string ⟨t2.toArray⟩,.int .i64 x2,.bool p2] 31/\Blk wc w.heap.size [.string ⟨#[]⟩,.int .i64 0,.bool false] 31/\Fr (fun b=>b=sb) w wc/\Blk wc sb [.slice a len cap,.int .i64 i3,.int .i64 kl] 29)):=⟨_,zab fun _=>rfl⟩;have Iy:∀ {u:ByteArray},(⟨tx.toArray⟩:ByteArray)=u->J (w7.alloc (.cells #[.string u,.int .i64 0,.bool (p1||p2)] 31)):=fun e=>by
  rw[hJ.o,iN.o,e];exact ⟨Blk.new w7 _ _,C7.o.alloc _,D7.o.alloc _,B7.o.alloc _,F7.o.alloc _,S7.o.1.alloc _⟩
 have ks:∀ {u:ByteArray},(⟨tx.toArray⟩:ByteArray)=u->∀ o,J ((w7.alloc (.cells #[.string u,.int .i64 0,.bool (p1||p2)] 31)).alloc o):=fun e o=>by
  rw[hJ.o,iN.o,e];exact ⟨(Blk.new w7 _ _).alloc o,(C7.o.alloc _).alloc _,(D7.o.alloc _).alloc _,(B7.o.alloc _).alloc _,(F7.o.alloc _).alloc _,(S7.o.1.alloc _).alloc _⟩
 obtain ⟨J2,wR⟩:∃ J:World->Prop,Hid (∀ wc,J wc=(Blk wc w7.heap.size [.string ⟨tx.toArray⟩,.int .i64 nn,.bool qb] 31/\Blk wc w.heap.size [.string ⟨#[]⟩,.int .i64 0,.bool false] 31/\Fr (fun b=>b=sb) w wc/\Blk wc sb [.slice a len cap,.int .i64 i3,.int .i64 kl] 29)):=⟨_,zab fun _=>rfl⟩;have sN:p1=true\/p1=false:=by cases p1 <;> simp
 obtain rfl|rfl:=sN
 all_goals
  go_upto_block 0 with fail
  rw[Jp.o];have cT:(⟨(Sm.sign k).toArray⟩:ByteArray)=⟨(Sm.sign k).toArray⟩:=rfl
  go_cut [] J
  case first=>
   have A3:(⟨#[32]⟩:ByteArray)=⟨[32].toArray⟩:=rfl;obtain aj|rfl|rfl|rfl:Ij<5\/Ij=5\/Ij=6\/Ij=7:=by omega
   ·obtain ⟨u1,q1,e1⟩:=zB2 HX.o A3 (by simp;omega);obtain ⟨u2,q2,e2⟩:=zB2 q1.o cT (by simp;omega);obtain ⟨u3,q3,e3⟩:=zB2 q2.o A3 (by simp;omega);obtain ⟨u4,q4,e4⟩:=zB2 q3.o HY.o (by simp;omega);clear cT A3;obtain rfl|rfl|rfl|rfl:Ij=1\/Ij=2\/Ij=3\/Ij=4:=by omega
    all_goals
     go_wp2_with fail
     go_meet
     exact Iy (show _=u4 by rw[q4.o,<-HT.o];rfl)
   ·obtain ⟨s1,q1,e1⟩:=zB2 (show (⟨(Sm.name k).toArray⟩:ByteArray)=⟨(Sm.name k).toArray⟩ from rfl) A3 (by rw[Sm.zmw];simp);obtain ⟨s2,q2,e2⟩:=zB2 q1.o HX.o (by simp[Sm.zmw];omega);obtain ⟨s3,q3,e3⟩:=zB2 q2.o A3 (by simp[Sm.zmw];omega);obtain ⟨s4,q4,e4⟩:=zB2 q3.o HY.o (by simp[Sm.zmw];omega);clear cT A3;obtain rfl|rfl|rfl|rfl:k=0\/k=1\/k=2\/k=3:=by omega
    ·have e1:∀ W:World,(Op.stringOp .add ⟨#[97,100,100]⟩ ⟨#[32]⟩).run prog W=.ok (.string s1) W:=e1;go_wp2_with fail
     go_meet
     exact ks (show _=s4 by rw[q4.o,<-HT.o];rfl) _
    ·have e1:∀ W:World,(Op.stringOp .add ⟨#[115,117,98]⟩ ⟨#[32]⟩).run prog W=.ok (.string s1) W:=e1;go_wp2_with fail
     go_meet
     exact ks (show _=s4 by rw[q4.o,<-HT.o];rfl) _
    ·have e1:∀ W:World,(Op.stringOp .add ⟨#[109,117,108]⟩ ⟨#[32]⟩).run prog W=.ok (.string s1) W:=e1;go_wp2_with fail
     go_meet
     exact ks (show _=s4 by rw[q4.o,<-HT.o];rfl) _
    ·have e1:∀ W:World,(Op.stringOp .add ⟨#[100,105,118]⟩ ⟨#[32]⟩).run prog W=.ok (.string s1) W:=e1;go_wp2_with fail
     go_meet
     exact ks (show _=s4 by rw[q4.o,<-HT.o];rfl) _
   ·obtain ⟨u1,q1,e1⟩:=zB2 (show (⟨#[108,101,116,32,112,32,61,32]⟩:ByteArray)=⟨[108,101,116,32,112,32,61,32].toArray⟩ from rfl) HX.o (by simp;omega);obtain ⟨u2,q2,e2⟩:=zB2 q1.o (show (⟨#[59,32,113,32,61,32]⟩:ByteArray)=⟨[59,32,113,32,61,32].toArray⟩ from rfl) (by simp;omega);obtain ⟨u3,q3,e3⟩:=zB2 q2.o HY.o (by simp;omega);obtain ⟨u4,q4,e4⟩:=zB2 q3.o (show (⟨#[32,105,110,32,112,32]⟩:ByteArray)=⟨[32,105,110,32,112,32].toArray⟩ from rfl) (by simp;omega);obtain ⟨u5,q5,e5⟩:=zB2 q4.o cT (by simp;omega);obtain ⟨u6,q6,e6⟩:=zB2 q5.o (show (⟨#[32,113]⟩:ByteArray)=⟨[32,113].toArray⟩ from rfl) (by simp;omega);clear cT A3;go_wp2_with fail
    go_meet
    exact Iy (show _=u6 by rw[q6.o,<-HT.o];rfl)
   ·obtain ⟨u1,q1,e1⟩:=zB2 (show (⟨#[40,92,112,32,113,46,32,112,32]⟩:ByteArray)=⟨[40,92,112,32,113,46,32,112,32].toArray⟩ from rfl) cT (by simp;omega);obtain ⟨u2,q2,e2⟩:=zB2 q1.o (show (⟨#[32,113,41,32]⟩:ByteArray)=⟨[32,113,41,32].toArray⟩ from rfl) (by simp;omega);obtain ⟨u3,q3,e3⟩:=zB2 q2.o HX.o (by simp;omega);obtain ⟨u4,q4,e4⟩:=zB2 q3.o A3 (by simp;omega);obtain ⟨u5,q5,e5⟩:=zB2 q4.o HY.o (by simp;omega);clear cT A3;go_wp2_with fail
    go_meet
    exact Iy (show _=u5 by rw[q5.o,<-HT.o];rfl)
  case rest=>
   rw[hJ.o]at hcut;obtain ⟨o8,c8,d8,b8,f8,s8⟩:=hcut;have nw:¬ w.heap.size=w7.heap.size:=by have:=B7.o.lt;omega
   have nS:¬ sb=w7.heap.size:=by have:=S7.o.1.lt;omega
   have I6:w.heap.size<=w7.heap.size:=by have:=B7.o.lt;omega
   have Io:Hid (∀ (W:World) (i:Nat) (v:Value),Blk W w.heap.size [.string ⟨#[]⟩,.int .i64 0,.bool false] 31/\Fr (fun b=>b=sb) w W/\Blk W sb [.slice a len cap,.int .i64 i3,.int .i64 kl] 29->Blk (W.setCell ⟨w7.heap.size,i,none⟩ v) w.heap.size [.string ⟨#[]⟩,.int .i64 0,.bool false] 31/\Fr (fun b=>b=sb) w (W.setCell ⟨w7.heap.size,i,none⟩ v)/\Blk (W.setCell ⟨w7.heap.size,i,none⟩ v) sb [.slice a len cap,.int .i64 i3,.int .i64 kl] 29):=zab (fun W i v h=>⟨h.1.other ⟨w7.heap.size,i,none⟩ v nw,h.2.1.set ⟨w7.heap.size,i,none⟩ v (.inr I6),h.2.2.other ⟨w7.heap.size,i,none⟩ v nS⟩);have c1:=c8.cell 1;have d1:=d8.cell 1;have o0:=o8.cell 0;have o1:=o8.cell 1;have o2:=o8.cell 2;have y1:=o8.frozen 1;have y2:=o8.frozen 2;simp at c1 d1 o0 o1 o2;have O8:=zab o8;have R8:=zab (And.intro b8 (And.intro f8 s8));clear o8 c8 d8 b8 f8 s8 q0 q1 q2 r0 r1 r2 k0 k1 k2 z0 z1 z2 nw nS I6 cT cu cx cv cy oQ iC Iy ks
   go_upto_block 1 with fail
   go_cut [] J2
   case first=>
    obtain rfl|rfl|rfl|rfl:k=0\/k=1\/k=2\/k=3:=by omega
    ·go_wp2_with fail
     go_meet
     rw[wR.o];have e:qb=pb:=by rw[OB.o];simp
     rw[e,<-HN.o,show opN 0 x1 x2=wrap64 (x1+x2) by unfold opN wrap64;rw[if_pos rfl,IntKind.wrap_i64]];exact ⟨O8.o.set 1 _,Io.o _ 1 _ R8.o⟩
    ·go_wp2_with fail
     go_meet
     rw[wR.o];have e:qb=pb:=by rw[OB.o];simp
     rw[e,<-HN.o,show opN 1 x1 x2=wrap64 (x1-x2) by unfold opN wrap64;rw[if_neg (by omega),if_pos rfl,IntKind.wrap_i64]];exact ⟨O8.o.set 1 _,Io.o _ 1 _ R8.o⟩
    ·go_wp2_with fail
     go_meet
     rw[wR.o];have e:qb=pb:=by rw[OB.o];simp
     rw[e,<-HN.o,show opN 2 x1 x2=wrap64 (x1*x2) by unfold opN wrap64;rw[if_neg (by omega),if_neg (by omega),if_pos rfl,IntKind.wrap_i64]];exact ⟨O8.o.set 1 _,Io.o _ 1 _ R8.o⟩
    ·by_cases hx:x2=0
     ·go_wp2_with fail
      go_meet
      rw[wR.o];have e:qb=true:=by rw[OB.o];simp[hx]
      rw[e,<-HN.o,show opN 3 x1 x2=0 by unfold opN;rw[if_neg (by omega),if_neg (by omega),if_neg (by omega),if_pos hx]];exact ⟨O8.o.set 2 _,Io.o _ 2 _ R8.o⟩
     ·go_wp2_with fail
      go_meet
      rw[wR.o];have e:qb=pb:=by rw[OB.o];simp[hx]
      rw[e,<-HN.o,show opN 3 x1 x2=wrap64 (Int.tdiv x1 x2) by unfold opN wrap64;rw[if_neg (by omega),if_neg (by omega),if_neg (by omega),if_neg hx,IntKind.wrap_i64]];exact ⟨O8.o.set 1 _,Io.o _ 1 _ R8.o⟩
   case rest=>
    rw[wR.o]at hcut;obtain ⟨o9,b9,f9,s9⟩:=hcut;clear c1 d1 o0 o1 o2 y1 y2 OB HN;have R9:=zab (And.intro b9 (And.intro f9 s9));have o1:=o9.cell 1;have o2:=o9.cell 2;have y1:=o9.frozen 1;simp at o1 o2;have O9:=zab o9;clear o9 b9 f9 s9 hJ wR O8 R8 lx ly ls hk hh h8;cases qb
    ·go_upto_region 36 with fail
     refine wp_region_list (wpList_load_row rfl 31 (.tmp 11) rfl w7.heap.size rfl _ _ _ _ O9.o underlying31 rfl (by kernel_rfl) ?_);refine wpList_store_row rfl 31 (.tmp 4) (.tmp 157) rfl w.heap.size _ rfl rfl _ _ R9.o.1 (by kernel_rfl) rfl (by simp[Value.oneCell']) (wpList_nil ?_);rename_i IF;refine IF _ _ (wp_ret ?_);refine bodyPost_ret (results_cell_row (p:=4) (ty:=31) ?h1 _ _ w.heap.size _ _ _ _ ?h2 (setRow_heap _ _ _ _ _ _ R9.o.1) underlying31 rfl ?h3) ?h4 ?h5
     case h1=>kernel_rfl
     case h2=>kernel_rfl
     case h3=>kernel_rfl
     case h4=>rfl
     case h5=>
      have fr:=R9.o.2.1.rowN (zyN w.heap.size) #[.string ⟨tx.toArray⟩,.int .i64 nn,.bool false];refine ⟨by rw[<-HR.o];rfl,fr,H1.o.fr fr ?_⟩;show (World.setRow _ _ _).heap[sb]?=_;rw[setRow_other _ _ _ _ (Ne.symm aH.o)];exact R9.o.2.2
    ·go_upto_region 36 with fail
     refine wp_region_list (wpList_load_row rfl 31 (.tmp 11) rfl w7.heap.size rfl _ _ _ _ (O9.o.set 1 _) underlying31 rfl (by kernel_rfl) ?_);refine wpList_store_row rfl 31 (.tmp 4) (.tmp 157) rfl w.heap.size _ rfl rfl _ _ (Io.o _ 1 (.int .i64 0) R9.o).1 (by kernel_rfl) rfl (by simp[Value.oneCell']) (wpList_nil ?_);rename_i IF;refine IF _ _ (wp_ret ?_);refine bodyPost_ret (results_cell_row (p:=4) (ty:=31) ?h1 _ _ w.heap.size _ _ _ _ ?h2 (setRow_heap _ _ _ _ _ _ (Io.o _ 1 (.int .i64 0) R9.o).1) underlying31 rfl ?h3) ?h4 ?h5
     case h1=>kernel_rfl
     case h2=>kernel_rfl
     case h3=>kernel_rfl
     case h4=>rfl
     case h5=>
      have fr:=(Io.o _ 1 (.int .i64 0) R9.o).2.1.rowN (zyN w.heap.size) #[.string ⟨tx.toArray⟩,.int .i64 0,.bool true];refine ⟨by rw[<-HR.o];rfl,fr,H1.o.fr fr ?_⟩;show (World.setRow _ _ _).heap[sb]?=_;rw[setRow_other _ _ _ _ (Ne.symm aH.o)];exact (Io.o _ 1 (.int .i64 0) R9.o).2.2
end Go.Proofs.YtgahgkddaljmkaaGreatDoor
namespace Go.Proofs.YtgahgkddaljmkaaGreatDoor
open Tryz
open Go.RowKit
variable {len i:Nat}
theorem zB8(h:i<=len):zBZ len i<=len:=by unfold zBZ;split <;> omega
theorem Sm.mk_le(g:Nat->Int)(len:Nat):∀ (d i left:Nat),i<=len->(Sm.mk g len d i left).2.1<=len/\(Sm.mk g len d i left).2.2<=left
 |0,i,left,h=>⟨zB8 (zB8 h),zyN _⟩
 |d+1,i,left,h=>by
  rw[Sm.mk];split
  ·exact ⟨zB8 (zB8 h),zyN _⟩
  ·have h1:=Sm.mk_le g len d (zBZ len i) (left-1) (zB8 h);have h2:=Sm.mk_le g len d _ (Sm.mk g len d (zBZ len i) (left-1)).2.2 h1.1;exact ⟨zB8 h2.1,by show (Sm.mk g len d _ _).2.2<=left;omega⟩
def Sm.ops:Sm->Nat
 |.num _=>0
 |.op _ _ a b=>a.ops+b.ops+1
theorem Sm.zDY(g:Nat->Int)(len:Nat):∀ (d i left:Nat),(Sm.mk g len d i left).1.ops+(Sm.mk g len d i left).2.2<=left
 |0,i,left=>by simp[Sm.mk,Sm.ops]
 |d+1,i,left=>by
  rw[Sm.mk];split
  ·simp[Sm.ops]
  ·have h1:=Sm.zDY g len d (zBZ len i) (left-1);have h2:=Sm.zDY g len d (Sm.mk g len d (zBZ len i) (left-1)).2.1 (Sm.mk g len d (zBZ len i) (left-1)).2.2;simp only[Sm.ops];omega
theorem Sm.zCL:∀ x:Sm,x.text.length<=2+40*x.ops
 |.num v=>by
  have:=zme 2 v;rw[Sm.text,Sm.ops];omega
 |.op Ij k a b=>by
  have i1:=Sm.zCL a;have i2:=Sm.zCL b;have s1:=Sm.zCu k;have n1:=Sm.zmw k;rw[Sm.text,Sm.ops];split
  ·simp[Sm.par,s1];omega
  ·split
   ·simp[Sm.par,n1];omega
   ·split
    ·simp[Sm.par,s1];omega
    ·simp[Sm.par,s1];omega
theorem zEy:∀ {d:Nat},d<=5->Sm.zEK d<=100000
 |0,_=>by decide
 |1,_=>by decide
 |2,_=>by decide
 |3,_=>by decide
 |4,_=>by decide
 |5,_=>by decide
 |d+6,h=>absurd h (by omega)
theorem zC0{sb len cap:Nat}{a:Option Addr}{g:Nat->Int}(hg:∀ j,-9223372036854775808<=g j/\g j<=9223372036854775807)(hlen:len<=9223372036854775807):∀ (d i left:Nat) (w:World),d<=5->i<=len->left<=1000->zB9 w sb a len cap g i left ->
  Calls prog 19 #[.pointer (some ⟨sb,0,none⟩),.int .i64 d] w fun e w'=>e=.returned (smV (Sm.mk g len d i left).1)/\Fr (fun b=>b=sb) w w'/\zB9 w' sb a len cap g (Sm.mk g len d i left).2.1 (Sm.mk g len d i left).2.2
 |0,i,left,w,hd,hi,hl,H=>zD4 H hg hlen hi hd hl (.inl rfl)
 |d+1,i,left,w,hd,hi,hl,H=>by
  rw[Sm.mk];by_cases hz:zB5 g len i 8=0\/left=0
  ·rw[if_pos hz];exact zD4 H hg hlen hi hd hl (.inr hz)
  ·rw[if_neg hz];obtain ⟨left,rfl⟩:∃ k,left=k+1:=⟨left-1,by omega⟩;simp only[Nat.add_sub_cancel];have ha:=Sm.mk_le g len d (zBZ len i) left (zB8 hi);have oa:=Sm.zDX g len d (zBZ len i) left;have hb:=Sm.mk_le g len d (Sm.mk g len d (zBZ len i) left).2.1 (Sm.mk g len d (zBZ len i) left).2.2 ha.1;have ob:=Sm.zDX g len d (Sm.mk g len d (zBZ len i) left).2.1 (Sm.mk g len d (zBZ len i) left).2.2;have I1:=fun W (hW:zB9 W sb a len cap g (zBZ len i) left)=>zC0 hg hlen d (zBZ len i) left W (by omega) (zB8 hi) (by omega) hW
   have I2:=fun W (hW:zB9 W sb a len cap g (Sm.mk g len d (zBZ len i) left).2.1 (Sm.mk g len d (zBZ len i) left).2.2)=>zC0 hg hlen d _ _ W (by omega) ha.1 (by omega) hW
   generalize Sm.mk g len d (zBZ len i) left=A at *;generalize Sm.mk g len d A.2.1 A.2.2=B at *;have h8:=Sm.zCe g len i (n:=8) (by omega);have h4:=Sm.zCe g len B.2.1 (n:=4) (by omega);have e8:zB5 g len i 8=((zB5 g len i 8).toNat:Int):=by omega
   have e4:zB5 g len B.2.1 4=((zB5 g len B.2.1 4).toNat:Int):=by omega
   have mL:=zEy (d:=d) (by omega);have:=zE1 (Ij:=(zB5 g len i 8).toNat) (k:=(zB5 g len B.2.1 4).toNat) (i3:=zBZ len B.2.1) (d:=d) (by omega) (by omega) (by omega) (by omega) hl (zyR (Sm.zCv oa) mL) (zyR (Sm.zCv ob) mL)
    (zab fun W hW=>by have:=zCt (n:=8) hW hg hlen hi (by omega) (by omega);rw[e8]at this;exact this) H (zab I1) (zab I2)
    (zab fun W hW=>by have:=zCt (n:=4) hW hg hlen hb.1 (by omega) (by omega);rw[e4]at this;exact this)
   rw[zE0];exact this
end Go.Proofs.YtgahgkddaljmkaaGreatDoor
namespace Go.Proofs.YtgahgkddaljmkaaGreatDoor
open Tryz
namespace Ab
namespace Sg
def Fin (hf:Nat) (cd:List (Nat × List Ins)) (Q:Except Nat Ma->Prop) (A:Ma):Prop:=∃ g r,Ma.work hf cd g A=some r/\Q r
def Aft (_hf:Nat) (_cd:List (Nat × List Ins)) (Q:Except Nat Ma->Prop) (P:Ma->Prop) (q:Option (Except Nat Ma)):Prop:=(∃ k,q=some (.error k)/\Q (.error k))\/∃ A,q=some (.ok A)/\P A
def Ex (hf:Nat) (cd:List (Nat × List Ins)) (Q:Except Nat Ma->Prop) (is:List Ins) (A:Ma):Prop:=Aft hf cd Q (Fin hf cd Q) (Ma.zbb hf (cd.map Prod.fst) is A)
def Gv (hf:Nat) (cd:List (Nat × List Ins)) (Q:Except Nat Ma->Prop) (A:Ma):Prop:=∀ g,A.st.length<g->Aft hf cd Q (Fin hf cd Q) (Ma.za1 hf (cd.map Prod.fst) g A)
def Sh (h:List Nd) (st:List Wd) (fns:List Nat):Prop:=(∀ a,Wd.ad a∈st->a<h.length)/\(∀ a∈fns,a<h.length)/\∀ n∈h,inN h.length n=true
theorem Sh.shut{A:Ma}(h:Sh A.h A.st A.fns):shut A=true:=by
 obtain ⟨h1,h2,h3⟩:=h;simp only[Ab.shut,zzv,List.all_eq_true];refine ⟨⟨fun w hw=>?_,fun a ha=>by simpa using h2 a ha⟩,h3⟩;cases w with
 |ad a=>simpa [inW] using h1 a hw
 |mk k b=>rfl
def Res (hf:Nat) (Q:Except Nat Ma->Prop) (h:List Nd) (st:List Wd) (fns:List Nat) (f W F:Nat):Prop:=
 Sh h st fns/\(Q (.error 4)\/(h.map sz).sum+st.length+W<=hf)/\(Q (.error 5)\/F<=f)
variable {n m:Nat}{nd:Nd}
theorem zDb(h:n<=m)(hn:inN n nd=true):inN m nd=true:=by
 cases nd with
 |fwd b=>simp only[inN,decide_eq_true_eq]at hn ⊢;omega
 |data t fs=>simp only[inN,List.all_eq_true,decide_eq_true_eq]at hn ⊢;exact fun x hx=>zyS (hn x hx) h
 |clo t fs=>simp only[inN,List.all_eq_true,decide_eq_true_eq]at hn ⊢;exact fun x hx=>zyS (hn x hx) h
 |num v=>rfl
 |busy=>rfl
variable {hf:Nat} {cd:List (Nat × List Ins)} {Q:Except Nat Ma->Prop} {h:List Nd} {st:List Wd} {fns:List Nat} {f W F:Nat} {nx bl:Int} {is:List Ins}
theorem Sh.node{n:Nd}(s:Sh h st fns)(hn:inN h.length n=true):Sh (h++[n]) st fns:=by
 obtain ⟨h1,h2,h3⟩:=s;have hl:(h++[n]).length=h.length+1:=by simp
 refine ⟨fun a ha=>by have:=h1 a ha;omega,fun a ha=>by have:=h2 a ha;omega,fun m hm=>?_⟩;rw[hl];rcases zzi.1 hm with hm|hm
 ·exact zDb (by omega) (h3 m hm)
 ·rw[zze.1 hm];exact zDb (by omega) hn
theorem Sh.set{n:Nd}(s:Sh h st fns)(c:Nat)(hn:inN h.length n=true):Sh (h.set c n) st fns:=by
 obtain ⟨h1,h2,h3⟩:=s;refine ⟨fun a ha=>by rw[zy6];exact h1 a ha,fun a ha=>by rw[zy6];exact h2 a ha,fun m hm=>?_⟩;rw[zy6];rcases List.mem_or_eq_of_mem_set hm with hm|hm
 ·exact h3 m hm
 ·rw[hm];exact hn
theorem Sh.stack{st':List Wd}(s:Sh h st fns)(hs:∀ a,Wd.ad a∈st'->Wd.ad a∈st\/a<h.length):Sh h st' fns:=
 ⟨fun a ha=>(hs a ha).elim (s.1 a) id,s.2⟩
theorem zEE(h:List Nd)(c:Nat)(n:Nd)(hn:sz n=1):((h.set c n).map sz).sum<=(h.map sz).sum:=by
 induction h generalizing c with
 |nil=>simp
 |cons x t ih=>
  have hx:1<=sz x:=by cases x <;> simp[sz]
  cases c with
  |zero=>simp[hn];omega
  |succ c=>have:=ih c;simp at this ⊢;omega
variable {W':Nat}
theorem Res.less{F':Nat}(R:Res hf Q h st fns f W F)(hw:W'<=W)(hF:F'<=F):Res hf Q h st fns f W' F':=
 ⟨R.1,R.2.1.imp id (fun x=>by omega),R.2.2.imp id (fun x=>by omega)⟩
theorem Res.stack{st':List Wd}{W':Nat}(R:Res hf Q h st fns f W F)(hs:∀ a,Wd.ad a∈st'->Wd.ad a∈st\/a<h.length)(hl:st'.length+W'<=st.length+W):Res hf Q h st' fns f W' F:=
 ⟨R.1.stack hs,R.2.1.imp id (fun x=>by omega),R.2.2⟩
theorem Res.node{n:Nd}{W':Nat}(R:Res hf Q h st fns f W F)(hn:inN h.length n=true)(hw:W'+sz n<=W):Res hf Q (h++[n]) st fns f W' F:=
 ⟨R.1.node hn,R.2.1.imp id (fun x=>by simp;omega),R.2.2⟩
theorem Res.set{n:Nd}(R:Res hf Q h st fns f W F)(c:Nat)(hn:inN h.length n=true)(h1:sz n=1):Res hf Q (h.set c n) st fns f W F:=
 ⟨R.1.set c hn,R.2.1.imp id (fun x=>by have:=zEE h c n h1;omega),R.2.2⟩
theorem Res.zsJ(R:Res hf Q h st fns (f+1) W (F+1)):Res hf Q h st fns f W F:=⟨R.1,R.2.1,R.2.2.imp id (fun x=>by omega)⟩
variable {k:Nat}{A:Ma}
theorem zCh{g:Ma->Option (Except Nat Ma)}{P:Ma->Prop}{F:Nat}(R:Res hf Q A.h A.st A.fns A.fuel k F)(hg:Aft hf cd Q P (g A)):Aft hf cd Q P (ask hf k A g):=by
 unfold ask;split
 ·exact hg
 ·next hn=>
  refine .inl ⟨4,rfl,R.2.1.elim id (fun x=>(hn (zAR R.1.shut x)).elim)⟩
theorem zCa{i:Ins}(R:Res hf Q h st fns f W (F+1))(k:∀ f',f=f'+1->Res hf Q h st fns f' W F->Aft hf cd Q (Ex hf cd Q is) (Ma.step hf (cd.map Prod.fst) ⟨h,st,fns,f',nx,bl⟩ i)):Ex hf cd Q (i::is) ⟨h,st,fns,f,nx,bl⟩:=by
 unfold Ex;rw[Ma.zbb];cases f with
 |zero=>
  rw[if_pos rfl];exact .inl ⟨5,rfl,R.2.2.elim id (fun x=>by omega)⟩
 |succ f=>
  rw[if_neg (by show ¬ f+1=0;omega)];rcases k f rfl R.zsJ with ⟨j,e1,e2⟩|⟨A,e1,e2⟩
  ·show Aft hf cd Q _ (match Ma.step hf (cd.map Prod.fst) ⟨h,st,fns,f,nx,bl⟩ i with|none=>none|some (.error k)=>some (.error k)|some (.ok A2)=>Ma.zbb hf (cd.map Prod.fst) is A2);rw[e1];exact .inl ⟨j,rfl,e2⟩
  ·show Aft hf cd Q _ (match Ma.step hf (cd.map Prod.fst) ⟨h,st,fns,f,nx,bl⟩ i with|none=>none|some (.error k)=>some (.error k)|some (.ok A2)=>Ma.zbb hf (cd.map Prod.fst) is A2);rw[e1];exact e2
theorem zC9(k:Fin hf cd Q A):Ex hf cd Q [] A:=.inr ⟨A,rfl,k⟩
theorem zCr{i:Ins}{w:Ma->Option Wd}{x:Wd}(hi:∀ A:Ma,Ma.step hf (cd.map Prod.fst) A i=A.zjF hf w)(hw:∀ f,w ⟨h,st,fns,f,nx,bl⟩=some x)(hx:∀ a,x=.ad a->a<h.length)(R:Res hf Q h st fns f (W+1) (F+1))(k:∀ f,Res hf Q h (st++[x]) fns f W F->Ex hf cd Q is ⟨h,st++[x],fns,f,nx,bl⟩):Ex hf cd Q (i::is) ⟨h,st,fns,f,nx,bl⟩:=by
 refine zCa R fun f' _ R'=>?_
 rw[hi];unfold Ma.zjF;refine zCh (A:=⟨h,st,fns,f',nx,bl⟩) (R'.less (by omega) (zyN _)) (.inr ⟨_,by simp only[hw];rfl,k f' ?_⟩);exact R'.stack (fun a ha=>by rcases zzi.1 ha with ha|ha;exact .inl ha;exact .inr (hx a (zze.1 ha).symm)) (by simp;omega)
variable {j:Nat}
theorem zCn{x:Wd}(hb:0<=bl)(hx:st[bl.toNat+j]?=some x)(R:Res hf Q h st fns f (W+1) (F+1))(k:∀ f,Res hf Q h (st++[x]) fns f W F->Ex hf cd Q is ⟨h,st++[x],fns,f,nx,bl⟩):Ex hf cd Q (.push j::is) ⟨h,st,fns,f,nx,bl⟩:=
 zCr (fun _=>rfl) (fun f=>by unfold Ma.slot;rw[if_pos hb];exact hx) (fun a e=>R.1.1 a (by rw[<-e];exact zy1 hx)) R k
variable {a:Nat}
theorem zDv(hx:fns[j]?=some a)(R:Res hf Q h st fns f (W+1) (F+1))(k:∀ f,Res hf Q h (st++[.ad a]) fns f W F->Ex hf cd Q is ⟨h,st++[.ad a],fns,f,nx,bl⟩):Ex hf cd Q (.zcW j::is) ⟨h,st,fns,f,nx,bl⟩:=
 zCr (w:=fun A=>(A.fns[j]?).map Wd.ad) (fun _=>rfl) (fun f=>by show (fns[j]?).map Wd.ad=_;rw[hx];rfl) (fun b e=>by cases e;exact R.1.2.1 a (zy1 hx)) R k
variable {b:Nat}
theorem zCw(hb:b<=1000000000)(R:Res hf Q h st fns f (W+1) (F+1))(k:∀ f,Res hf Q h (st++[.mk 1 b]) fns f W F->Ex hf cd Q is ⟨h,st++[.mk 1 b],fns,f,nx,bl⟩):Ex hf cd Q (.wait b::is) ⟨h,st,fns,f,nx,bl⟩:=
 zCr (w:=fun _=>some (.mk 1 b)) (fun A=>by show (if b<=1000000000 then _ else _)=_;rw[if_pos hb]) (fun f=>rfl) (fun a e=>by cases e) R k
theorem zDw(hb:b<=1000000000)(R:Res hf Q h st fns f (W+1) (F+1))(k:∀ f,Res hf Q h (st++[.mk 2 b]) fns f W F->Ex hf cd Q is ⟨h,st++[.mk 2 b],fns,f,nx,bl⟩):Ex hf cd Q (.zbF b::is) ⟨h,st,fns,f,nx,bl⟩:=
 zCr (w:=fun _=>some (.mk 2 b)) (fun A=>by show (if b<=1000000000 then _ else _)=_;rw[if_pos hb]) (fun f=>rfl) (fun a e=>by cases e) R k
variable {v:Int}
theorem zEk(R:Res hf Q h st fns f (W+3) (F+1))(k:∀ f,Res hf Q (h++[.num v]) (st++[.ad h.length]) fns f W F->Ex hf cd Q is ⟨h++[.num v],st++[.ad h.length],fns,f,nx,bl⟩):Ex hf cd Q (.num v::is) ⟨h,st,fns,f,nx,bl⟩:=by
 refine zCa R fun f' _ R'=>?_
 rw[Ma.step];unfold Ma.zau;refine zCh (A:=⟨h,st,fns,f',nx,bl⟩) (R'.less (by omega) (zyN _)) (.inr ⟨_,rfl,k f' ?_⟩);exact (R'.node (n:=.num v) (W':=W+1) rfl (by simp[sz])).stack (fun a ha=>by rcases zzi.1 ha with ha|ha;exact .inl ha;cases zze.1 ha;exact .inr (by simp)) (by simp;omega)
theorem zC8(hb:b<=1000000000)(R:Res hf Q h st fns f (W+2) (F+1))(k:∀ f,Res hf Q (h++[.clo b []]) (st++[.ad h.length]) fns f W F->Ex hf cd Q is ⟨h++[.clo b []],st++[.ad h.length],fns,f,nx,bl⟩):Ex hf cd Q (.close b 0::is) ⟨h,st,fns,f,nx,bl⟩:=by
 refine zCa R fun f' _ R'=>?_
 show Aft hf cd Q _ (if b<=1000000000/\0<4096 then _ else _);rw[if_pos ⟨hb,by omega⟩];refine zCh (A:=⟨h,st,fns,f',nx,bl⟩) (R'.less (by omega) (zyN _)) (.inr ⟨⟨h++[.clo b []],st++[.ad h.length],fns,f',nx,bl⟩,?_,k f' ?_⟩)
 ·simp[zlT,zcE,zwL,okA]
 ·exact (R'.node (n:=.clo b []) (W':=W+1) rfl (by simp[sz])).stack (fun a ha=>by rcases zzi.1 ha with ha|ha;exact .inl ha;cases zze.1 ha;exact .inr (by simp)) (by simp;omega)
variable {c:Nat}
theorem zCk{S fr ws:List Wd}(hc:ws.length=c)(R:Res hf Q h (S++fr++ws) fns f W (F+1))(k:∀ f,Res hf Q h (S++ws) fns f W F->Ex hf cd Q is ⟨h,S++ws,fns,f,nx,S.length⟩):Ex hf cd Q (.zci c::is) ⟨h,S++fr++ws,fns,f,nx,S.length⟩:=by
 refine zCa R fun f' _ R'=>.inr ⟨⟨h,S++ws,fns,f',nx,S.length⟩,?_,k f' (R'.stack (fun a ha=>by simp at ha ⊢;rcases ha with ha|ha <;> simp[ha]) (by simp))⟩
 subst hc;show Option.map _ (Ma.zci ws.length ⟨h,S++fr++ws,fns,f',nx,S.length⟩)=_;unfold Ma.zci;rw[if_pos ⟨by simp,by simp⟩];simp only[zzP,zyP,zAb,Ma.mk.injEq,and_true,true_and];have e1:(S++fr++ws).take ((S.length:Int)).toNat=S:=by simp
 have e2:(S++fr++ws).drop ((S++fr++ws).length-ws.length)=ws:=by
  rw[show (S++fr++ws).length-ws.length=(S++fr).length by simp;omega];exact List.drop_left
 rw[e1,e2]
theorem zCR(hv:h[a]?=some (.num v)):Ma.zdW ⟨h,st++[.ad a],fns,f,nx,bl⟩ 0=some (.ok v):=by
 unfold Ma.zdW;rw[if_pos (by simp)];simp[hv]
theorem zDu(hv:h[a]?=some (.num v))(R:Res hf Q h (st++[.ad a]) fns f W (F+1))(k:∀ f,Res hf Q h (st++[.ad a]) fns f W F->Ex hf cd Q is ⟨h,st++[.ad a],fns,f,nx,bl⟩):Ex hf cd Q (.zbX::is) ⟨h,st++[.ad a],fns,f,nx,bl⟩:=
 zCa R fun f' _ R'=>.inr ⟨_,by show Option.map _ (Ma.zdW _ 0)=_;rw[zCR hv];rfl,k f' R'⟩
theorem zEs(R:Res hf Q h st fns f W (F+1))(k:∀ f,Res hf Q h st fns f W F->Fin hf cd Q ⟨h,st,fns,f,b,bl⟩):Ex hf cd Q [.jump b] ⟨h,st,fns,f,nx,bl⟩:=
 zCa R fun f' _ R'=>.inr ⟨_,rfl,zC9 (k f' R')⟩
def opV (k:Nat) (x y:Int):Option Int:=
 if k=0 then some (IntKind.i64.wrap (x+y)) else
 if k=1 then some (IntKind.i64.wrap (x-y)) else
 if k=2 then some (IntKind.i64.wrap (x*y)) else
 if y=0 then none else some (IntKind.i64.wrap (Int.tdiv x y))
theorem zDt{x y:Int}(hj:j<4)(hx:h[a]?=some (.num x))(hy:h[b]?=some (.num y))(R:Res hf Q h (st++[.ad a,.ad b]) fns f (W+1) (F+1))(k3:opV j x y=none->Q (.error 3))(k:∀ n,opV j x y=some n->∀ f,Res hf Q (h++[.num n]) (st++[.ad h.length]) fns f W F->Ex hf cd Q is ⟨h++[.num n],st++[.ad h.length],fns,f,nx,bl⟩):Ex hf cd Q (.comp ⟨(Sm.sign j).toArray⟩::is) ⟨h,st++[.ad a,.ad b],fns,f,nx,bl⟩:=by
 refine zCa R fun f' _ R'=>?_
 show Aft hf cd Q _ (Ma.compute hf _ _);unfold Ma.compute;have e0:Ma.zdW ⟨h,st++[.ad a,.ad b],fns,f',nx,bl⟩ 0=some (.ok y):=by
  have:=zCR (st:=st++[.ad a]) (fns:=fns) (f:=f') (nx:=nx) (bl:=bl) hy
  rwa [zzk]at this
 have e1:Ma.zdW ⟨h,st++[.ad a,.ad b],fns,f',nx,bl⟩ 1=some (.ok x):=by
  unfold Ma.zdW;rw[if_pos (by simp)];simp[hx]
 rw[e0];simp only;rw[e1];simp only;have ec:zcE (st++[.ad a,.ad b]) 2=st:=by simp[zcE]
 rw[ec];have push:∀ n,opV j x y=some n->Aft hf cd Q (Ex hf cd Q is) (Ma.zau hf n ⟨h,st,fns,f',nx,bl⟩):=fun n hn=>by
  have R1:Res hf Q h st fns f' (W+3) F:=R'.stack (fun c hc=>.inl (List.mem_append_left _ hc)) (by simp;omega);unfold Ma.zau;refine zCh (A:=⟨h,st,fns,f',nx,bl⟩) (R1.less (by omega) (zyN _)) (.inr ⟨_,rfl,k n hn f' ?_⟩);exact (R1.node (n:=.num n) (W':=W+1) rfl (by simp[sz])).stack (fun a ha=>by rcases zzi.1 ha with ha|ha;exact .inl ha;cases zze.1 ha;exact .inr (by simp)) (by simp;omega)
 obtain rfl|rfl|rfl|rfl:j=0\/j=1\/j=2\/j=3:=by omega
 ·exact push _ rfl
 ·exact push _ rfl
 ·exact push _ rfl
 ·by_cases aT:y=0
  ·refine .inl ⟨3,?_,k3 (by simp[opV,aT])⟩;show (if y=0 then _ else _)=_;rw[if_pos aT]
  ·have:=push (IntKind.i64.wrap (Int.tdiv x y)) (by simp[opV,aT]);show Aft hf cd Q _ (if y=0 then _ else _);rw[if_neg aT];exact this
theorem zCE(hn:h[a]?=some nd)(hf:zaV nd=false):can h a=a:=zdc hn hf
theorem cut1(a:Nat):zcE (st++[.ad a]) 1=st:=by simp[zcE]
theorem zCq(hv:h[a]?=some (.num v))(R:Res hf Q h (st++[.ad a]) fns f W (F+1))(k:∀ f,Res hf Q h (st++[.ad a]) fns f W F->Gv hf cd Q ⟨h,st++[.ad a],fns,f,nx,bl⟩):Ex hf cd Q [.enter] ⟨h,st++[.ad a],fns,f,nx,bl⟩:=by
 refine zCa R fun f' _ R'=>?_
 show Aft hf cd Q _ (Ma.enter hf _ _);unfold Ma.enter;rw[show (⟨h,st++[.ad a],fns,f',nx,bl⟩:Ma).st.getLast?=some (.ad a) by simp];simp only;rw[zCE hv rfl,hv,cut1];rcases k f' R' ((st++[Wd.ad a]).length+1) (Nat.lt_succ_self _) with ⟨j,e1,e2⟩|⟨A,e1,e2⟩
 ·exact .inl ⟨j,e1,e2⟩
 ·exact .inr ⟨A,e1,zC9 e2⟩
theorem zDh(hv:h[a]?=some (.clo b []))(hb:(cd.map Prod.fst)[b]?=some (n+1))(R:Res hf Q h (st++[.ad a]) fns f W (F+1))(k:∀ f,Res hf Q h (st++[.ad a]) fns f W F->Gv hf cd Q ⟨h,st++[.ad a],fns,f,nx,bl⟩):Ex hf cd Q [.enter] ⟨h,st++[.ad a],fns,f,nx,bl⟩:=by
 refine zCa R fun f' _ R'=>?_
 show Aft hf cd Q _ (Ma.enter hf _ _);unfold Ma.enter;rw[show (⟨h,st++[.ad a],fns,f',nx,bl⟩:Ma).st.getLast?=some (.ad a) by simp];simp only;rw[zCE hv rfl,hv,cut1];simp only;rw[hb];simp only;rw[if_neg (by simp),if_pos (by simp)];rcases k f' R' ((st++[Wd.ad a]).length+1) (Nat.lt_succ_self _) with ⟨j,e1,e2⟩|⟨A,e1,e2⟩
 ·exact .inl ⟨j,e1,e2⟩
 ·exact .inr ⟨A,e1,zC9 e2⟩
theorem zCV(hv:h[a]?=some (.clo b []))(hb:(cd.map Prod.fst)[b]?=some 0)(R:Res hf Q h (st++[.ad a]) fns f (W+1) (F+1))(k:∀ f,Res hf Q (h.set a .busy) (st++[.ad a,.mk 0 0]) fns f W F->Fin hf cd Q ⟨h.set a .busy,st++[.ad a,.mk 0 0],fns,f,b,bl⟩):Ex hf cd Q [.enter] ⟨h,st++[.ad a],fns,f,nx,bl⟩:=by
 refine zCa R fun f' _ R'=>?_
 show Aft hf cd Q _ (Ma.enter hf _ _);unfold Ma.enter;rw[show (⟨h,st++[.ad a],fns,f',nx,bl⟩:Ma).st.getLast?=some (.ad a) by simp];simp only;rw[zCE hv rfl,hv,cut1];simp only;rw[hb];simp only;rw[if_pos (by simp)];unfold Ma.zdy;refine zCh (A:=⟨h,st++[.ad a],fns,f',nx,bl⟩) (R'.less (show 1+([]:List Nat).length<=W+1 by simp) (zyN _)) ?_;refine .inr ⟨⟨h.set a .busy,st++[.ad a,.mk 0 0],fns,f',b,bl⟩,?_,zC9 (k f' ?_)⟩
 ·simp[okA]
 ·exact (R'.set a rfl rfl).stack (fun c hc=>by simp at hc ⊢;rcases hc with hc|hc <;> simp[hc]) (by simp;omega)
theorem zEm{v:Nat}{n:Int}(hc:h[c]?=some .busy)(hv:h[v]?=some (.num n))(k:Gv hf cd Q ⟨h.set c (.fwd v),st++[.ad v],fns,f,nx,bl⟩):Gv hf cd Q ⟨h,st++[.ad c,.mk 0 0,.ad v],fns,f,nx,bl⟩:=fun g hg=>by
 cases g with
 |zero=>exact absurd hg (by omega)
 |succ g=>
  have hl:(st++[Wd.ad c,.mk 0 0,.ad v]).length=st.length+3:=by simp
  have JI:st.length+3<g+1:=by rw[<-hl];exact hg
  rw[Ma.za1,if_neg (by show ¬ (st++[Wd.ad c,.mk 0 0,.ad v]).length<=1;omega)];have e2:(st++[Wd.ad c,.mk 0 0,.ad v])[(st++[Wd.ad c,.mk 0 0,.ad v]).length-2]?=some (.mk 0 0):=by rw[hl];simp
  have e1:(st++[Wd.ad c,.mk 0 0,.ad v])[(st++[Wd.ad c,.mk 0 0,.ad v]).length-1]?=some (.ad v):=by rw[hl];simp
  have e3:(st++[Wd.ad c,.mk 0 0,.ad v])[(st++[Wd.ad c,.mk 0 0,.ad v]).length-3]?=some (.ad c):=by rw[hl];simp
  simp only[e2,e1,e3,hc,hv];rw[if_neg (by omega),if_pos trivial,if_pos (by rw[hl];omega)];have ec:zcE (st++[Wd.ad c,.mk 0 0,.ad v]) 3=st:=by simp[zcE]
  rw[ec];exact k g (by show (st++[Wd.ad v]).length<g;simp;omega)
theorem zCG{v:Nat}(hb:b<1000000000)(k:Fin hf cd Q ⟨h,st++[.ad v],fns,f,b,bl⟩):Gv hf cd Q ⟨h,st++[.mk 1 b,.ad v],fns,f,nx,bl⟩:=fun g hg=>by
 cases g with
 |zero=>exact absurd hg (by omega)
 |succ g=>
  have hl:(st++[Wd.mk 1 b,.ad v]).length=st.length+2:=by simp
  rw[Ma.za1,if_neg (by show ¬ (st++[Wd.mk 1 b,.ad v]).length<=1;omega)];have e2:(st++[Wd.mk 1 b,.ad v])[(st++[Wd.mk 1 b,.ad v]).length-2]?=some (.mk 1 b):=by rw[hl];simp
  have e1:(st++[Wd.mk 1 b,.ad v])[(st++[Wd.mk 1 b,.ad v]).length-1]?=some (.ad v):=by rw[hl];simp
  simp only[e2,e1];rw[if_neg (by omega),if_neg (by omega),if_pos trivial];have ec:zcE (st++[Wd.mk 1 b,.ad v]) 2=st:=by simp[zcE]
  rw[ec];exact .inr ⟨_,rfl,k⟩
theorem gv_fn{x y:Wd}{F:Nat}(hv:h[a]?=some (.clo b []))(hb:(cd.map Prod.fst)[b]?=some 2)(R:Res hf Q h (st++[x,y,.mk 2 2,.ad a]) fns f 0 F)(k:Fin hf cd Q ⟨h,st++[x,y],fns,f,b,bl⟩):Gv hf cd Q ⟨h,st++[x,y,.mk 2 2,.ad a],fns,f,nx,bl⟩:=fun g hg=>by
 cases g with
 |zero=>exact absurd hg (by omega)
 |succ g=>
  have hl:(st++[x,y,.mk 2 2,.ad a]).length=st.length+4:=by simp
  rw[Ma.za1,if_neg (by show ¬ (st++[x,y,.mk 2 2,.ad a]).length<=1;omega)];have e2:(st++[x,y,.mk 2 2,.ad a])[(st++[x,y,.mk 2 2,.ad a]).length-2]?=some (.mk 2 2):=by rw[hl];simp
  simp only[e2];rw[if_neg (by omega),if_neg (by omega),if_neg (by omega),if_pos trivial];have ea:Ma.za5 hf (cd.map Prod.fst) 2 ⟨h,st++[x,y,.mk 2 2,.ad a],fns,f,nx,bl⟩=some (.ok (true,⟨h,st++[x,y],fns,f,b,bl⟩))\/(Ma.za5 hf (cd.map Prod.fst) 2 ⟨h,st++[x,y,.mk 2 2,.ad a],fns,f,nx,bl⟩=some (.error 4)/\Q (.error 4)):=by
   unfold Ma.za5;rw[show (⟨h,st++[x,y,.mk 2 2,.ad a],fns,f,nx,bl⟩:Ma).st.getLast?=some (.ad a) by simp];simp only[hv,hb];rw[if_neg (by simp),if_neg (by simp),if_neg (by omega)];unfold Ma.call ask;by_cases aJ:Fits hf ⟨h,st++[x,y,.mk 2 2,.ad a],fns,f,nx,bl⟩ ([]:List Nat).length
   ·rw[if_pos aJ];left;have et:(st++[x,y,.mk 2 2,.ad a]).take (st.length+2)=st++[x,y]:=by
     rw[List.take_append,zy9 (by omega),Nat.add_sub_cancel_left];rfl
    simp[okA,leave,zcE,et]
   ·rw[if_neg aJ];exact .inr ⟨rfl,R.2.1.elim id (fun x=>(aJ (zAR R.1.shut x)).elim)⟩
  rcases ea with ea|⟨ea,q4⟩
  ·rw[ea];exact .inr ⟨_,rfl,k⟩
  ·rw[ea];exact .inl ⟨4,rfl,q4⟩
theorem zER{v:Nat}(k:Q (.ok ⟨h,[.ad v],fns,f,-1,bl⟩)):Gv hf cd Q ⟨h,[.ad v],fns,f,nx,bl⟩:=fun g hg=>by
 cases g with
 |zero=>exact absurd hg (by omega)
 |succ g=>
  rw[Ma.za1,if_pos (by simp)];exact .inr ⟨_,rfl,1,_,by rw[Ma.work,if_pos rfl];rfl,k⟩
theorem zB4{c:List Ins}(hb:cd[b]?=some (n,c))(k:Ex hf cd Q c ⟨h,st,fns,f,b,(st.length:Int)-n⟩):Fin hf cd Q ⟨h,st,fns,f,b,bl⟩:=by
 rcases k with ⟨j,e1,e2⟩|⟨A,e1,g,r,e2,e3⟩
 ·refine ⟨1,.error j,?_,e2⟩;rw[Ma.work,if_neg (by simp),if_neg (by simp)];simp only[zy2,hb];rw[e1]
 ·refine ⟨g+1,r,?_,e3⟩;rw[Ma.work,if_neg (by simp),if_neg (by simp)];simp only[zy2,hb];rw[e1];exact e2
variable {hf:Nat} {cd:List (Nat × List Ins)} {Q:Except Nat Ma->Prop} {h:List Nd} {st:List Wd} {fns:List Nat} {f W F:Nat} {nx bl:Int}
def zD9 (hf:Nat) (cd:List (Nat × List Ins)) (Q:Except Nat Ma->Prop) (v:Option Int) (L:Nat) (h:List Nd) (st:List Wd) (fns:List Nat) (W F:Nat):Prop:=
 (v=none->Q (.error 3))/\∀ n,v=some n->∀ (h':List Nd) (a f:Nat) (nx bl:Int),h.length<=h'.length->(∀ i,i<L->h'[i]?=h[i]?)->h'[a]?=some (.num n)->Res hf Q h' (st++[.ad a]) fns f W F->Gv hf cd Q ⟨h',st++[.ad a],fns,f,nx,bl⟩
def FO (h:List Nd):Prop:=∀ k,k<4->h[k]?=some (.clo k [])
theorem FO.len(o:FO h):4<=h.length:=by
 have:=(zyL.1 (o 3 (by omega))).1;omega
def Runs (hf:Nat) (cd:List (Nat × List Ins)) (Q:Except Nat Ma->Prop) (fns:List Nat) (x:Sm) (c:List Ins):Prop:=
 ∀ (h:List Nd) (st:List Wd) (f W F:Nat) (nx:Int),FO h->Res hf Q h st fns f (W+30*x.ct) (F+30*x.ct)->zD9 hf cd Q x.val h.length h st fns W F->Ex hf cd Q c ⟨h,st,fns,f,nx,st.length⟩
def HdN (hf:Nat) (cd:List (Nat × List Ins)) (Q:Except Nat Ma->Prop) (fns:List Nat) (nd:Nd) (x:Sm):Prop:=
 (∃ n:Nat,x=.num n/\nd=.num n)\/∃ b c,nd=.clo b []/\cd[b]?=some (0,c)/\Runs hf cd Q fns x c
theorem zC6(x:Sm):1<=x.ct:=by cases x <;> simp[Sm.ct]
theorem zEg{c:List Ins}(hb:cd[b]?=some (n,c)):(cd.map Prod.fst)[b]?=some n:=by simp[hb]
theorem force{L:Nat}{x:Sm}(h4:4<=L)(JH:L<=a)(hn:h[a]?=some nd)(hx:HdN hf cd Q fns nd x)(o:FO h)(R:Res hf Q h (st++[.ad a]) fns f (W+30*x.ct+1) (F+30*x.ct+1))(c3:x.val=none->Q (.error 3))(k:∀ n,x.val=some n->∀ (h':List Nd) (v f:Nat) (nx bl:Int),h.length<=h'.length->(∀ i,i<h.length->(i≠a\/∃ n,h[i]?=some (.num n))->h'[i]?=h[i]?)->h'[v]?=some (.num n)->Res hf Q h' (st++[.ad v]) fns f W F->Gv hf cd Q ⟨h',st++[.ad v],fns,f,nx,bl⟩):Ex hf cd Q [.enter] ⟨h,st++[.ad a],fns,f,nx,bl⟩:=by
 rcases hx with ⟨n,rfl,rfl⟩|⟨b,c,rfl,hc,hr⟩
 ·exact zCq hn (R.less (W':=W) (F':=F+1) (by omega) (by omega)) fun f R=>k n rfl h a f nx bl (zyN _) (fun _ _ _=>rfl) hn R
 ·have aU:a<h.length:=(zyL.1 hn).1;refine zCV (W:=W+30*x.ct) (F:=F+30*x.ct) hn (zEg hc) R fun f R=>zB4 hc ?_
  have e0:((st++[Wd.ad a,.mk 0 0]).length:Int)-(0:Nat)=((st++[Wd.ad a,.mk 0 0]).length:Int):=by simp
  rw[e0];refine hr _ _ _ W F _ (fun j hj=>by rw[zAo (by omega)];exact o j hj) R ⟨c3,fun n hv h' v f nx bl p1 p2 p3 R=>?_⟩;rw[zy6]at p1 p2;have hb:h'[a]?=some .busy:=by rw[p2 a aU,List.getElem?_set_self aU]
  have Jq:v≠a:=fun e=>by rw[e,hb]at p3;cases p3
  have dJ:v<h'.length:=(zyL.1 p3).1;rw[zzk]at R ⊢;refine zEm hb p3 (k n hv _ v f nx bl (by rw[zy6];exact p1) (fun i hi E0=>?_) (by rw[zAo (Ne.symm Jq)];exact p3) ?_)
  ·have Ap:i≠a:=fun e=>by
    rcases E0 with E0|⟨m,E0⟩
    ·exact E0 e
    ·rw[e,hn]at E0;cases E0
   rw[zAo (Ne.symm Ap),p2 i hi,zAo (Ne.symm Ap)]
  ·exact (R.set a (n:=.fwd v) (by simpa [inN] using dJ) rfl).stack (fun c hc=>by simp at hc ⊢;rcases hc with hc|hc <;> simp[hc]) (by simp)
theorem zEp(Ij k:Nat)(x y:Sm):(Sm.op Ij k x y).val=(match x.val,y.val with|some a,some b=>opV k a b|_,_=>none):=by
 rw[Sm.val];cases x.val <;> cases y.val <;> rfl
theorem two{p q d L Ij:Nat}{np nq:Nd}{x y:Sm}(hj:j<4)(hc:cd[c]?=some (2,[.zbX,.push 1,.wait d,.push 0,.zci 3,.enter]))(hd:cd[d]?=some (2,[.comp ⟨(Sm.sign j).toArray⟩,.enter]))(aN:cd.length<1000000000)(h4:4<=L)(hp:L<=p)(hq:L<=q)(Iu:p≠q)(IU:h[p]?=some np)(hx:HdN hf cd Q fns np x)(IC:h[q]?=some nq)(hy:HdN hf cd Q fns nq y)(o:FO h)(R:Res hf Q h (st++[.ad q,.mk 1 c,.ad p]) fns f (W+30*x.ct+30*y.ct+10) (F+30*x.ct+30*y.ct+10))(K:zD9 hf cd Q (Sm.op Ij j x y).val L h st fns W F):Ex hf cd Q [.enter] ⟨h,st++[.ad q,.mk 1 c,.ad p],fns,f,nx,bl⟩:=by
 have IP:c<cd.length:=(zyL.1 hc).1;have Jl:d<cd.length:=(zyL.1 hd).1;have p7:q<h.length:=(zyL.1 IC).1;rw[zEp]at K;have e0:st++[Wd.ad q,.mk 1 c,.ad p]=(st++[Wd.ad q,.mk 1 c])++[.ad p]:=by simp
 rw[e0]at R ⊢;refine force (W:=W+30*y.ct+9) (F:=F+30*y.ct+9) h4 hp IU hx o (R.less (by omega) (by omega)) (fun e=>K.1 (by rw[e])) fun n1 v1 h1 a1 f nx bl l1 s1 m1 R=>?_
 rw[show (st++[Wd.ad q,.mk 1 c])++[.ad a1]=(st++[Wd.ad q])++[.mk 1 c,.ad a1] by simp]at R ⊢;refine zCG (by omega) (zB4 hc ?_);have aA:((st++[Wd.ad q]++[Wd.ad a1]).length:Int)-(2:Nat)=(st.length:Int):=by simp only[zyT,zy8,zzm];omega
 rw[aA];have R1:Res hf Q h1 (st++[.ad q]++[.ad a1]) fns f (W+30*y.ct+10) (F+30*y.ct+9):=R.stack (fun c hc=>by simp at hc ⊢;rcases hc with hc|hc|hc <;> simp[hc]) (by simp;omega);refine zDu (W:=W+30*y.ct+10) (F:=F+30*y.ct+8) m1 (R1.less (by omega) (by omega)) fun f R=>?_
 refine zCn (x:=.ad a1) (W:=W+30*y.ct+9) (F:=F+30*y.ct+7) (by omega) (by simp) R fun f R=>?_
 refine zCw (W:=W+30*y.ct+8) (F:=F+30*y.ct+6) (by omega) R fun f R=>?_
 refine zCn (x:=.ad q) (W:=W+30*y.ct+7) (F:=F+30*y.ct+5) (by omega) (by simp) R fun f R=>?_
 have e1:st++[Wd.ad q]++[.ad a1]++[.ad a1]++[.mk 1 d]++[.ad q]=st++[.ad q,.ad a1]++[.ad a1,.mk 1 d,.ad q]:=by simp
 rw[e1]at R ⊢;refine zCk (F:=F+30*y.ct+4) rfl R fun f R=>?_
 rw[show st++[Wd.ad a1,.mk 1 d,.ad q]=(st++[Wd.ad a1,.mk 1 d])++[.ad q] by simp]at R ⊢;have cF:h1[q]?=some nq:=by rw[s1 q p7 (.inl (Ne.symm Iu))];exact IC
 have o1:FO h1:=fun j hj=>by rw[s1 j (by omega) (.inl (by omega))];exact o j hj
 refine force (W:=W+3) (F:=F+3) h4 hq cF hy o1 (R.less (by omega) (by omega)) (fun e=>K.1 (by rw[v1,e])) fun n2 v2 h2 a2 f nx bl l2 s2 m2 R=>?_
 rw[show (st++[Wd.ad a1,.mk 1 d])++[.ad a2]=(st++[Wd.ad a1])++[.mk 1 d,.ad a2] by simp]at R ⊢;refine zCG (by omega) (zB4 hd ?_);have aw:((st++[Wd.ad a1]++[Wd.ad a2]).length:Int)-(2:Nat)=(st.length:Int):=by simp only[zyT,zy8,zzm];omega
 rw[aw];have R1:Res hf Q h2 (st++[.ad a1]++[.ad a2]) fns f (W+3) (F+3):=R.stack (fun c hc=>by simp at hc ⊢;rcases hc with hc|hc|hc <;> simp[hc]) (by simp);rw[show st++[Wd.ad a1]++[.ad a2]=st++[.ad a1,.ad a2] by simp]at R1 ⊢;rw[v1,v2]at K;have mQ:h2[a1]?=some (.num n1):=by rw[s2 a1 (zyL.1 m1).1 (.inr ⟨n1,m1⟩)];exact m1
 refine zDt (W:=W+2) (F:=F+2) hj mQ m2 R1 K.1 fun n hn f R=>?_
 have gU:(h2++[Nd.num n])[h2.length]?=some (.num n):=by simp
 refine zCq (W:=W) (F:=F) gU (R.less (by omega) (by omega)) fun f R=>K.2 n hn _ _ _ _ _ (by simp;omega) (fun i hi=>?_) gU R
 have GB:i<h.length:=by omega
 rw[zzc (by omega),s2 i (by omega) (.inl (by omega)),s1 i GB (.inl (by omega))]
end Sg
end Ab
end Go.Proofs.YtgahgkddaljmkaaGreatDoor
namespace Go.Proofs.YtgahgkddaljmkaaGreatDoor
open Tryz
namespace Ab
namespace Sg
open Cp
def Bd (k:Nat) (d:Th.Ex):Prop:=d.kind=6/\d.tok.s=Sm.sign k/\∃ l r,d.kids=[l,r]/\l.kind=2/\l.tok.s=[112]/\r.kind=2/\r.tok.s=[113]
def Is:Sm->Th.Ex->Prop
 |.num n,e=>e.kind=1/\e.n=n
 |.op _ k a b,e=>k<4 /\
  ((e.kind=6/\e.tok.s=Sm.sign k/\∃ l r,e.kids=[l,r]/\Is a l/\Is b r) \/
   (e.kind=7/\Th.texts e.names=[[112],[113]]/\∃ d l r,e.kids=[d,l,r]/\Bd k d/\Is a l/\Is b r) \/
   (e.kind=5/\∃ f g l r,e.kids=[f,r]/\f.kind=5/\f.kids=[g,l]/\Is a l/\Is b r/\((g.kind=2/\g.tok.s=Sm.name k)\/(g.kind=4/\Th.texts g.names=[[112],[113]]/\∃ d,g.kids=[d]/\Bd k d))))
variable {e:Th.Ex}{x:Nm}
theorem zDz(hk:e.kind=2):∀ {N:Nat},x∈free N e->x=e.tok.s
 |0,h=>by simp[free]at h
 |N+1,h=>by rw[free,if_pos hk]at h;simpa using h
theorem zCF{a b:Th.Ex}(hk:e.kind=5\/e.kind=6)(hs:e.kids=[a,b]):∀ {N:Nat},x∈free N e->∃ M,x∈free M a\/x∈free M b
 |0,h=>by simp[free]at h
 |N+1,h=>by rw[free,if_neg (by omega),if_neg (by omega),if_pos hk,hs]at h;exact ⟨N,zaw.1 h⟩
variable {d:Th.Ex}
theorem zEl(hk:e.kind=4)(hs:e.kids=[d]):∀ {N:Nat},x∈free N e->∃ M,x∈free M d
 |0,h=>by simp[free]at h
 |N+1,h=>by rw[free,if_neg (by omega),if_pos hk,hs]at h;exact ⟨N,(zaN.1 h).1⟩
theorem zEQ{ps:List Th.Ex}(hk:e.kind=7)(hs:e.kids=d::ps):∀ {N:Nat},x∈free N e->∃ M,x∈free M d\/∃ p∈ps,x∈free M p
 |0,h=>by simp[free]at h
 |N+1,h=>by
  rw[free,if_neg (by omega),if_neg (by omega),if_neg (by omega),if_pos hk,hs]at h;refine ⟨N,?_⟩;rcases zaw.1 h with h|h
  ·rcases zbh.1 h with h|h
   ·cases h
   ·exact .inr h
  ·exact .inl (zaN.1 h).1
variable {k N:Nat}
theorem zCU(B:Bd k d):[] ∉ free N d:=fun h=>by
 obtain ⟨b1,_,l,r,b2,b3,b4,b5,b6⟩:=B;obtain ⟨M,h|h⟩:=zCF (.inr b1) b2 h
 ·have:=zDz b3 h;rw[b4]at this;cases this
 ·have:=zDz b5 h;rw[b6]at this;cases this
theorem zDZ(k:Nat):Sm.name k≠[]:=by
 unfold Sm.name;split
 ·simp
 ·split
  ·simp
  ·split <;> simp
theorem zCd:∀ {x:Sm} {e:Th.Ex} {N:Nat},Is x e->[] ∉ free N e
 |.num n,e,N,⟨h,_⟩=>fun hx=>by
  cases N with
  |zero=>simp[free]at hx
  |succ N=>rw[free,if_neg (by omega),if_neg (by omega),if_neg (by omega),if_neg (by omega),if_neg (by omega),if_neg (by omega)]at hx;cases hx
 |.op _ k a b,e,N,⟨_,h⟩=>fun hx=>by
  rcases h with ⟨h1,_,l,r,h2,h3,h4⟩|⟨h1,_,d,l,r,h2,h3,h4,h5⟩|⟨h1,f,g,l,r,h2,h3,h4,h5,h6,h7⟩
  ·obtain ⟨M,hx|hx⟩:=zCF (.inr h1) h2 hx
   ·exact zCd h3 hx
   ·exact zCd h4 hx
  ·obtain ⟨M,hx|⟨p,hp,hx⟩⟩:=zEQ h1 h2 hx
   ·exact zCU h3 hx
   ·rcases zzo.1 hp with rfl|hp
    ·exact zCd h4 hx
    ·cases zze.1 hp;exact zCd h5 hx
  ·obtain ⟨M,hx|hx⟩:=zCF (.inl h1) h2 hx
   ·obtain ⟨M,hx|hx⟩:=zCF (.inl h3) h4 hx
    ·rcases h7 with ⟨g1,g2⟩|⟨g1,_,d,g2,g3⟩
     ·have:=zDz g1 hx;rw[g2]at this;exact zDZ k this.symm
     ·obtain ⟨M,hx⟩:=zEl g1 g2 hx;exact zCU g3 hx
    ·exact zCd h5 hx
   ·exact zCd h6 hx
variable {m:Nat}
theorem zCs{l:List Nm}(h:[] ∉ l):zai (List.replicate m []) l=[]:=by
 rw[List.eq_nil_iff_forall_not_mem];intro x hx;obtain ⟨h1,h2⟩:=zbK.1 hx;rw[(List.mem_replicate.1 h2).2]at h1;exact h h1
theorem zD2(h:x≠[]):za9 (List.replicate m []) x=none:=zca.2 fun hx=>h (List.mem_replicate.1 hx).2
theorem fr_2(hk:e.kind=2):free (N+1) e=[e.tok.s]:=by rw[free,if_pos hk]
variable {fns:List Nm}{i:Nat}
theorem zCM{b:Bs}(h:za9 b.zac x=some i):b.use fns x=⟨b.blocks,b.zac++[[]],b.code++[.push i]⟩:=by
 unfold Bs.use;rw[h];rfl
theorem zEi{b:Bs}(h:za9 b.zac x=none):b.use fns x=⟨b.blocks,b.zac++[[]],b.code++[.zcW (fns.idxOf x)]⟩:=by
 unfold Bs.use;rw[h];rfl
variable {n:Nat}
theorem zD8{fr:Th.Ex->List Nm}{below:Nat}{b:Bs}(hk:e.kind=2):work fr fns (n+1) e below b=(b.use fns e.tok.s).ends (below+1) .enter:=by
 rw[work,if_neg (by omega),if_neg (by omega),if_neg (by omega),if_neg (by omega)];unfold zaI;rw[if_pos hk]
theorem zCP{ip iq:Nat}{b:Bs}(B:Bd k d)(hp:za9 b.zac [112]=some ip)(hq:za9 b.zac [113]=some iq):
  (work (free (N+1)) fns (n+2) d 0 b).code=b.code++[.push iq,.wait (b.blocks.length+1),.push ip,.zci 3,.enter] /\
  (work (free (N+1)) fns (n+2) d 0 b).blocks=b.blocks++[(2,[.comp ⟨(Sm.sign k).toArray⟩,.enter]),(2,[.zbX,.push 1,.wait b.blocks.length,.push 0,.zci 3,.enter])]:=by
 obtain ⟨b1,bs,l,r,b2,b3,b4,b5,b6⟩:=B;have hh:zai b.zac (free (N+1) r)=[[113]]:=by rw[fr_2 b5,b6];simp[zai,hq]
 rw[zh3 fns (n+1) 0 b b1 b2,hh,zD8 b5,zD8 b3,b4,b6];have lx:∀ bl c,Bs.use fns ⟨bl,b.zac,c⟩ [113]=⟨bl,b.zac++[[]],c++[.push iq]⟩:=fun bl c=>zCM (b:=⟨bl,b.zac,c⟩) hq
 have e1:za9 (zbo b [[113]] d).zac [113]=some 0:=by
  show za9 [[113],[],[],[]] [113]=some 0;decide
 have e2:za9 ((Bs.zak fns ⟨(((zbo b [[113]] d).use fns [113]).ends (2+1) .enter).blocks++[([([113]:Nm)].length+1,(((zbo b [[113]] d).use fns [113]).ends (2+1) .enter).code)],b.zac,b.code⟩ [[113]]).push (.wait (((zbo b [[113]] d).use fns [113]).ends (2+1) .enter).blocks.length)).zac [112]=some ip:=by
  simp only[Bs.zak,List.reverse_cons,List.reverse_nil,zzb,zz2,List.foldl_nil];rw[lx];show za9 (b.zac++[[]]++[[]]) [112]=some ip;rw[zpR (by simp),zpR (by simp),hp]
 rw[zCM e2];simp only[Bs.zak,List.reverse_cons,List.reverse_nil,zzb,zz2,List.foldl_nil];rw[lx,zCM e1];simp[Bs.ends,Bs.write,Bs.push,zbo,bs]
end Sg
end Ab
end Go.Proofs.YtgahgkddaljmkaaGreatDoor
