/- SmE .. SmX -/
import Derived.Test.YtgahgkddaljmkaaGreatDoorR27
import Derived.Deep.CutBlock
set_option maxRecDepth 100000
set_option maxHeartbeats 4000000
namespace Go.Proofs.YtgahgkddaljmkaaGreatDoor
open Tryz
open Go.RowKit
attribute [local go_sem ↓] Go.wp_at_zero Go.wp_at_succ
theorem Fr.rowN{K:Nat->Prop}{a b:World}(h:Fr K a b){g:Nat}(hg:a.heap.size<=g)(cs:Array Value):Fr K a (b.setRow g cs):=
 ⟨h.os,h.tape,h.output,by simp[World.setRow];exact h.size,fun k hk hK=>by rw[setRow_other b g k cs (by omega)];exact h.block k hk hK⟩
theorem zEj(t:List UInt8):(⟨#[40]⟩:ByteArray)++⟨t.toArray⟩++⟨#[41]⟩=⟨(Sm.par t).toArray⟩:=by
 have e1:(⟨#[40]⟩:ByteArray)=⟨[40].toArray⟩:=rfl;have e2:(⟨#[41]⟩:ByteArray)=⟨[41].toArray⟩:=rfl;rw[e1,e2,zqj,zqj];rfl
theorem zEC{k:Nat}(hk:k<4):(⟨#[43,45,42,47]⟩:ByteArray).extract k (k+1)=⟨(Sm.sign k).toArray⟩:=by
 obtain rfl|rfl|rfl|rfl:k=0\/k=1\/k=2\/k=3:=by omega
 all_goals rfl
theorem zB2{a b:ByteArray}{la lb:List UInt8}(ha:a=⟨la.toArray⟩)(hb:b=⟨lb.toArray⟩)(h:la.length+lb.length<=1000000):∃ r,Hid (r=⟨(la++lb).toArray⟩)/\∀ W:World,(Op.stringOp .add a b).run prog W=.ok (.string r) W:=
 ⟨_,zab rfl,zl9 (by rw[ha,hb,zqj]) (by show (la++lb).toArray.size<=1000000;simp;omega)⟩
variable {w:World}{sb len:Nat}
theorem zE1{cap i left d Ij k i1 Ir i2 kl i3:Nat}{t1 t2:List UInt8}{x1 x2:Int}{p1 p2:Bool}{a:Option Addr}{g:Nat->Int}(hd:d<=5)(hk:k<4)(hh:Ij≠0)(h8:Ij<8)(Ix:left+1<=1000)(l1:t1.length<=100000)(l2:t2.length<=100000)(N1:Hid (∀ W,zB9 W sb a len cap g i (left+1)->Calls prog 32 #[.pointer (some ⟨sb,0,none⟩),.int .i64 8] W fun e w'=>e=.returned (.int .i64 Ij)/\Fr (fun b=>b=sb) W w'/\Blk w' sb [.slice a len cap,.int .i64 (zBZ len i),.int .i64 ((left+1:Nat):Int)] 29))(H:zB9 w sb a len cap g i (left+1))(IY:Hid (∀ W,zB9 W sb a len cap g (zBZ len i) left->Calls prog 19 #[.pointer (some ⟨sb,0,none⟩),.int .i64 d] W fun e w'=>e=.returned (.agg #[.string ⟨t1.toArray⟩,.int .i64 x1,.bool p1])/\Fr (fun b=>b=sb) W w'/\zB9 w' sb a len cap g i1 Ir))(IZ:Hid (∀ W,zB9 W sb a len cap g i1 Ir->Calls prog 19 #[.pointer (some ⟨sb,0,none⟩),.int .i64 d] W fun e w'=>e=.returned (.agg #[.string ⟨t2.toArray⟩,.int .i64 x2,.bool p2])/\Fr (fun b=>b=sb) W w'/\zB9 w' sb a len cap g i2 kl))(N4:Hid (∀ W,zB9 W sb a len cap g i2 kl->Calls prog 32 #[.pointer (some ⟨sb,0,none⟩),.int .i64 4] W fun e w'=>e=.returned (.int .i64 k)/\Fr (fun b=>b=sb) W w'/\Blk w' sb [.slice a len cap,.int .i64 i3,.int .i64 kl] 29)):
  Calls prog 19 #[.pointer (some ⟨sb,0,none⟩),.int .i64 ((d:Int)+1)] w fun e w'=>e=.returned (.agg #[.string ⟨(opT Ij k t1 t2).toArray⟩,.int .i64 (if opB k x2 p1 p2 then 0 else opN k x1 x2),.bool (opB k x2 p1 p2)])/\Fr (fun b=>b=sb) w w'/\zB9 w' sb a len cap g i3 kl:=by
 obtain ⟨pb,iN⟩:∃ pb,Hid (pb=(p1||p2)):=⟨_,zab rfl⟩;have OB:Hid (opB k x2 p1 p2=(pb||(!(k=0||k=1||k=2) && x2 == 0))):=zab (by rw[iN.o];rfl);generalize IX:opT Ij k t1 t2=tx;generalize opB k x2 p1 p2=qb at *;generalize IV:opN k x1 x2=nn;generalize IW:(if qb=true then 0 else nn)=rn;have HT:=zab IX;have HN:=zab IV;have HR:=zab IW;clear IX IV IW;have F0:=zab ((Fr.refl (fun b=>b=sb) w).alloc (.cells #[.string ⟨#[]⟩,.int .i64 0,.bool false] 31));have h0:=H.fr F0.o (H.1.alloc _);have B0:=zab (Blk.new w [.string ⟨#[]⟩,.int .i64 0,.bool false] 31);have aH:=zab (show ¬ w.heap.size=sb from Nat.ne_of_gt H.1.lt);have HS:=zab h0;have H1:=zab H;clear H h0;go_enter func19,ntmps19
 go_wp2_with fail
 refine (N1.o _ HS.o).mono ?_;rintro e w1 ⟨rfl,f1,b1⟩;have S1:=zab (HS.o.fr f1 b1);have F1:=zab (F0.o.trans f1);have B1:=zab (Fr.blk B0.o f1 aH.o);have c2:=b1.cell 2;have z2:=b1.frozen 2;have cB:=zab b1;simp at c2;clear f1 b1;go_wp2_with fail
 all_goals try (exfalso;simp only[beq_iff_eq]at *;omega)
 have I4:Blk (w1.setCell ⟨sb,2,none⟩ (.int .i64 left)) sb [.slice a len cap,.int .i64 (zBZ len i),.int .i64 left] 29:=Blk.set cB.o 2 _;have Iz:=(Fr.refl (fun b=>b=sb) w1).set ⟨sb,2,none⟩ (.int .i64 left) (.inl rfl);have S2:=zab (S1.o.fr Iz I4);have F2:=zab (F1.o.trans Iz);have B2:=zab (Fr.blk B1.o Iz aH.o);clear Iz I4 c2 z2 cB;refine (IY.o _ S2.o).mono ?_;generalize w1.setCell ⟨sb,2,none⟩ (.int .i64 left)=w2 at *;rintro e w3 ⟨rfl,f3,I0⟩;have S3:=zab I0;have F3:=zab (F2.o.trans f3);have B3:=zab (Fr.blk B2.o f3 aH.o);clear f3 I0 S1 S2 F1 F2 B1 B2 N1 HS F0 B0;go_wp2_with fail
 have S4:=zab (S3.o.fr ((Fr.refl (fun b=>b=sb) w3).alloc (.cells #[.string ⟨t1.toArray⟩,.int .i64 x1,.bool p1] 31)) (S3.o.1.alloc _));have F4:=zab (F3.o.alloc (.cells #[.string ⟨t1.toArray⟩,.int .i64 x1,.bool p1] 31));have B4:=zab (B3.o.alloc (.cells #[.string ⟨t1.toArray⟩,.int .i64 x1,.bool p1] 31));have C4:=zab (Blk.new w3 [.string ⟨t1.toArray⟩,.int .i64 x1,.bool p1] 31);have o6:=zab (show ¬ w3.heap.size=sb from Nat.ne_of_gt S3.o.1.lt);have fN:=zab (show w.heap.size<=w3.heap.size from F3.o.size);refine (IZ.o _ S4.o).mono ?_;generalize w3.heap.size=ab at *;generalize w3.alloc (.cells #[.string ⟨t1.toArray⟩,.int .i64 x1,.bool p1] 31)=w4 at *;rintro e w5 ⟨rfl,f5,I3⟩;have S5:=zab I3;have F5:=zab (F4.o.trans f5);have B5:=zab (Fr.blk B4.o f5 aH.o);have C5:=zab (Fr.blk C4.o f5 o6.o);clear f5 I3 S3 F3 B3 S4 F4 B4 C4 IY IZ;go_wp2_with fail
 have S6:=zab (S5.o.fr ((Fr.refl (fun b=>b=sb) w5).alloc (.cells #[.string ⟨t2.toArray⟩,.int .i64 x2,.bool p2] 31)) (S5.o.1.alloc _));have F6:=zab (F5.o.alloc (.cells #[.string ⟨t2.toArray⟩,.int .i64 x2,.bool p2] 31));have B6:=zab (B5.o.alloc (.cells #[.string ⟨t2.toArray⟩,.int .i64 x2,.bool p2] 31));have C6:=zab (C5.o.alloc (.cells #[.string ⟨t2.toArray⟩,.int .i64 x2,.bool p2] 31));have D6:=zab (Blk.new w5 [.string ⟨t2.toArray⟩,.int .i64 x2,.bool p2] 31);have eZ:=zab (show ¬ w5.heap.size=sb from Nat.ne_of_gt S5.o.1.lt);have ma:=zab (show w.heap.size<=w5.heap.size from F5.o.size);refine (N4.o _ S6.o).mono ?_;generalize w5.heap.size=bb at *;generalize w5.alloc (.cells #[.string ⟨t2.toArray⟩,.int .i64 x2,.bool p2] 31)=w6 at *;rintro e w7 ⟨rfl,f7,b7⟩;have S7:=zab (S6.o.fr f7 b7);have F7:=zab (F6.o.trans f7);have B7:=zab (Fr.blk B6.o f7 aH.o);have c7:=Fr.blk C6.o f7 o6.o;have d7:=Fr.blk D6.o f7 eZ.o;have q0:=c7.cell 0;have q1:=c7.cell 1;have q2:=c7.cell 2;have r0:=d7.cell 0;have r1:=d7.cell 1;have r2:=d7.cell 2;simp at q0 q1 q2 r0 r1 r2;have C7:=zab c7;have D7:=zab d7;clear f7 b7 c7 d7 S5 F5 B5 S6 F6 B6 C6 D6 C5 N4;have oQ:=Nat.ne_of_lt C7.o.lt;have iC:=Nat.ne_of_lt D7.o.lt;clear q0 q1 q2 r0 r1 r2;have q0:∀ o,(w7.alloc o).cell? ⟨ab,0,none⟩=some (.string ⟨t1.toArray⟩):=fun o=>(C7.o.alloc o).cell 0
 have q1:∀ o,(w7.alloc o).cell? ⟨ab,1,none⟩=some (.int .i64 x1):=fun o=>(C7.o.alloc o).cell 1
 have q2:w7.cell? ⟨ab,2,none⟩=some (.bool p1):=C7.o.cell 2;have r0:∀ o,(w7.alloc o).cell? ⟨bb,0,none⟩=some (.string ⟨t2.toArray⟩):=fun o=>(D7.o.alloc o).cell 0
 have r1:∀ o,(w7.alloc o).cell? ⟨bb,1,none⟩=some (.int .i64 x2):=fun o=>(D7.o.alloc o).cell 1
 have r2:w7.cell? ⟨bb,2,none⟩=some (.bool p2):=D7.o.cell 2;have k0:∀ o,(w7.alloc o).cell? ⟨w.heap.size,0,none⟩=some (.string ⟨#[]⟩):=fun o=>(B7.o.alloc o).cell 0
 have k1:∀ o,(w7.alloc o).cell? ⟨w.heap.size,1,none⟩=some (.int .i64 0):=fun o=>(B7.o.alloc o).cell 1
 have k2:∀ o,(w7.alloc o).cell? ⟨w.heap.size,2,none⟩=some (.bool false):=fun o=>(B7.o.alloc o).cell 2
 have z0:∀ o,(w7.alloc o).frozen? ⟨w.heap.size,0,none⟩=false:=fun o=>(B7.o.alloc o).frozen 0
 have z1:∀ o,(w7.alloc o).frozen? ⟨w.heap.size,1,none⟩=false:=fun o=>(B7.o.alloc o).frozen 1
 have z2:∀ o,(w7.alloc o).frozen? ⟨w.heap.size,2,none⟩=false:=fun o=>(B7.o.alloc o).frozen 2
 have s1:(⟨t1.toArray⟩:ByteArray).size=t1.length:=by show t1.toArray.size=_;rw[zzr]
 have s2:(⟨t2.toArray⟩:ByteArray).size=t2.length:=by show t2.toArray.size=_;rw[zzr]
 have sp:(⟨#[32]⟩:ByteArray).size=1:=rfl;have sl:(⟨#[40]⟩:ByteArray).size=1:=rfl;have sr:(⟨#[41]⟩:ByteArray).size=1:=rfl;obtain ⟨u,hu,zu,cu⟩:=zC5 ⟨#[40]⟩ ⟨t1.toArray⟩ (by omega);obtain ⟨x,hx,zx,cx⟩:=zC5 u ⟨#[41]⟩ (by omega);obtain ⟨v,hv,zv,cv⟩:=zC5 ⟨#[40]⟩ ⟨t2.toArray⟩ (by omega);obtain ⟨y,hy,zy,cy⟩:=zC5 v ⟨#[41]⟩ (by omega);have zX:x.size<=100002:=by omega
 have zY:y.size<=100002:=by omega
 have HX:=zab (show x=⟨(Sm.par t1).toArray⟩ by rw[hx,hu];exact zEj t1);have HY:=zab (show y=⟨(Sm.par t2).toArray⟩ by rw[hy,hv];exact zEj t2);clear s1 s2 sp sl sr zu zx zv zy hu hx hv hy;have Jp:=zab (zEC hk);have lx:(Sm.par t1).length<=100002:=by simp[Sm.par];omega
 have ly:(Sm.par t2).length<=100002:=by simp[Sm.par];omega
 have ls:=Sm.zCu k;obtain ⟨J,hJ⟩:∃ J:World->Prop,Hid (∀ wc,J wc=(Blk wc w7.heap.size [.string ⟨tx.toArray⟩,.int .i64 0,.bool pb] 31/\Blk wc ab [.string ⟨t1.toArray⟩,.int .i64 x1,.bool p1] 31/\Blk wc bb [.string ⟨t2.toArray⟩,.int .i64 x2,.bool p2] 31/\Blk wc w.heap.size [.string ⟨#[]⟩,.int .i64 0,.bool false] 31/\Fr (fun b=>b=sb) w wc/\Blk wc sb [.slice a len cap,.int .i64 i3,.int .i64 kl] 29)):=⟨_,zab fun _=>rfl⟩;have Iy:∀ {u:ByteArray},(⟨tx.toArray⟩:ByteArray)=u->J (w7.alloc (.cells #[.string u,.int .i64 0,.bool (p1||p2)] 31)):=fun e=>by
  rw[hJ.o,iN.o,e];exact ⟨Blk.new w7 _ _,C7.o.alloc _,D7.o.alloc _,B7.o.alloc _,F7.o.alloc _,S7.o.1.alloc _⟩
 have ks:∀ {u:ByteArray},(⟨tx.toArray⟩:ByteArray)=u->∀ o,J ((w7.alloc (.cells #[.string u,.int .i64 0,.bool (p1||p2)] 31)).alloc o):=fun e o=>by
  rw[hJ.o,iN.o,e];exact ⟨(Blk.new w7 _ _).alloc o,(C7.o.alloc _).alloc _,(D7.o.alloc _).alloc _,(B7.o.alloc _).alloc _,(F7.o.alloc _).alloc _,(S7.o.1.alloc _).alloc _⟩
 obtain ⟨J2,wR⟩:∃ J:World->Prop,Hid (∀ wc,J wc=(Blk wc w7.heap.size [.string ⟨tx.toArray⟩,.int .i64 nn,.bool qb] 31/\Blk wc w.heap.size [.string ⟨#[]⟩,.int .i64 0,.bool false] 31/\Fr (fun b=>b=sb) w wc/\Blk wc sb [.slice a len cap,.int .i64 i3,.int .i64 kl] 29)):=⟨_,zab fun _=>rfl⟩;have sN:p1=true\/p1=false:=by cases p1 <;> simp
 obtain rfl|rfl:=sN
 all_goals
  go_upto_block 0 with fail
  rw[Jp.o];have cT:(⟨(Sm.sign k).toArray⟩:ByteArray)=⟨(Sm.sign k).toArray⟩:=rfl
  go_cut [] J
  case first=>
   have A3:(⟨#[32]⟩:ByteArray)=⟨[32].toArray⟩:=rfl;obtain aj|rfl|rfl|rfl:Ij<5\/Ij=5\/Ij=6\/Ij=7:=by omega
   ·obtain ⟨u1,q1,e1⟩:=zB2 HX.o A3 (by simp;omega);obtain ⟨u2,q2,e2⟩:=zB2 q1.o cT (by simp;omega);obtain ⟨u3,q3,e3⟩:=zB2 q2.o A3 (by simp;omega);obtain ⟨u4,q4,e4⟩:=zB2 q3.o HY.o (by simp;omega);clear cT A3;obtain rfl|rfl|rfl|rfl:Ij=1\/Ij=2\/Ij=3\/Ij=4:=by omega
    all_goals
     go_wp2_with fail
     go_meet
     exact Iy (show _=u4 by rw[q4.o,<-HT.o];rfl)
   ·obtain ⟨s1,q1,e1⟩:=zB2 (show (⟨(Sm.name k).toArray⟩:ByteArray)=⟨(Sm.name k).toArray⟩ from rfl) A3 (by rw[Sm.zmw];simp);obtain ⟨s2,q2,e2⟩:=zB2 q1.o HX.o (by simp[Sm.zmw];omega);obtain ⟨s3,q3,e3⟩:=zB2 q2.o A3 (by simp[Sm.zmw];omega);obtain ⟨s4,q4,e4⟩:=zB2 q3.o HY.o (by simp[Sm.zmw];omega);clear cT A3;obtain rfl|rfl|rfl|rfl:k=0\/k=1\/k=2\/k=3:=by omega
    ·have e1:∀ W:World,(Op.stringOp .add ⟨#[97,100,100]⟩ ⟨#[32]⟩).run prog W=.ok (.string s1) W:=e1;go_wp2_with fail
     go_meet
     exact ks (show _=s4 by rw[q4.o,<-HT.o];rfl) _
    ·have e1:∀ W:World,(Op.stringOp .add ⟨#[115,117,98]⟩ ⟨#[32]⟩).run prog W=.ok (.string s1) W:=e1;go_wp2_with fail
     go_meet
     exact ks (show _=s4 by rw[q4.o,<-HT.o];rfl) _
    ·have e1:∀ W:World,(Op.stringOp .add ⟨#[109,117,108]⟩ ⟨#[32]⟩).run prog W=.ok (.string s1) W:=e1;go_wp2_with fail
     go_meet
     exact ks (show _=s4 by rw[q4.o,<-HT.o];rfl) _
    ·have e1:∀ W:World,(Op.stringOp .add ⟨#[100,105,118]⟩ ⟨#[32]⟩).run prog W=.ok (.string s1) W:=e1;go_wp2_with fail
     go_meet
     exact ks (show _=s4 by rw[q4.o,<-HT.o];rfl) _
   ·obtain ⟨u1,q1,e1⟩:=zB2 (show (⟨#[108,101,116,32,112,32,61,32]⟩:ByteArray)=⟨[108,101,116,32,112,32,61,32].toArray⟩ from rfl) HX.o (by simp;omega);obtain ⟨u2,q2,e2⟩:=zB2 q1.o (show (⟨#[59,32,113,32,61,32]⟩:ByteArray)=⟨[59,32,113,32,61,32].toArray⟩ from rfl) (by simp;omega);obtain ⟨u3,q3,e3⟩:=zB2 q2.o HY.o (by simp;omega);obtain ⟨u4,q4,e4⟩:=zB2 q3.o (show (⟨#[32,105,110,32,112,32]⟩:ByteArray)=⟨[32,105,110,32,112,32].toArray⟩ from rfl) (by simp;omega);obtain ⟨u5,q5,e5⟩:=zB2 q4.o cT (by simp;omega);obtain ⟨u6,q6,e6⟩:=zB2 q5.o (show (⟨#[32,113]⟩:ByteArray)=⟨[32,113].toArray⟩ from rfl) (by simp;omega);clear cT A3;go_wp2_with fail
    go_meet
    exact Iy (show _=u6 by rw[q6.o,<-HT.o];rfl)
   ·obtain ⟨u1,q1,e1⟩:=zB2 (show (⟨#[40,92,112,32,113,46,32,112,32]⟩:ByteArray)=⟨[40,92,112,32,113,46,32,112,32].toArray⟩ from rfl) cT (by simp;omega);obtain ⟨u2,q2,e2⟩:=zB2 q1.o (show (⟨#[32,113,41,32]⟩:ByteArray)=⟨[32,113,41,32].toArray⟩ from rfl) (by simp;omega);obtain ⟨u3,q3,e3⟩:=zB2 q2.o HX.o (by simp;omega);obtain ⟨u4,q4,e4⟩:=zB2 q3.o A3 (by simp;omega);obtain ⟨u5,q5,e5⟩:=zB2 q4.o HY.o (by simp;omega);clear cT A3;go_wp2_with fail
    go_meet
    exact Iy (show _=u5 by rw[q5.o,<-HT.o];rfl)
  case rest=>
   rw[hJ.o]at hcut;obtain ⟨o8,c8,d8,b8,f8,s8⟩:=hcut;have nw:¬ w.heap.size=w7.heap.size:=by have:=B7.o.lt;omega
   have nS:¬ sb=w7.heap.size:=by have:=S7.o.1.lt;omega
   have I6:w.heap.size<=w7.heap.size:=by have:=B7.o.lt;omega
   have Io:Hid (∀ (W:World) (i:Nat) (v:Value),Blk W w.heap.size [.string ⟨#[]⟩,.int .i64 0,.bool false] 31/\Fr (fun b=>b=sb) w W/\Blk W sb [.slice a len cap,.int .i64 i3,.int .i64 kl] 29->Blk (W.setCell ⟨w7.heap.size,i,none⟩ v) w.heap.size [.string ⟨#[]⟩,.int .i64 0,.bool false] 31/\Fr (fun b=>b=sb) w (W.setCell ⟨w7.heap.size,i,none⟩ v)/\Blk (W.setCell ⟨w7.heap.size,i,none⟩ v) sb [.slice a len cap,.int .i64 i3,.int .i64 kl] 29):=zab (fun W i v h=>⟨h.1.other ⟨w7.heap.size,i,none⟩ v nw,h.2.1.set ⟨w7.heap.size,i,none⟩ v (.inr I6),h.2.2.other ⟨w7.heap.size,i,none⟩ v nS⟩);have c1:=c8.cell 1;have d1:=d8.cell 1;have o0:=o8.cell 0;have o1:=o8.cell 1;have o2:=o8.cell 2;have y1:=o8.frozen 1;have y2:=o8.frozen 2;simp at c1 d1 o0 o1 o2;have O8:=zab o8;have R8:=zab (And.intro b8 (And.intro f8 s8));clear o8 c8 d8 b8 f8 s8 q0 q1 q2 r0 r1 r2 k0 k1 k2 z0 z1 z2 nw nS I6 cT cu cx cv cy oQ iC Iy ks
   go_upto_block 1 with fail
   go_cut [] J2
   case first=>
    obtain rfl|rfl|rfl|rfl:k=0\/k=1\/k=2\/k=3:=by omega
    ·go_wp2_with fail
     go_meet
     rw[wR.o];have e:qb=pb:=by rw[OB.o];simp
     rw[e,<-HN.o,show opN 0 x1 x2=wrap64 (x1+x2) by unfold opN wrap64;rw[if_pos rfl,IntKind.wrap_i64]];exact ⟨O8.o.set 1 _,Io.o _ 1 _ R8.o⟩
    ·go_wp2_with fail
     go_meet
     rw[wR.o];have e:qb=pb:=by rw[OB.o];simp
     rw[e,<-HN.o,show opN 1 x1 x2=wrap64 (x1-x2) by unfold opN wrap64;rw[if_neg (by omega),if_pos rfl,IntKind.wrap_i64]];exact ⟨O8.o.set 1 _,Io.o _ 1 _ R8.o⟩
    ·go_wp2_with fail
     go_meet
     rw[wR.o];have e:qb=pb:=by rw[OB.o];simp
     rw[e,<-HN.o,show opN 2 x1 x2=wrap64 (x1*x2) by unfold opN wrap64;rw[if_neg (by omega),if_neg (by omega),if_pos rfl,IntKind.wrap_i64]];exact ⟨O8.o.set 1 _,Io.o _ 1 _ R8.o⟩
    ·by_cases hx:x2=0
     ·go_wp2_with fail
      go_meet
      rw[wR.o];have e:qb=true:=by rw[OB.o];simp[hx]
      rw[e,<-HN.o,show opN 3 x1 x2=0 by unfold opN;rw[if_neg (by omega),if_neg (by omega),if_neg (by omega),if_pos hx]];exact ⟨O8.o.set 2 _,Io.o _ 2 _ R8.o⟩
     ·go_wp2_with fail
      go_meet
      rw[wR.o];have e:qb=pb:=by rw[OB.o];simp[hx]
      rw[e,<-HN.o,show opN 3 x1 x2=wrap64 (Int.tdiv x1 x2) by unfold opN wrap64;rw[if_neg (by omega),if_neg (by omega),if_neg (by omega),if_neg hx,IntKind.wrap_i64]];exact ⟨O8.o.set 1 _,Io.o _ 1 _ R8.o⟩
   case rest=>
    rw[wR.o]at hcut;obtain ⟨o9,b9,f9,s9⟩:=hcut;clear c1 d1 o0 o1 o2 y1 y2 OB HN;have R9:=zab (And.intro b9 (And.intro f9 s9));have o1:=o9.cell 1;have o2:=o9.cell 2;have y1:=o9.frozen 1;simp at o1 o2;have O9:=zab o9;clear o9 b9 f9 s9 hJ wR O8 R8 lx ly ls hk hh h8;cases qb
    ·go_upto_region 36 with fail
     refine wp_region_list (wpList_load_row rfl 31 (.tmp 11) rfl w7.heap.size rfl _ _ _ _ O9.o underlying31 rfl (by kernel_rfl) ?_);refine wpList_store_row rfl 31 (.tmp 4) (.tmp 157) rfl w.heap.size _ rfl rfl _ _ R9.o.1 (by kernel_rfl) rfl (by simp[Value.oneCell']) (wpList_nil ?_);rename_i IF;refine IF _ _ (wp_ret ?_);refine bodyPost_ret (results_cell_row (p:=4) (ty:=31) ?h1 _ _ w.heap.size _ _ _ _ ?h2 (setRow_heap _ _ _ _ _ _ R9.o.1) underlying31 rfl ?h3) ?h4 ?h5
     case h1=>kernel_rfl
     case h2=>kernel_rfl
     case h3=>kernel_rfl
     case h4=>rfl
     case h5=>
      have fr:=R9.o.2.1.rowN (zyN w.heap.size) #[.string ⟨tx.toArray⟩,.int .i64 nn,.bool false];refine ⟨by rw[<-HR.o];rfl,fr,H1.o.fr fr ?_⟩;show (World.setRow _ _ _).heap[sb]?=_;rw[setRow_other _ _ _ _ (Ne.symm aH.o)];exact R9.o.2.2
    ·go_upto_region 36 with fail
     refine wp_region_list (wpList_load_row rfl 31 (.tmp 11) rfl w7.heap.size rfl _ _ _ _ (O9.o.set 1 _) underlying31 rfl (by kernel_rfl) ?_);refine wpList_store_row rfl 31 (.tmp 4) (.tmp 157) rfl w.heap.size _ rfl rfl _ _ (Io.o _ 1 (.int .i64 0) R9.o).1 (by kernel_rfl) rfl (by simp[Value.oneCell']) (wpList_nil ?_);rename_i IF;refine IF _ _ (wp_ret ?_);refine bodyPost_ret (results_cell_row (p:=4) (ty:=31) ?h1 _ _ w.heap.size _ _ _ _ ?h2 (setRow_heap _ _ _ _ _ _ (Io.o _ 1 (.int .i64 0) R9.o).1) underlying31 rfl ?h3) ?h4 ?h5
     case h1=>kernel_rfl
     case h2=>kernel_rfl
     case h3=>kernel_rfl
     case h4=>rfl
     case h5=>
      have fr:=(Io.o _ 1 (.int .i64 0) R9.o).2.1.rowN (zyN w.heap.size) #[.string ⟨tx.toArray⟩,.int .i64 0,.bool true];refine ⟨by rw[<-HR.o];rfl,fr,H1.o.fr fr ?_⟩;show (World.setRow _ _ _).heap[sb]?=_;rw[setRow_other _ _ _ _ (Ne.symm aH.o)];exact (Io.o _ 1 (.int .i64 0) R9.o).2.2
end Go.Proofs.YtgahgkddaljmkaaGreatDoor
namespace Go.Proofs.YtgahgkddaljmkaaGreatDoor
open Tryz
open Go.RowKit
variable {len:Nat}
theorem zB8{i:Nat}(h:i<=len):zBZ len i<=len:=by unfold zBZ;split <;> omega
theorem Sm.mk_le(g:Nat->Int)(len:Nat):∀ (d i left:Nat),i<=len->(Sm.mk g len d i left).2.1<=len/\(Sm.mk g len d i left).2.2<=left
 |0,i,left,h=>⟨zB8 (zB8 h),zyN _⟩
 |d+1,i,left,h=>by
  rw[Sm.mk];split
  ·exact ⟨zB8 (zB8 h),zyN _⟩
  ·have h1:=Sm.mk_le g len d (zBZ len i) (left-1) (zB8 h);have h2:=Sm.mk_le g len d _ (Sm.mk g len d (zBZ len i) (left-1)).2.2 h1.1;exact ⟨zB8 h2.1,by show (Sm.mk g len d _ _).2.2<=left;omega⟩
def Sm.ops:Sm->Nat
 |.num _=>0
 |.op _ _ a b=>a.ops+b.ops+1
theorem Sm.zDY(g:Nat->Int)(len:Nat):∀ (d i left:Nat),(Sm.mk g len d i left).1.ops+(Sm.mk g len d i left).2.2<=left
 |0,i,left=>by simp[Sm.mk,Sm.ops]
 |d+1,i,left=>by
  rw[Sm.mk];split
  ·simp[Sm.ops]
  ·have h1:=Sm.zDY g len d (zBZ len i) (left-1);have h2:=Sm.zDY g len d (Sm.mk g len d (zBZ len i) (left-1)).2.1 (Sm.mk g len d (zBZ len i) (left-1)).2.2;simp only[Sm.ops];omega
theorem Sm.zCL:∀ x:Sm,x.text.length<=2+40*x.ops
 |.num v=>by
  have:=zme 2 v;rw[Sm.text,Sm.ops];omega
 |.op Ij k a b=>by
  have i1:=Sm.zCL a;have i2:=Sm.zCL b;have s1:=Sm.zCu k;have n1:=Sm.zmw k;rw[Sm.text,Sm.ops];split
  ·simp[Sm.par,s1];omega
  ·split
   ·simp[Sm.par,n1];omega
   ·split
    ·simp[Sm.par,s1];omega
    ·simp[Sm.par,s1];omega
theorem zEy:∀ {d:Nat},d<=5->Sm.zEK d<=100000
 |0,_=>by decide
 |1,_=>by decide
 |2,_=>by decide
 |3,_=>by decide
 |4,_=>by decide
 |5,_=>by decide
 |d+6,h=>absurd h (by omega)
theorem zC0{sb len cap:Nat}{a:Option Addr}{g:Nat->Int}(hg:∀ j,-9223372036854775808<=g j/\g j<=9223372036854775807)(hlen:len<=9223372036854775807):∀ (d i left:Nat) (w:World),d<=5->i<=len->left<=1000->zB9 w sb a len cap g i left ->
  Calls prog 19 #[.pointer (some ⟨sb,0,none⟩),.int .i64 d] w fun e w'=>e=.returned (smV (Sm.mk g len d i left).1)/\Fr (fun b=>b=sb) w w'/\zB9 w' sb a len cap g (Sm.mk g len d i left).2.1 (Sm.mk g len d i left).2.2
 |0,i,left,w,hd,hi,hl,H=>zD4 H hg hlen hi hd hl (.inl rfl)
 |d+1,i,left,w,hd,hi,hl,H=>by
  rw[Sm.mk];by_cases hz:zB5 g len i 8=0\/left=0
  ·rw[if_pos hz];exact zD4 H hg hlen hi hd hl (.inr hz)
  ·rw[if_neg hz];obtain ⟨left,rfl⟩:∃ k,left=k+1:=⟨left-1,by omega⟩;simp only[Nat.add_sub_cancel];have ha:=Sm.mk_le g len d (zBZ len i) left (zB8 hi);have oa:=Sm.zDX g len d (zBZ len i) left;have hb:=Sm.mk_le g len d (Sm.mk g len d (zBZ len i) left).2.1 (Sm.mk g len d (zBZ len i) left).2.2 ha.1;have ob:=Sm.zDX g len d (Sm.mk g len d (zBZ len i) left).2.1 (Sm.mk g len d (zBZ len i) left).2.2;have I1:=fun W (hW:zB9 W sb a len cap g (zBZ len i) left)=>zC0 hg hlen d (zBZ len i) left W (by omega) (zB8 hi) (by omega) hW
   have I2:=fun W (hW:zB9 W sb a len cap g (Sm.mk g len d (zBZ len i) left).2.1 (Sm.mk g len d (zBZ len i) left).2.2)=>zC0 hg hlen d _ _ W (by omega) ha.1 (by omega) hW
   generalize Sm.mk g len d (zBZ len i) left=A at *;generalize Sm.mk g len d A.2.1 A.2.2=B at *;have h8:=Sm.zCe g len i (n:=8) (by omega);have h4:=Sm.zCe g len B.2.1 (n:=4) (by omega);have e8:zB5 g len i 8=((zB5 g len i 8).toNat:Int):=by omega
   have e4:zB5 g len B.2.1 4=((zB5 g len B.2.1 4).toNat:Int):=by omega
   have mL:=zEy (d:=d) (by omega);have:=zE1 (Ij:=(zB5 g len i 8).toNat) (k:=(zB5 g len B.2.1 4).toNat) (i3:=zBZ len B.2.1) (d:=d) (by omega) (by omega) (by omega) (by omega) hl (zyR (Sm.zCv oa) mL) (zyR (Sm.zCv ob) mL)
    (zab fun W hW=>by have:=zCt (n:=8) hW hg hlen hi (by omega) (by omega);rw[e8]at this;exact this) H (zab I1) (zab I2)
    (zab fun W hW=>by have:=zCt (n:=4) hW hg hlen hb.1 (by omega) (by omega);rw[e4]at this;exact this)
   rw[zE0];exact this
end Go.Proofs.YtgahgkddaljmkaaGreatDoor
namespace Go.Proofs.YtgahgkddaljmkaaGreatDoor
open Tryz
open Go.RowKit
attribute [local go_sem ↓] Go.wp_at_zero Go.wp_at_succ
theorem zCT{s:ByteArray}{r:Ab.zsp}{heap fuel:Int}(hk:r.1<=3)(h1:zdw s 262144 4000000 r 0)(h2:∃ r',zdw s heap fuel r' 0/\(r'=(4,0,0,0)\/r'=(5,0,0,0)\/r'=r))(w:World):
  Calls prog 21 #[.string s,ziu r.1 r.2.1 r.2.2.1 r.2.2.2,.int .i64 heap,.int .i64 fuel] w fun e w'=>e=.returned (.bool true)/\Fr (fun _=>False) w w':=by
 obtain ⟨r',h2,E0⟩:=h2;have RO:=zrQ r';obtain ⟨k,n,t,a⟩:=r;obtain ⟨k',n',t',a'⟩:=r';unfold zdw ziu at h1 h2;unfold ziu at RO;have K1:=zab h1;have K2:=zab h2;have KO:=zab RO;have Ja:=zab E0;clear h1 h2 RO E0;have F0:=zab ((Fr.refl (fun _=>False) w).alloc (.cells #[.int .i64 k,.int .i64 n,.int .i64 t,.int .i64 a] 35));have B0:=zab (Blk.new w [.int .i64 k,.int .i64 n,.int .i64 t,.int .i64 a] 35);unfold ziu;go_enter func21,ntmps21
 go_wp2_with fail
 refine (K1.o _).mono ?_;rintro e w1 ⟨rfl,f1⟩;have F1:=zab ((F0.o.trans f1).alloc (.cells #[.int .i64 k,.int .i64 n,.int .i64 t,.int .i64 a] 35));have B1:=zab (Blk.new w1 [.int .i64 k,.int .i64 n,.int .i64 t,.int .i64 a] 35);have I9:=zab (Fr.blk B0.o (f1.alloc (.cells #[.int .i64 k,.int .i64 n,.int .i64 t,.int .i64 a] 35)) (by simp));clear f1;go_wp2_with fail
 refine (K2.o _).mono ?_;rintro e w2 ⟨rfl,f2⟩;have F2:=zab ((F1.o.trans f2).alloc (.cells #[.int .i64 k',.int .i64 n',.int .i64 t',.int .i64 a'] 35));have b2:=Blk.new w2 [.int .i64 k',.int .i64 n',.int .i64 t',.int .i64 a'] 35;have Ip:=Fr.blk B1.o (f2.alloc (.cells #[.int .i64 k',.int .i64 n',.int .i64 t',.int .i64 a'] 35)) (by simp);have Iv:=Fr.blk I9.o (f2.alloc (.cells #[.int .i64 k',.int .i64 n',.int .i64 t',.int .i64 a'] 35)) (by simp);have Jd:=Iv.cell 0;have Je:=Iv.cell 1;have Jf:=Iv.cell 2;have Jg:=Iv.cell 3;have c10:=Ip.cell 0;have c11:=Ip.cell 1;have wj:=Ip.cell 2;have wo:=Ip.cell 3;have Dw:=b2.cell 0;have Dx:=b2.cell 1;have Dy:=b2.cell 2;have Dz:=b2.cell 3;simp at Jd Je Jf Jg c10 c11 wj wo Dw Dx Dy Dz;clear f2 b2 Ip Iv;have fy:k<=3:=hk;clear hk;rcases Ja.o with ho|ho|ho
 ·cases ho;go_wp2_with fail
  refine (KO.o _).mono ?_;rintro e w3 ⟨rfl,f3⟩;rw[decide_eq_true (.inl trivial)];have F3:=zab (F2.o.trans f3);clear f3;go_wp2_with fail
  go_ret
  exact ⟨rfl,F3.o⟩
 ·cases ho;go_wp2_with fail
  refine (KO.o _).mono ?_;rintro e w3 ⟨rfl,f3⟩;rw[decide_eq_true (.inr trivial)];have F3:=zab (F2.o.trans f3);clear f3;go_wp2_with fail
  go_ret
  exact ⟨rfl,F3.o⟩
 ·cases ho;go_wp2_with fail
  go_ret
  exact ⟨rfl,F2.o⟩
variable {w:World}{sb:Nat}
theorem Fr.zEN{w':World}(h:Fr (fun b=>b=sb) w w')(hs:w.heap.size<=sb):Fr (fun _=>False) w w':=
 ⟨h.os,h.tape,h.output,h.size,fun k hk _=>h.block k hk (by omega)⟩
theorem zC4{W:World}{o:Obj}{vs:List Value}{t:TypeId}(h:Blk W (w.alloc o).heap.size vs t):Blk W (w.heap.size+1) vs t:=by
 have e:(w.alloc o).heap.size=w.heap.size+1:=by unfold World.alloc;exact Array.size_push _
 rwa [e]at h
theorem Fr.zEr{a b:World}(h:Fr (fun _=>False) a b):Below a.heap.size a b:=⟨h.os,h.tape,h.output,h.size,fun k hk=>h.block k hk (fun e=>e)⟩
theorem zDW(t:ByteArray)(n:Int)(b:Bool)(w:World):Calls prog 22 #[.agg #[.string t,.int .i64 n,.bool b]] w fun e w'=>e=.returned (if b then ziu 3 0 0 0 else ziu 1 n 0 0)/\Fr (fun _=>False) w w':=by
 have F0:=zab (Fr.refl (fun _=>False) w);unfold ziu;cases b
 ·go_enter func22,ntmps22
  go_wp2_with fail
  refine bodyPost_ret (results_cell_row (p:=2) (ty:=35) ?h1 _ _ (w.heap.size+1) _ _ _ _ ?h2 (zC4 (Blk.new (w.alloc (.cells #[.string t,.int .i64 n,.bool false] 31)) [.int .i64 1,.int .i64 n,.int .i64 0,.int .i64 0] 35)) underlying35 rfl ?h4) ?h5 ?h6
  case h1=>kernel_rfl
  case h2=>kernel_rfl
  case h4=>kernel_rfl
  case h5=>rfl
  case h6=>exact ⟨rfl,(F0.o.alloc _).alloc _⟩
 ·go_enter func22,ntmps22
  go_wp2_with fail
  refine bodyPost_ret (results_cell_row (p:=2) (ty:=35) ?h1 _ _ (w.heap.size+1) _ _ _ _ ?h2 (zC4 (Blk.new (w.alloc (.cells #[.string t,.int .i64 n,.bool true] 31)) [.int .i64 3,.int .i64 0,.int .i64 0,.int .i64 0] 35)) underlying35 rfl ?h4) ?h5 ?h6
  case h1=>kernel_rfl
  case h2=>kernel_rfl
  case h4=>kernel_rfl
  case h5=>rfl
  case h6=>exact ⟨rfl,(F0.o.alloc _).alloc _⟩
end Go.Proofs.YtgahgkddaljmkaaGreatDoor
