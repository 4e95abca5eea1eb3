/- SnL .. SnL -/
import Derived.Test.YtgahgkddaljmkaaGreatDoorR28
set_option maxRecDepth 100000
set_option maxHeartbeats 4000000
namespace Go.Proofs.YtgahgkddaljmkaaGreatDoor
open Tryz
open Go.RowKit
attribute [local go_sem ↓] Go.wp_at_zero Go.wp_at_succ
theorem zGL{t b d:ByteArray}{T B D:List UInt8}(ht:t=⟨T.toArray⟩)(A:List UInt8)(hb:b=⟨B.toArray⟩)(C:List UInt8)(hd:d=⟨D.toArray⟩)(E:List UInt8)(h:T.length+A.length+B.length+C.length+D.length+E.length<=1000):∃ r1 r2 r3 r4 r5:ByteArray,(∀ W:World,(Op.stringOp .add t ⟨A.toArray⟩).run prog W=.ok (.string r1) W)/\(∀ W:World,(Op.stringOp .add r1 b).run prog W=.ok (.string r2) W)/\(∀ W:World,(Op.stringOp .add r2 ⟨C.toArray⟩).run prog W=.ok (.string r3) W)/\(∀ W:World,(Op.stringOp .add r3 d).run prog W=.ok (.string r4) W)/\(∀ W:World,(Op.stringOp .add r4 ⟨E.toArray⟩).run prog W=.ok (.string r5) W)/\r5=⟨(T++A++B++C++D++E).toArray⟩:=by
 obtain ⟨r1,h1,e1⟩:=zB2 ht (rfl:(⟨A.toArray⟩:ByteArray)=⟨A.toArray⟩) (by omega);obtain ⟨r2,h2,e2⟩:=zB2 h1.o hb (by simp;omega);obtain ⟨r3,h3,e3⟩:=zB2 h2.o (rfl:(⟨C.toArray⟩:ByteArray)=⟨C.toArray⟩) (by simp;omega);obtain ⟨r4,h4,e4⟩:=zB2 h3.o hd (by simp;omega);obtain ⟨r5,h5,e5⟩:=zB2 h4.o (rfl:(⟨E.toArray⟩:ByteArray)=⟨E.toArray⟩) (by simp;omega);exact ⟨r1,r2,r3,r4,r5,e1,e2,e3,e4,e5,h5.o⟩
theorem zFK{a:Option Addr}{len cap:Nat}{bad wh heap fuel:Int}{g:Nat->Int}{w:World}(hlen:len<=9223372036854775807)(kr:∀ i,i<len->∃ A:Addr,a=some A/\A.block<w.heap.size/\w.cell? (A.add i)=some (.int .i64 (g i)))(hg:∀ i,-9223372036854775808<=g i/\g i<=9223372036854775807)(b1:-9223372036854775808<=bad)(b2:bad<=9223372036854775807)(c1:-9223372036854775808<=wh)(c2:wh<=9223372036854775807):
  Calls prog 7 #[.slice a len cap,.int .i64 bad,.int .i64 wh,.int .i64 heap,.int .i64 fuel] w fun e w'=>e=.returned (.bool true)/\Fr (fun _=>False) w w':=by
 have I:=fun sb W (hW:zB9 W sb a len cap g 0 3)=>zC0 (sb:=sb) hg hlen 3 0 3 W (by omega) (zy5 _) (by omega) hW
 have ok:=Sm.zDX g len 3 0 3;have os:=Sm.zDY g len 3 0 3;generalize Sm.mk g len 3 0 3=X at *;obtain ⟨x,j,l⟩:=X;simp only[smV]at I;have tl:=Sm.zCL x;have PB:=zab (zfB b1 b2 (n:=6) (by omega) (by omega));have PW:=zab (zfB c1 c2 (n:=6) (by omega) (by omega));obtain ⟨k1,k2⟩:=zfA (c:=bad) (n:=6) (by omega);obtain ⟨d1,d2⟩:=zfA (c:=wh) (n:=6) (by omega);obtain ⟨kb,lj⟩:∃ k:Nat,zmD bad 6=k:=⟨(zmD bad 6).toNat,by omega⟩;obtain ⟨kw,EM⟩:∃ k:Nat,zmD wh 6=k:=⟨(zmD wh 6).toNat,by omega⟩;rw[lj]at PB k1 k2;rw[EM]at PW d1 d2;have hx:x.text.length<=122:=by simp only at os;omega
 have J4:=(Sg.zDf x 3 ok).1;have hz:∀ w,(Sg.zE2 w kb x).length<=600:=fun w=>by have:=Sg.zFg w kb x;have:=Sg.zFH J4 w kb;omega
 have hv:(if x.val.isNone then ziu 3 0 0 0 else ziu 1 (x.val.getD 0) 0 0)=ziu (Ab.Sg.smR x.val).1 (Ab.Sg.smR x.val).2.1 (Ab.Sg.smR x.val).2.2.1 (Ab.Sg.smR x.val).2.2.2:=by cases x.val <;> rfl
 have h3:(Ab.Sg.smR x.val).1<=3:=by cases x.val <;> simp[Ab.Sg.smR]
 have ME:=zDW ⟨x.text.toArray⟩ (x.val.getD 0) x.val.isNone;rw[hv]at ME;have AN:=fun w=>zCT (s:=⟨(Sg.zE2 w kb x).toArray⟩) (r:=Ab.Sg.smR x.val) (heap:=heap) (fuel:=fuel) h3 (by
  obtain ⟨r,r1,r2|⟨r2,_⟩⟩:=Sg.zF8 (x:=x) (d:=3) ok w (hz w) 262144 4000000 False (.inr (by decide))
  ·rwa [r2]at r1
  ·exact r2.elim) (by
  obtain ⟨r,r1,r2|⟨_,r2|r2⟩⟩:=Sg.zF8 (x:=x) (d:=3) ok w (hz w) heap fuel True (.inl trivial)
  ·exact ⟨r,r1,.inr (.inr r2)⟩
  ·exact ⟨r,r1,.inl r2⟩
  ·exact ⟨r,r1,.inr (.inl r2)⟩)
 generalize ziu (Ab.Sg.smR x.val).1 (Ab.Sg.smR x.val).2.1 (Ab.Sg.smR x.val).2.2.1 (Ab.Sg.smR x.val).2.2.2=ov at *;have HM:=zab ME;have HA:=zab AN;have HC:=zab kr;have HI:=zab I;have HZ:=zab hz;clear I ok os kr hg tl hlen hv h3 ME AN hz lj EM b1 b2 c1 c2 J4;go_enter func7,ntmps7
 go_wp2_with fail
 have F0:=zab ((Fr.refl (fun b=>b=w.heap.size) w).alloc (.cells #[.slice a len cap,.int .i64 0,.int .i64 3] 29));refine (HI.o w.heap.size _ ⟨Blk.new w _ _,fun i hi=>?_⟩).mono ?_
 ·obtain ⟨A,a1,a2,a3⟩:=HC.o i hi;exact ⟨A,a1,by omega,(F0.o.zEN (zyN _)).zEr.cell (p:=A.add i) (by unfold Addr.add;split <;> exact a2)|>.trans a3⟩
 rintro e w1 ⟨rfl,f1,_⟩;have F1:=zab ((F0.o.trans f1).zEN (zyN _));clear f1 F0;go_wp2_with fail
 refine (PB.o _).mono ?_;rintro e w2 ⟨rfl,aB⟩;have F2:Hid (Fr (fun _=>False) w w2):=zab (by rw[aB];exact (F1.o.alloc _).alloc _);have BX:Hid (Blk w2 w1.heap.size [.string ⟨x.text.toArray⟩,.int .i64 (x.val.getD 0),.bool x.val.isNone] 31):=zab (by rw[aB];exact (Blk.new w1 _ _).alloc _);have nT:w2.cell? ⟨w1.heap.size+1,kb,none⟩=some (.string ⟨(Sg.noS kb).toArray⟩):=by
  have B:Blk w2 (w1.heap.size+1) [.string ⟨(Sg.noS 0).toArray⟩,.string ⟨(Sg.noS 1).toArray⟩,.string ⟨(Sg.noS 2).toArray⟩,.string ⟨(Sg.noS 3).toArray⟩,.string ⟨(Sg.noS 4).toArray⟩,.string ⟨(Sg.noS 5).toArray⟩] 9:=by rw[aB];exact zC4 (Blk.new _ _ _)
  have:=B.cell kb;obtain rfl|rfl|rfl|rfl|rfl|rfl:kb=0\/kb=1\/kb=2\/kb=3\/kb=4\/kb=5:=by omega
  all_goals exact this
 clear aB;have x0:=BX.o.cell 0;have x1:=BX.o.cell 1;have x2:=BX.o.cell 2;simp at x0 x1 x2;obtain ⟨n1,cR,eY⟩:∃ l,Sg.noS kb=l/\l.length<=20:=⟨_,rfl,(Sg.zFj kb).2.2⟩;rw[cR]at nT;have HN:=zab cR;clear cR;obtain ⟨y0,aT,Kh⟩:=zB2 (show (⟨#[40]⟩:ByteArray)=⟨[40].toArray⟩ from rfl) (show (⟨x.text.toArray⟩:ByteArray)=⟨x.text.toArray⟩ from rfl) (by simp;omega);obtain ⟨y1,bE,Ki⟩:=zB2 aT.o (show (⟨#[41]⟩:ByteArray)=⟨[41].toArray⟩ from rfl) (by simp;omega);go_wp2_with fail
 obtain ⟨T,hT⟩:∃ T:ByteArray,T=⟨(List.append [97,100,100,32,120,32,121,32,61,32,120,32,43,32,121,59,32,115,117,98,32,120,32,121,32,61,32,120,32,45,32,121,59,32,109,117,108,32,120,32,121,32,61,32,120,32,42,32,121] [59,32,100,105,118,32,120,32,121,32,61,32,120,32,47,32,121,59,32,108,111,111,112,32,61,32,108,111,111,112,59,32,107,32,120,32,121,32,61,32,120,59,32,109,97,105,110,32,61,32]).toArray⟩:=⟨_,rfl⟩;rw[<-hT];have HT:Hid (T=⟨(Sg.few++Sg.more++Sg.zEd++[32]).toArray⟩):=zab hT;have gK:(Sg.few++Sg.more++Sg.zEd++[32]).length=99:=by decide
 have HY:Hid (y1=⟨(Sm.par x.text).toArray⟩):=zab bE.o;have yl:(Sm.par x.text).length<=124:=by simp[Sm.par];omega
 clear hT;refine (PW.o _).mono ?_;rintro e w3 ⟨rfl,bL⟩;subst w3;obtain rfl|rfl|rfl|rfl|rfl|rfl:kw=0\/kw=1\/kw=2\/kw=3\/kw=4\/kw=5:=by omega
 obtain ⟨r1,r2,r3,r4,r5,e1,e2,e3,e4,e5,h5⟩:=zGL HT.o [107,32] HY.o [32] (rfl:(⟨n1.toArray⟩:ByteArray)=⟨n1.toArray⟩) [59] (by simp only[gK,zy8,zzm];omega);have h6:r5=⟨(Sg.zE2 0 kb x).toArray⟩:=by rw[h5];simp[Sg.zE2,Sg.lzS,HN.o]
 have JQ:=HA.o 0
 rotate_left
 obtain ⟨r1,r2,r3,r4,r5,e1,e2,e3,e4,e5,h5⟩:=zGL HT.o [108,101,116,32,122,32,61,32] (rfl:(⟨n1.toArray⟩:ByteArray)=⟨n1.toArray⟩) [32,105,110,32] HY.o [59] (by simp only[gK,zy8,zzm];omega);have h6:r5=⟨(Sg.zE2 1 kb x).toArray⟩:=by rw[h5];simp[Sg.zE2,Sg.lzS,HN.o]
 have JQ:=HA.o 1
 rotate_left
 obtain ⟨r1,r2,r3,r4,r5,e1,e2,e3,e4,e5,h5⟩:=zGL HT.o [99,97,115,101,32,123,50,44,50,125,32] HY.o [32] (rfl:(⟨n1.toArray⟩:ByteArray)=⟨n1.toArray⟩) [32,111,102,32,60,50,62,32,97,32,98,32,45,62,32,97,59] (by simp only[gK,zy8,zzm];omega);have h6:r5=⟨(Sg.zE2 2 kb x).toArray⟩:=by rw[h5];simp[Sg.zE2,Sg.lzS,HN.o]
 have JQ:=HA.o 2
 rotate_left
 obtain ⟨r1,r2,r3,r4,r5,e1,e2,e3,e4,e5,h5⟩:=zGL HT.o [99,97,115,101,32,49,32,60,32,50,32,111,102,32,60,50,62,32,45,62,32] HY.o [59,32,60,49,62,32,45,62,32] (rfl:(⟨n1.toArray⟩:ByteArray)=⟨n1.toArray⟩) [59] (by simp only[gK,zy8,zzm];omega);have h6:r5=⟨(Sg.zE2 3 kb x).toArray⟩:=by rw[h5];simp[Sg.zE2,Sg.lzS,HN.o]
 have JQ:=HA.o 3
 rotate_left
 obtain ⟨r1,r2,r3,r4,r5,e1,e2,e3,e4,e5,h5⟩:=zGL HT.o [40,92,97,32,98,46,32,98,41,32] (rfl:(⟨n1.toArray⟩:ByteArray)=⟨n1.toArray⟩) [32] HY.o [59] (by simp only[gK,zy8,zzm];omega);have h6:r5=⟨(Sg.zE2 4 kb x).toArray⟩:=by rw[h5];simp[Sg.zE2,Sg.lzS,HN.o]
 have JQ:=HA.o 4
 rotate_left
 obtain ⟨r1,r2,r3,r4,r5,e1,e2,e3,e4,e5,h5⟩:=zGL HT.o [108,101,116,32,114,101,99,32,97,32,61,32,123,50,44,50,125,32] HY.o [32,40,98,32] (rfl:(⟨n1.toArray⟩:ByteArray)=⟨n1.toArray⟩) [41,59,32,98,32,61,32,92,99,46,32,97,32,105,110,32,99,97,115,101,32,97,32,111,102,32,60,50,62,32,104,32,116,32,45,62,32,104,59] (by simp only[gK,zy8,zzm];omega);have h6:r5=⟨(Sg.zE2 5 kb x).toArray⟩:=by rw[h5];simp[Sg.zE2,Sg.lzS,HN.o]
 have JQ:=HA.o 5
 rotate_left
 all_goals
  have z5:r5.size<=600:=by rw[h6];exact HZ.o _
  rw[<-h6]at JQ;have JQ:=zab JQ;clear h5 h6;go_wp2_with fail
  all_goals try (exfalso;omega)
  refine (HM.o _).mono ?_;rintro e w4 ⟨rfl,f4⟩;have F4:=zab (F2.o.trans f4);clear f4;go_wp2_with fail
  refine (JQ.o _).mono ?_;rintro e w5 ⟨rfl,f5⟩;have F5:=zab (F4.o.trans f5);clear f5;go_wp2_with fail
  go_ret
  exact ⟨rfl,F5.o⟩
end Go.Proofs.YtgahgkddaljmkaaGreatDoor
