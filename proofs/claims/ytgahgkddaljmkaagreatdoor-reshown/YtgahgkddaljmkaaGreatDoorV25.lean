/- RsK .. SmA -/
import Derived.Test.YtgahgkddaljmkaaGreatDoorV24
set_option maxRecDepth 100000
set_option maxHeartbeats 4000000
namespace Go.Proofs.YtgahgkddaljmkaaGreatDoor
open Tryz Th Cp
open Go.RowKit
attribute [local go_sem ↓] Go.wp_at_zero Go.wp_at_succ
variable {w:World}
theorem Nq.fr{w':World}(h:Nq w)(f:Fr (λ_=>False) w w'):Nq w':=h.below ⟨f.os,f.tape,f.output,f.size,λk hk=>f.block k hk (λe=>e)⟩
variable {s:ByteArray}{fuel p:Int}
theorem zLy{c:Int}(hc:(c == 0)=false)(C:Tc s c p)(S:Um s ⟨#[]⟩)(ht:Nq w):
  Calls prog 27 #[.string s,.int .i64 fuel] w λe w'=>e=.returned (.bool true)/\Fr (λ_=>False) w w':=by
 have HC:=eu (C w);have HS:=eu S;have HT:=eu ht;clear C S ht;go_enter func27,ntmps27;go_wp2_with fail;refine HC.o.mono ?_;rintro e w1⟨rfl,b1⟩;have T1:=eu (HT.o.below b1);have F1:=eu (oq (K:=λ_=>False) b1);clear b1 HT HC;go_wp2_with fail;refine(HS.o _ T1.o).mono ?_;rintro e w2⟨rfl,b2⟩;have F2:=eu (F1.o.trans (oq b2));clear b2 T1 HS;go_wp2_with fail
 all_goals
  go_ret;exact⟨rfl,F2.o⟩
theorem zKH{t:ByteArray}(hl:t.size<=1000000)(h6:600<t.size)(C:Tc s 0 p)(S:Um s t)(ht:Nq w):
  Calls prog 27 #[.string s,.int .i64 fuel] w λe w'=>e=.returned (.bool true)/\Fr (λ_=>False) w w':=by
 have HC:=eu (C w);have HS:=eu S;have HT:=eu ht;clear C S ht;go_enter func27,ntmps27;go_wp2_with fail;refine HC.o.mono ?_;rintro e w1⟨rfl,b1⟩;have T1:=eu (HT.o.below b1);have F1:=eu (oq (K:=λ_=>False) b1);clear b1 HT HC;go_wp2_with fail;refine(HS.o _ T1.o).mono ?_;rintro e w2⟨rfl,b2⟩;have F2:=eu (F1.o.trans (oq b2));clear b2 T1 HS;go_wp2_with fail
 all_goals try(exfalso;omega)
 all_goals
  go_ret;exact⟨rfl,F2.o⟩
theorem zKj{t:ByteArray}{p':Int}(h1:-9223372036854775808<=fuel)(h2:fuel<=9223372036854775807)(h6:t.size<=600)(aH:t≠⟨#[]⟩)(C:Tc s 0 p)(S:Um s t)(C':Tc t 0 p')(S':Um t t)(R:∀heap fuel:Int,∃r,Qm s heap fuel r 0/\Qm t heap fuel r 0)(ht:Nq w):
  Calls prog 27 #[.string s,.int .i64 fuel] w λe w'=>e=.returned (.bool true)/\Fr (λ_=>False) w w':=by
 have he:t.toList.isEmpty=false:=by rw[mG,List.isEmpty_eq_false_iff];intro h;obtain⟨l⟩:=t;exact aH (by rw[<-Array.toList_eq_nil_iff.1 h])
 have HP:=eu (zfB h1 h2 (n:=20000) (by omega) (by omega));obtain⟨r,R1,R2⟩:=R 20000 (Tx fuel 20000);generalize Tx fuel 20000=fu at *;obtain⟨k,n,tg,a⟩:=r;unfold Qm QG at R1 R2;have HC:=eu (C w);have HS:=eu S;have nw:=eu C';have Lx:=eu S';have K1:=eu R1;have K2:=eu R2;have HT:=eu ht;clear C S C' S' R R1 R2 ht h1 h2;go_enter func27,ntmps27;go_wp2_with fail;refine HC.o.mono ?_;rintro e w1⟨rfl,b1⟩;have T1:=eu (HT.o.below b1);have F1:=eu (oq (K:=λ_=>False) b1);clear b1 HT HC;go_wp2_with fail;refine(HS.o _ T1.o).mono ?_;rintro e w2⟨rfl,b2⟩;have T2:=eu (T1.o.below b2);have F2:=eu (F1.o.trans (oq b2));clear b2 T1 F1 HS;go_wp2_with fail
 all_goals try(exfalso;omega)
 refine(nw.o _).mono ?_;rintro e w3⟨rfl,b3⟩;have T3:=eu (T2.o.below b3);have F3:=eu (F2.o.trans (oq b3));clear b3 T2 F2 nw;go_wp2_with fail;refine(Lx.o _ T3.o).mono ?_;rintro e w4⟨rfl,b4⟩;have F4:=eu (F3.o.trans (oq b4));clear b4 T3 F3 Lx;go_wp2_with fail;refine(HP.o _).mono ?_;rintro e w5⟨rfl,rfl⟩;go_wp2_with fail;refine(K1.o _).mono ?_;rintro e w6⟨rfl,f6⟩;have F6:=eu ((F4.o.trans f6).alloc (.cells #[.int .i64 k,.int .i64 n,.int .i64 tg,.int .i64 a] 35));have B6:=eu (gH w6 [.int .i64 k,.int .i64 n,.int .i64 tg,.int .i64 a] 35);clear f6;go_wp2_with fail;refine(K2.o _).mono ?_;rintro e w7⟨rfl,f7⟩;have F7:=eu ((F6.o.trans f7).alloc (.cells #[.int .i64 k,.int .i64 n,.int .i64 tg,.int .i64 a] 35));have b7:=gH w7 [.int .i64 k,.int .i64 n,.int .i64 tg,.int .i64 a] 35;have KR:=gd B6.o (f7.alloc (.cells #[.int .i64 k,.int .i64 n,.int .i64 tg,.int .i64 a] 35));have LY:=KR.cell 0;have L0:=KR.cell 1;have L1:=KR.cell 2;have L2:=KR.cell 3;have Ic:=b7.cell 0;have Ie:=b7.cell 1;have Ig:=b7.cell 2;have Ih:=b7.cell 3;simp at LY L0 L1 L2 Ic Ie Ig Ih;clear f7 b7 KR;go_wp2_with fail
 all_goals
  go_ret;exact⟨rfl,F7.o⟩
theorem zJu(s:ByteArray)(h1:-9223372036854775808<=fuel)(h2:fuel<=9223372036854775807)(ht:Nq w):
  Calls prog 27 #[.string s,.int .i64 fuel] w λe w'=>e=.returned (.bool true)/\Fr (λ_=>False) w w':=by
 rcases zKG s with⟨c,p,hc,C,S⟩|⟨p,t,C,S,hl,hr⟩
 .exact zLy (by rw[kJ];exact hc) C S ht
 .rcases Rs 600 t.size with h|h
  .exact zKH hl h C S ht
  .obtain⟨aH,⟨p',C'⟩,S',R⟩:=hr h;exact zKj h1 h2 h aH C S C' S' R ht
def OE (w:World) (sb:Nat) (a:Option Addr) (len cap:Nat) (g:Nat->Int) (i left:Nat):Prop:=
 oH w sb [.slice a len cap,.int .i64 i,.int .i64 left] 29/\∀j,j<len->∃A:Addr,a=some A/\A.block≠sb/\w.cell? (A.add j)=some (.int .i64 (g j))
def N9 (g:Nat->Int) (len i:Nat) (n:Int):Int:=if i<len then Tx (g i) n else 0
def Mm (len i:Nat):Nat:=if i<len then i+1 else i
theorem XM{sb len cap i left:Nat}{a:Option Addr}{g:Nat->Int}{n:Int}(h:OE w sb a len cap g i left)(hg:∀j,-9223372036854775808<=g j/\g j<=9223372036854775807)(hlen:len<=9223372036854775807)(hi:i<=len)(hn:0<n)(eY:n<=1000):
  Calls prog 32 #[.pointer (some ⟨sb,0,none⟩),.int .i64 n] w λe w'=>e=.returned (.int .i64 (N9 g len i n))/\Fr (λb=>b=sb) w w'/\oH w' sb [.slice a len cap,.int .i64 (Mm len i),.int .i64 left] 29:=by
 obtain⟨hb,hc⟩:=h;have c0:=hb.cell 0;have c1:=hb.cell 1;simp at c0 c1;have z1:=hb.frozen 1;by_cases aj:i<len
 .obtain⟨A,rfl,aH,cA⟩:=hc i aj;have PK:=eu (zfB (hg i).1 (hg i).2 (n:=n) hn (by omega));have Iw:(⟨sb,1,none⟩:Addr).block≠(A.add i).block:=by
   unfold Addr.add;split
   .exactλe=>aH e.symm
   .exactλe=>aH e.symm
  rw[N9,nB aj,Mm,nB aj];have HB:=eu hb;have HC:=eu cA;have HF:=eu Iw;clear hc hg Iw hb cA;go_enter func32,ntmps32;go_wp2_with fail
  go_quiet (fail)
  have b2:=xN (w:=w.drewN nq) HB.o 1 (.int .i64 ((i:Int)+1));simp only[Nh,NK]at b2;have d0:=b2.cell 0;have d1:=b2.cell 1;simp at d0 d1;have dA:((w.drewN nq).setCell ⟨sb,1,none⟩ (.int .i64 ((i:Int)+1))).cell? (A.add i)=some (.int .i64 (g i)):=(World.cell?_setCell_far _ _ _ _ HF.o).trans HC.o;have B2:=eu b2;clear b2;go_wp2_with fail
  go_quiet ((go_at_call 23;exact qQ (PK.o _)))
  go_wp2;go_ret;exact⟨rfl,(((eU (λb=>b=sb) w).drewN _).set ⟨sb,1,none⟩ _ (.inl rfl)).drewN _,B2.o⟩
 .rw[N9,pL aj,Mm,pL aj];have HB:=eu hb;clear hc hg hb;go_enter func32,ntmps32;go_wp2_with fail
  go_quiet (fail)
  go_wp2;go_ret;exact⟨rfl,(eU _ _).drewN _,HB.o⟩
end Go.Proofs.YtgahgkddaljmkaaGreatDoor
