/- HdI .. HdI -/
import Derived.Test.YtgahgkddaljmkaaGreatDoorT29
set_option maxRecDepth 100000
set_option maxHeartbeats 4000000
namespace Go.Proofs.YtgahgkddaljmkaaGreatDoor
open Tryz
open Go.RowKit
attribute [local go_sem ↓] Go.wp_at_zero Go.wp_at_succ
def hdB:List UInt8:=[117,112,32,110,32,61,32,99,97,115,101,32,110,32,61,61,32,48,32,111,102,32,60,50,62,32,45,62,32,123,49,44,48,125,59,32,60,49,62,32,45,62,32,123,50,44,50,125,32,110,32,40,117,112,32,40,110,32,45,32,49,41,41,59,32,115,105,122,101,32,108,32,61,32,99,97,115,101,32,108,32,111,102,32,60,49,62,32,45,62,32,48,59,32,60,50,62,32,104,32,116,32,45,62,32,49,32,43,32,115,105,122,101,32,116,59,32,109,97,105,110,32,61,32,108,101,116,32,108,32,61,32,117,112,32]
theorem zHW{a b t:List UInt8}(e:t=a++b)(h:t.length<=1000000):∀ W:World,(Op.stringOp .add ⟨a.toArray⟩ ⟨b.toArray⟩).run prog W=.ok (.string ⟨t.toArray⟩) W:=zl9 (by rw[e,zqj]) (by show t.toArray.size<=_;rw[zzr];exact h)
theorem zHJ{n less:Int}(h1:-9223372036854775808<=n)(h2:n<=9223372036854775807)(h3:-9223372036854775808<=less)(h4:less<=9223372036854775807)(w:World):
  Calls prog 13 #[.int .i64 n,.int .i64 less] w fun e w'=>e=.returned (.bool true)/\Fr (fun _=>False) w w':=by
 have P1:=zfB h1 h2 (n:=200) (by omega) (by omega);obtain ⟨a1,a2⟩:=zfA (c:=n) (n:=200) (by omega);obtain ⟨N,hN⟩:=Int.eq_ofNat_of_zero_le a1;rw[hN]at P1 a1 a2;obtain ⟨k,hk⟩:∃ k:Nat,k=1+N:=⟨_,rfl⟩;have cK:1<=k/\k<=200:=by omega
 have P2:=zfB h3 h4 (n:=(k:Int)+1) (by omega) (by omega);obtain ⟨a3,a4⟩:=zfA (c:=less) (n:=(k:Int)+1) (by omega);have D:=zjb 3 k (by omega) (by omega) (by omega);generalize zmD less ((k:Int)+1)=ls at *;obtain ⟨hp,Kr⟩:∃ hp:Int,hp=(k:Int)-ls:=⟨_,rfl⟩;obtain ⟨r1,r2⟩:=Sg.zHP (K:=k) (heap:=hp) cK.1 cK.2 (by omega);unfold zdw ziu at r1 r2;have rY:=zme 3 k;generalize zrn 3 k=ds at *;have W:=zab zo2;have Q1:=zab P1;have Q2:=zab P2;have QD:=zab D;have K0:=zab r1;have L0:=zab r2;have w1:IntKind.i64.wrap (1+(N:Int))=(k:Int):=by rw[hk,zbc _ (by omega) (by omega)];omega
 have w2:IntKind.i64.wrap ((k:Int)+1)=(k:Int)+1:=zbc _ (by omega) (by omega);have w3:IntKind.i64.wrap ((k:Int)-ls)=hp:=by rw[Kr,zbc _ (by omega) (by omega)]
 have w4:IntKind.i64.wrap (2*(k:Int))=(k:Int)+k:=by rw[zbc _ (by omega) (by omega)];omega
 clear P1 P2 D r1 r2 h1 h2 h3 h4 a1 a2 a3 a4 hN hk Kr;obtain ⟨t1,e1⟩:∃ t,t=hdB++ds:=⟨_,rfl⟩;have m1:t1.length<=200:=by rw[e1,zyT,show hdB.length=135 from by decide];omega
 have q1:=zHW e1 (by omega);have hB:hdB=Sg.zHB++[32]:=by decide
 have q2:=zHW (a:=t1) (b:=[32,105,110,32,115,105,122,101,32,108,32,43,32,115,105,122,101,32,108,59]) (t:=Sg.zHl ds) (by rw[e1,Sg.zHl,hB];simp[Sg.zHu]) (by rw[show Sg.zHl ds=t1++[32,105,110,32,115,105,122,101,32,108,32,43,32,115,105,122,101,32,108,59] by rw[e1,Sg.zHl,hB];simp[Sg.zHu]];simp;omega);simp only[hdB]at q1;clear e1 m1 hB rY;go_enter func13,ntmps13
 go_wp2_with fail
 refine (W.o _).mono ?_;rintro e wa ⟨rfl,f1⟩;have F1:=zab f1;clear f1;go_wp2_with fail
 refine (Q1.o _).mono ?_;rintro e wb ⟨rfl,rfl⟩;go_wp2_with fail
 refine (QD.o _).mono ?_;rintro e wc ⟨rfl,rfl⟩;go_wp2_with fail
 refine (K0.o _).mono ?_;rintro e w5 ⟨rfl,f5⟩;have F5:=zab ((F1.o.trans f5).alloc (.cells #[.int .i64 1,.int .i64 ((k:Int)+k),.int .i64 0,.int .i64 0] 35));have B5:=zab (Blk.new w5 [.int .i64 1,.int .i64 ((k:Int)+k),.int .i64 0,.int .i64 0] 35);clear f5;go_wp2_with fail
 refine (Q2.o _).mono ?_;rintro e w6 ⟨rfl,rfl⟩;go_wp2_with fail
 refine (L0.o _).mono ?_;rintro e w7 ⟨rfl,f7⟩;have F7:=zab ((F5.o.trans f7).alloc (.cells #[.int .i64 4,.int .i64 0,.int .i64 0,.int .i64 0] 35));have b7:=Blk.new w7 [.int .i64 4,.int .i64 0,.int .i64 0,.int .i64 0] 35;have l0:=Fr.blk B5.o (f7.alloc (.cells #[.int .i64 4,.int .i64 0,.int .i64 0,.int .i64 0] 35)) (by simp);obtain ⟨E7,Hz,Ia,Ib⟩:=l0.c4;obtain ⟨Ic,Ie,Ig,Ih⟩:=b7.c4;clear f7 b7 l0;go_wp2_with fail
 go_ret
 exact ⟨rfl,F7.o⟩
end Go.Proofs.YtgahgkddaljmkaaGreatDoor
