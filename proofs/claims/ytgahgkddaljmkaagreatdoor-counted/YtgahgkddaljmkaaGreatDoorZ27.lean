/- CnE .. CnE -/
import Derived.Test.YtgahgkddaljmkaaGreatDoorZ26
set_option maxRecDepth 100000
set_option maxHeartbeats 4000000
namespace Go.Proofs.YtgahgkddaljmkaaGreatDoor
open Tryz
open Go.RowKit Cn
attribute [local go_sem ↓] Go.wp_at_zero Go.wp_at_succ
theorem zBj{a b t:List UInt8}(e:t=a++b)(h:t.length<=1000000):∀ W:World,(Op.stringOp .add ⟨a.toArray⟩ ⟨b.toArray⟩).run prog W=.ok (.string ⟨t.toArray⟩) W:=zl9 (by rw[e,zqj]) (by show t.toArray.size<=_;rw[zzr];exact h)
theorem zBc{n Ij:Int}(h1:-9223372036854775808<=n)(h2:n<=9223372036854775807)(h3:-9223372036854775808<=Ij)(h4:Ij<=9223372036854775807)(w:World):
  Calls prog 12 #[.int .i64 n,.int .i64 Ij] w fun e w'=>e=.returned (.bool true)/\Fr (fun _=>False) w w':=by
 have P1:=zfB h1 h2 (n:=10000) (by omega) (by omega);have P2:=zfB h3 h4 (n:=3) (by omega) (by omega);obtain ⟨a1,a2⟩:=zfA (c:=n) (n:=10000) (by omega);obtain ⟨a3,a4⟩:=zfA (c:=Ij) (n:=3) (by omega);obtain ⟨N,hN⟩:=Int.eq_ofNat_of_zero_le a1;rw[hN]at P1 a1 a2;generalize zmD Ij 3=kd at *;have Ik:N<10000:=by omega
 have D:=zjb 4 N (by omega) Ik (by omega);have R0:=zBe (v:=0) (by omega) Ik;have R1:=zBe (v:=1) (by omega) Ik;have R2:=zBe (v:=2) (by omega) Ik;unfold zdw ziu at R0 R1 R2;have rY:=zme 4 N;generalize zrn 4 N=ds at *;have W:=zab zo2;have Q1:=zab P1;have Q2:=zab P2;have QD:=zab D;have K0:=zab R0.1;have L0:=zab R0.2;have K1:=zab R1.1;have L1:=zab R1.2;have K2:=zab R2.1;have L2:=zab R2.2;have iI:kd=0\/kd=1\/kd=2:=by omega
 clear P1 P2 D R0 R1 R2 h1 h2 h3 h4 a1 a2 a3 a4 hN;obtain ⟨t1,e1⟩:∃ t,t=zAE 0++ds:=⟨_,rfl⟩;obtain ⟨t2,e2⟩:∃ t,t=zAE 1++ds:=⟨_,rfl⟩;obtain ⟨t3,e3⟩:∃ t,t=zAE 2++ds:=⟨_,rfl⟩;have m1:t1.length<=200:=by rw[e1];simp[zAE];omega
 have m2:t2.length<=200:=by rw[e2];simp[zAE];omega
 have m3:t3.length<=200:=by rw[e3];simp[zAE];omega
 have q1:=zBj e1 (by omega);have q2:=zBj e2 (by omega);have q3:=zBj e3 (by omega);have q4:=zBj (a:=t1) (b:=[59]) (t:=zAD 0 ds) (by rw[e1,zAD,zzk];rfl) (by rw[zAD];simp[zAE,zAU];omega);have q5:=zBj (a:=t2) (b:=[32,49,32,50,59]) (t:=zAD 1 ds) (by rw[e2,zAD,zzk];rfl) (by rw[zAD];simp[zAE,zAU];omega);have q6:=zBj (a:=t3) (b:=[32,49,32,50,59]) (t:=zAD 2 ds) (by rw[e3,zAD,zzk];rfl) (by rw[zAD];simp[zAE,zAU];omega);simp only[zAE]at q1 q2 q3;clear e1 e2 e3 m1 m2 m3;go_enter func12,ntmps12
 go_wp2_with fail
 refine (W.o _).mono ?_;rintro e w1 ⟨rfl,f1⟩;have F1:=zab f1;clear f1;go_wp2_with fail
 refine (Q1.o _).mono ?_;rintro e w2 ⟨rfl,rfl⟩;go_wp2_with fail
 refine (QD.o _).mono ?_;rintro e w3 ⟨rfl,rfl⟩;go_wp2_with fail
 refine (Q2.o _).mono ?_;rintro e w4 ⟨rfl,rfl⟩;rcases iI with rfl|rfl|rfl
 ·go_wp2_with fail
  refine (K0.o _).mono ?_;rintro e w5 ⟨rfl,f5⟩;have F5:=zab ((F1.o.trans f5).alloc (.cells #[.int .i64 1,.int .i64 7,.int .i64 0,.int .i64 0] 35));have B5:=zab (Blk.new w5 [.int .i64 1,.int .i64 7,.int .i64 0,.int .i64 0] 35);clear f5;go_wp2_with fail
  refine (Q1.o _).mono ?_;rintro e w6 ⟨rfl,rfl⟩;go_wp2_with fail
  refine (L0.o _).mono ?_;rintro e w7 ⟨rfl,f7⟩;have F7:=zab ((F5.o.trans f7).alloc (.cells #[.int .i64 5,.int .i64 0,.int .i64 0,.int .i64 0] 35));have b7:=Blk.new w7 [.int .i64 5,.int .i64 0,.int .i64 0,.int .i64 0] 35;have l0:=Fr.blk B5.o (f7.alloc (.cells #[.int .i64 5,.int .i64 0,.int .i64 0,.int .i64 0] 35)) (by simp);have E7:=l0.cell 0;have Hz:=l0.cell 1;have Ia:=l0.cell 2;have Ib:=l0.cell 3;have Ic:=b7.cell 0;have Ie:=b7.cell 1;have Ig:=b7.cell 2;have Ih:=b7.cell 3;simp at E7 Hz Ia Ib Ic Ie Ig Ih;clear f7 b7 l0;go_wp2_with fail
  go_ret
  exact ⟨rfl,F7.o⟩
 ·go_wp2_with fail
  refine (Q1.o _).mono ?_;rintro e w8 ⟨rfl,rfl⟩;go_wp2_with fail
  refine (QD.o _).mono ?_;rintro e w9 ⟨rfl,rfl⟩;go_wp2_with fail
  refine (K1.o _).mono ?_;rintro e w5 ⟨rfl,f5⟩;have F5:=zab ((F1.o.trans f5).alloc (.cells #[.int .i64 1,.int .i64 7,.int .i64 0,.int .i64 0] 35));have B5:=zab (Blk.new w5 [.int .i64 1,.int .i64 7,.int .i64 0,.int .i64 0] 35);clear f5;go_wp2_with fail
  refine (Q1.o _).mono ?_;rintro e w6 ⟨rfl,rfl⟩;go_wp2_with fail
  refine (L1.o _).mono ?_;rintro e w7 ⟨rfl,f7⟩;have F7:=zab ((F5.o.trans f7).alloc (.cells #[.int .i64 5,.int .i64 0,.int .i64 0,.int .i64 0] 35));have b7:=Blk.new w7 [.int .i64 5,.int .i64 0,.int .i64 0,.int .i64 0] 35;have l0:=Fr.blk B5.o (f7.alloc (.cells #[.int .i64 5,.int .i64 0,.int .i64 0,.int .i64 0] 35)) (by simp);have E7:=l0.cell 0;have Hz:=l0.cell 1;have Ia:=l0.cell 2;have Ib:=l0.cell 3;have Ic:=b7.cell 0;have Ie:=b7.cell 1;have Ig:=b7.cell 2;have Ih:=b7.cell 3;simp at E7 Hz Ia Ib Ic Ie Ig Ih;clear f7 b7 l0;go_wp2_with fail
  go_ret
  exact ⟨rfl,F7.o⟩
 ·go_wp2_with fail
  refine (Q1.o _).mono ?_;rintro e w8 ⟨rfl,rfl⟩;go_wp2_with fail
  refine (QD.o _).mono ?_;rintro e w9 ⟨rfl,rfl⟩;go_wp2_with fail
  refine (K2.o _).mono ?_;rintro e w5 ⟨rfl,f5⟩;have F5:=zab ((F1.o.trans f5).alloc (.cells #[.int .i64 1,.int .i64 7,.int .i64 0,.int .i64 0] 35));have B5:=zab (Blk.new w5 [.int .i64 1,.int .i64 7,.int .i64 0,.int .i64 0] 35);clear f5;go_wp2_with fail
  refine (Q1.o _).mono ?_;rintro e w6 ⟨rfl,rfl⟩;go_wp2_with fail
  refine (L2.o _).mono ?_;rintro e w7 ⟨rfl,f7⟩;have F7:=zab ((F5.o.trans f7).alloc (.cells #[.int .i64 5,.int .i64 0,.int .i64 0,.int .i64 0] 35));have b7:=Blk.new w7 [.int .i64 5,.int .i64 0,.int .i64 0,.int .i64 0] 35;have l0:=Fr.blk B5.o (f7.alloc (.cells #[.int .i64 5,.int .i64 0,.int .i64 0,.int .i64 0] 35)) (by simp);have E7:=l0.cell 0;have Hz:=l0.cell 1;have Ia:=l0.cell 2;have Ib:=l0.cell 3;have Ic:=b7.cell 0;have Ie:=b7.cell 1;have Ig:=b7.cell 2;have Ih:=b7.cell 3;simp at E7 Hz Ia Ib Ic Ie Ig Ih;clear f7 b7 l0;go_wp2_with fail
  go_ret
  exact ⟨rfl,F7.o⟩
end Go.Proofs.YtgahgkddaljmkaaGreatDoor
