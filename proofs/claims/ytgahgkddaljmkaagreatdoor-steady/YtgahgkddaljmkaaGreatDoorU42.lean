/- LawK6 .. LawK6 -/
import Derived.Test.YtgahgkddaljmkaaGreatDoorW39
set_option maxRecDepth 100000
set_option maxHeartbeats 4000000
namespace Go.Proofs.YtgahgkddaljmkaaGreatDoor
open Go.RowKit
attribute [local go_sem ↓] Go.wp_at_zero Go.wp_at_succ
theorem zya(s:ByteArray){heap fuel more l0:Int}(h1:-9223372036854775808<=heap)(h2:heap<=9223372036854775807)(h3:-9223372036854775808<=fuel)(h4:fuel<=9223372036854775807)(h5:-9223372036854775808<=more)(h6:more<=9223372036854775807)(h7:-9223372036854775808<=l0)(h8:l0<=9223372036854775807)(w:World):
  Calls Tryz.prog 10 #[.string s,.int .i64 heap,.int .i64 fuel,.int .i64 more,.int .i64 l0] w fun e w'=>e=.returned (.bool true)/\Fr (fun _=>False) w w':=by
 have P1:=zfB h1 h2 (n:=3000) (by omega) (by omega);have P2:=zfB h3 h4 (n:=20000) (by omega) (by omega);have P3:=zfB h5 h6 (n:=5000) (by omega) (by omega);have P4:=zfB h7 h8 (n:=20000) (by omega) (by omega);obtain ⟨a1,a2⟩:=zfA (c:=heap) (n:=3000) (by omega);obtain ⟨a3,a4⟩:=zfA (c:=fuel) (n:=20000) (by omega);obtain ⟨a5,a6⟩:=zfA (c:=more) (n:=5000) (by omega);obtain ⟨a7,a8⟩:=zfA (c:=l0) (n:=20000) (by omega);generalize zmD heap 3000=hp at *;generalize zmD fuel 20000=fu at *;generalize zmD more 5000=mo at *;generalize zmD l0 20000=lo at *;obtain ⟨r,r',c,R1,R2,bH,bT⟩:=zpV s (heap:=hp) (gH:=hp+mo) (fuel:=fu) (dP:=fu+lo) (by omega) (by omega);have RO:=zrQ r;obtain ⟨k,n,t,a⟩:=r;obtain ⟨k',n',t',a'⟩:=r';unfold zdw ziu at R1 R2;unfold ziu at RO;have W:=zab zo2;have Q1:=zab P1;have Q2:=zab P2;have Q3:=zab P3;have Q4:=zab P4;have K1:=zab R1;have K2:=zab R2;have KO:=zab RO;have C1:=zab bH;have C2:=zab bT;clear P1 P2 P3 P4 R1 R2 RO bH bT h1 h2 h3 h4 h5 h6 h7 h8;go_enter Tryz.func10,Tryz.ntmps10
 go_wp2_with fail
 refine (W.o _).mono ?_;rintro e w1 ⟨rfl,f1⟩;have F1:=zab f1;clear f1;go_wp2_with fail
 refine (Q1.o _).mono ?_;rintro e w2 ⟨rfl,rfl⟩;go_wp2_with fail
 refine (Q2.o _).mono ?_;rintro e w3 ⟨rfl,rfl⟩;go_wp2_with fail
 refine (K1.o _).mono ?_;rintro e w4 ⟨rfl,f4⟩;have F4:=zab ((F1.o.trans f4).alloc (.cells #[.int .i64 k,.int .i64 n,.int .i64 t,.int .i64 a] 35));have B4:=zab (Blk.new w4 [.int .i64 k,.int .i64 n,.int .i64 t,.int .i64 a] 35);clear f4;go_wp2_with fail
 refine (Q3.o _).mono ?_;rintro e w5 ⟨rfl,rfl⟩;go_wp2_with fail
 refine (Q4.o _).mono ?_;rintro e w6 ⟨rfl,rfl⟩;go_wp2_with fail
 refine (K2.o _).mono ?_;rintro e w7 ⟨rfl,f7⟩;have F7:=zab ((F4.o.trans f7).alloc (.cells #[.int .i64 k',.int .i64 n',.int .i64 t',.int .i64 a'] 35));have b7:=Blk.new w7 [.int .i64 k',.int .i64 n',.int .i64 t',.int .i64 a'] 35;have l7:=Fr.blk B4.o (f7.alloc (.cells #[.int .i64 k',.int .i64 n',.int .i64 t',.int .i64 a'] 35)) (by simp);have Ia:=l7.cell 0;have Ib:=l7.cell 1;have Ic:=l7.cell 2;have Ie:=l7.cell 3;have Ig:=b7.cell 0;have Ih:=b7.cell 1;have Ii:=b7.cell 2;have Ij:=b7.cell 3;simp at Ia Ib Ic Ie Ig Ih Ii Ij;have B7:=zab b7;have E7:=zab l7;clear f7 b7 l7;by_cases hc:c=0
 ·subst hc;have E0:=C2.o rfl;have Hz:=zab E0;clear E0;go_wp2_with fail
  refine (KO.o _).mono ?_;rintro e w8 ⟨rfl,f8⟩;have F8:=zab (F7.o.trans f8);have b8:=Fr.blk B7.o f8 (by simp);have q7:=Fr.blk E7.o f8 (by simp);have d40:=q7.cell 0;have d41:=q7.cell 1;have d42:=q7.cell 2;have d43:=q7.cell 3;have d70:=b8.cell 0;have d71:=b8.cell 1;have d72:=b8.cell 2;have d73:=b8.cell 3;simp at d40 d41 d42 d43 d70 d71 d72 d73;clear f8 b8 q7;by_cases ho:(k,n,t,a)=((4,0,0,0):Ab.zsp)\/(k,n,t,a)=((5,0,0,0):Ab.zsp)
  ·rw[decide_eq_true ho];clear ho;go_wp2_with fail
   all_goals
    go_ret
    exact ⟨rfl,F8.o⟩
  ·rw[decide_eq_false ho];have nZ:(k,n,t,a)=(k',n',t',a'):=by
    rcases Hz.o with h|h|h
    ·exact absurd (.inl h) ho
    ·exact absurd (.inr h) ho
    ·exact h
   cases nZ;clear ho;go_wp2_with fail
   all_goals
    go_ret
    exact ⟨rfl,F8.o⟩
 ·obtain ⟨e1,e2⟩:=C1.o hc;cases e1;cases e2;go_wp2_with fail
  all_goals
   go_ret
   exact ⟨rfl,F7.o⟩
end Go.Proofs.YtgahgkddaljmkaaGreatDoor
