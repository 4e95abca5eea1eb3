/- SmA .. SmB -/
import Derived.Test.YtgahgkddaljmkaaGreatDoorR17
import Derived.Test.YtgahgkddaljmkaaGreatDoorR21
set_option maxRecDepth 100000
set_option maxHeartbeats 4000000
namespace Go.Proofs.YtgahgkddaljmkaaGreatDoor
open Tryz
open Go.RowKit
attribute [local go_sem ↓] Go.wp_at_zero Go.wp_at_succ
def zB9 (w:World) (sb:Nat) (a:Option Addr) (len cap:Nat) (g:Nat->Int) (i left:Nat):Prop:=
 Blk w sb [.slice a len cap,.int .i64 i,.int .i64 left] 29/\∀ j,j<len->∃ A:Addr,a=some A/\A.block≠sb/\w.cell? (A.add j)=some (.int .i64 (g j))
def zB5 (g:Nat->Int) (len i:Nat) (n:Int):Int:=if i<len then zmD (g i) n else 0
def zBZ (len i:Nat):Nat:=if i<len then i+1 else i
theorem zCt{w:World}{sb len cap i left:Nat}{a:Option Addr}{g:Nat->Int}{n:Int}(h:zB9 w sb a len cap g i left)(hg:∀ j,-9223372036854775808<=g j/\g j<=9223372036854775807)(hlen:len<=9223372036854775807)(hi:i<=len)(hn:0<n)(eY:n<=1000):
  Calls prog 32 #[.pointer (some ⟨sb,0,none⟩),.int .i64 n] w fun e w'=>e=.returned (.int .i64 (zB5 g len i n))/\Fr (fun b=>b=sb) w w'/\Blk w' sb [.slice a len cap,.int .i64 (zBZ len i),.int .i64 left] 29:=by
 obtain ⟨hb,hc⟩:=h;have c0:=hb.cell 0;have c1:=hb.cell 1;simp at c0 c1;have z1:=hb.frozen 1;by_cases aj:i<len
 ·obtain ⟨A,rfl,aH,cA⟩:=hc i aj;have PK:=zab (zfB (hg i).1 (hg i).2 (n:=n) hn (by omega));have Iw:(⟨sb,1,none⟩:Addr).block≠(A.add i).block:=by
   unfold Addr.add;split
   ·exact fun e=>aH e.symm
   ·exact fun e=>aH e.symm
  rw[zB5,if_pos aj,zBZ,if_pos aj];have HB:=zab hb;have HC:=zab cA;have HF:=zab Iw;clear hc hg Iw hb cA;go_enter func32,ntmps32
  go_wp2_with fail
  go_quiet (fail)
  have b2:=Blk.set (w:=w.drewN nq) HB.o 1 (.int .i64 ((i:Int)+1));simp only[zyW,zyZ]at b2;have d0:=b2.cell 0;have d1:=b2.cell 1;simp at d0 d1;have dA:((w.drewN nq).setCell ⟨sb,1,none⟩ (.int .i64 ((i:Int)+1))).cell? (A.add i)=some (.int .i64 (g i)):=(World.cell?_setCell_far _ _ _ _ HF.o).trans HC.o;have B2:=zab b2;clear b2;go_wp2_with fail
  go_quiet ((go_at_call 23;exact Calls.quiet_of_same (PK.o _)))
  go_wp2_with fail
  go_ret
  exact ⟨rfl,(((Fr.refl (fun b=>b=sb) w).drewN _).set ⟨sb,1,none⟩ _ (.inl rfl)).drewN _,B2.o⟩
 ·rw[zB5,if_neg aj,zBZ,if_neg aj];have HB:=zab hb;clear hc hg hb;go_enter func32,ntmps32
  go_wp2_with fail
  go_quiet (fail)
  go_wp2_with fail
  go_ret
  exact ⟨rfl,(Fr.refl _ _).drewN _,HB.o⟩
end Go.Proofs.YtgahgkddaljmkaaGreatDoor
namespace Go.Proofs.YtgahgkddaljmkaaGreatDoor
open Tryz
namespace Sm
def par (t:List UInt8):List UInt8:=[40]++t++[41]
def text:Sm->List UInt8
 |.num n=>zrn 2 n
 |.op Ij k a b=>
  if Ij<5 then par a.text++[32]++sign k++[32]++par b.text else
  if Ij=5 then name k++[32]++par a.text++[32]++par b.text else
  if Ij=6 then [108,101,116,32,112,32,61,32]++par a.text++[59,32,113,32,61,32]++par b.text++[32,105,110,32,112,32]++sign k++[32,113] else
  [40,92,112,32,113,46,32,112,32]++sign k++[32,113,41,32]++par a.text++[32]++par b.text
def Ok:Nat->Sm->Prop
 |_,.num n=>n<40
 |0,.op _ _ _ _=>False
 |d+1,.op Ij k a b=>1<=Ij/\Ij<8/\k<4/\Ok d a/\Ok d b
theorem zCu(k:Nat):(sign k).length=1:=by
 unfold sign;split
 ·rfl
 ·split
  ·rfl
  ·split <;> rfl
theorem zmw(k:Nat):(name k).length=3:=by
 unfold name;split
 ·rfl
 ·split
  ·rfl
  ·split <;> rfl
def zEK:Nat->Nat
 |0=>2
 |d+1=>2*zEK d+40
theorem zCv:∀ {d:Nat} {s:Sm},Ok d s->s.text.length<=zEK d
 |d,.num n,_=>by
  have:=zme 2 n;have h:2<=zEK d:=by cases d <;> simp[zEK]
  rw[text];omega
 |0,.op _ _ _ _,h=>h.elim
 |d+1,.op Ij k a b,⟨_,_,_,h1,h2⟩=>by
  have i1:=zCv h1;have i2:=zCv h2;have s1:=zCu k;have n1:=zmw k;rw[text,zEK];split
  ·simp[par,s1];omega
  ·split
   ·simp[par,n1];omega
   ·split
    ·simp[par,s1];omega
    ·simp[par,s1];omega
def mk (g:Nat->Int) (len:Nat):Nat->Nat->Nat->Sm × Nat × Nat
 |0,i,left=>(.num (zB5 g len (zBZ len i) 40).toNat,zBZ len (zBZ len i),left)
 |d+1,i,left=>
  if zB5 g len i 8=0\/left=0 then (.num (zB5 g len (zBZ len i) 40).toNat,zBZ len (zBZ len i),left) else
  let a:=mk g len d (zBZ len i) (left-1)
  let b:=mk g len d a.2.1 a.2.2
  (.op (zB5 g len i 8).toNat (zB5 g len b.2.1 4).toNat a.1 b.1,zBZ len b.2.1,b.2.2)
theorem zCe(g:Nat->Int)(len i:Nat){n:Int}(hn:0<n):0<=zB5 g len i n/\zB5 g len i n<n:=by
 unfold zB5;split
 ·exact zfA hn
 ·exact ⟨Int.le_refl _,hn⟩
theorem zDX(g:Nat->Int)(len:Nat):∀ (d i left:Nat),Ok d (mk g len d i left).1
 |0,i,left=>by
  have:=zCe g len (zBZ len i) (n:=40) (by omega);show (zB5 g len (zBZ len i) 40).toNat<40;omega
 |d+1,i,left=>by
  have JG:=zCe g len (zBZ len i) (n:=40) (by omega);have h8:=zCe g len i (n:=8) (by omega);rw[mk];split
  ·show (zB5 g len (zBZ len i) 40).toNat<40;omega
  ·next hz=>
   have h4:=zCe g len (mk g len d (mk g len d (zBZ len i) (left-1)).2.1 (mk g len d (zBZ len i) (left-1)).2.2).2.1 (n:=4) (by omega);exact ⟨by omega,by omega,by omega,zDX g len d _ _,zDX g len d _ _⟩
end Sm
end Go.Proofs.YtgahgkddaljmkaaGreatDoor
