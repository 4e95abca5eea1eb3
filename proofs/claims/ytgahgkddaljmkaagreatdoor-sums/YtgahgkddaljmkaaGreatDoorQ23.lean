/- SmS .. SmD -/
import Derived.Test.YtgahgkddaljmkaaGreatDoorQ22
import Derived.Test.YtgahgkddaljmkaaGreatDoorQ19
set_option maxRecDepth 100000
set_option maxHeartbeats 4000000
namespace Go.Proofs.YtgahgkddaljmkaaGreatDoor
open Tryz
inductive Sm where
 |num (n:Nat)
 |op (Ij k:Nat) (a b:Sm)
namespace Sm
def val:Sm->Option Int
 |.num n=>some n
 |.op _ k a b=>
  match a.val,b.val with
  |some x,some y=>
   if k=0 then some (IntKind.i64.wrap (x+y)) else
   if k=1 then some (IntKind.i64.wrap (x-y)) else
   if k=2 then some (IntKind.i64.wrap (x*y)) else
   if y=0 then none else some (IntKind.i64.wrap (Int.tdiv x y))
  |_,_=>none
def sign (k:Nat):List UInt8:=if k=0 then [43] else if k=1 then [45] else if k=2 then [42] else [47]
def name (k:Nat):List UInt8:=if k=0 then [97,100,100] else if k=1 then [115,117,98] else if k=2 then [109,117,108] else [100,105,118]
def ct:Sm->Nat
 |.num _=>1
 |.op _ _ a b=>a.ct+b.ct+1
end Sm
end Go.Proofs.YtgahgkddaljmkaaGreatDoor
namespace Go.Proofs.YtgahgkddaljmkaaGreatDoor
open Tryz
namespace Sm
def par (t:List UInt8):List UInt8:=[40]++t++[41]
def text:Sm->List UInt8
 |.num n=>zrn 2 n
 |.op Ij k a b=>
  if Ij<5 then par a.text++[32]++sign k++[32]++par b.text else
  if Ij=5 then name k++[32]++par a.text++[32]++par b.text else
  if Ij=6 then [108,101,116,32,112,32,61,32]++par a.text++[59,32,113,32,61,32]++par b.text++[32,105,110,32,112,32]++sign k++[32,113] else
  [40,92,112,32,113,46,32,112,32]++sign k++[32,113,41,32]++par a.text++[32]++par b.text
def Ok:Nat->Sm->Prop
 |_,.num n=>n<40
 |0,.op _ _ _ _=>False
 |d+1,.op Ij k a b=>1<=Ij/\Ij<8/\k<4/\Ok d a/\Ok d b
theorem zCu(k:Nat):(sign k).length=1:=by
 unfold sign;split
 ·rfl
 ·split
  ·rfl
  ·split <;> rfl
theorem zmw(k:Nat):(name k).length=3:=by
 unfold name;split
 ·rfl
 ·split
  ·rfl
  ·split <;> rfl
def zEK:Nat->Nat
 |0=>2
 |d+1=>2*zEK d+40
theorem zCv:∀ {d:Nat} {s:Sm},Ok d s->s.text.length<=zEK d
 |d,.num n,_=>by
  have:=zme 2 n;have h:2<=zEK d:=by cases d <;> simp[zEK]
  rw[text];omega
 |0,.op _ _ _ _,h=>h.elim
 |d+1,.op Ij k a b,⟨_,_,_,h1,h2⟩=>by
  have i1:=zCv h1;have i2:=zCv h2;have s1:=zCu k;have n1:=zmw k;rw[text,zEK];split
  ·simp[par,s1];omega
  ·split
   ·simp[par,n1];omega
   ·split
    ·simp[par,s1];omega
    ·simp[par,s1];omega
def mk (g:Nat->Int) (len:Nat):Nat->Nat->Nat->Sm × Nat × Nat
 |0,i,left=>(.num (zB5 g len (zBZ len i) 40).toNat,zBZ len (zBZ len i),left)
 |d+1,i,left=>
  if zB5 g len i 8=0\/left=0 then (.num (zB5 g len (zBZ len i) 40).toNat,zBZ len (zBZ len i),left) else
  let a:=mk g len d (zBZ len i) (left-1)
  let b:=mk g len d a.2.1 a.2.2
  (.op (zB5 g len i 8).toNat (zB5 g len b.2.1 4).toNat a.1 b.1,zBZ len b.2.1,b.2.2)
theorem zCe(g:Nat->Int)(len i:Nat){n:Int}(hn:0<n):0<=zB5 g len i n/\zB5 g len i n<n:=by
 unfold zB5;split
 ·exact zfA hn
 ·exact ⟨Int.le_refl _,hn⟩
theorem zDX(g:Nat->Int)(len:Nat):∀ (d i left:Nat),Ok d (mk g len d i left).1
 |0,i,left=>by
  have:=zCe g len (zBZ len i) (n:=40) (by omega);show (zB5 g len (zBZ len i) 40).toNat<40;omega
 |d+1,i,left=>by
  have JG:=zCe g len (zBZ len i) (n:=40) (by omega);have h8:=zCe g len i (n:=8) (by omega);rw[mk];split
  ·show (zB5 g len (zBZ len i) 40).toNat<40;omega
  ·next hz=>
   have h4:=zCe g len (mk g len d (mk g len d (zBZ len i) (left-1)).2.1 (mk g len d (zBZ len i) (left-1)).2.2).2.1 (n:=4) (by omega);exact ⟨by omega,by omega,by omega,zDX g len d _ _,zDX g len d _ _⟩
end Sm
end Go.Proofs.YtgahgkddaljmkaaGreatDoor
namespace Go.Proofs.YtgahgkddaljmkaaGreatDoor
open Tryz
open Go.RowKit
attribute [local go_sem ↓] Go.wp_at_zero Go.wp_at_succ
def smV (s:Sm):Value:=.agg #[.string ⟨s.text.toArray⟩,.int .i64 (s.val.getD 0),.bool s.val.isNone]
theorem zB9.fr{w w':World}{sb:Nat}{a:Option Addr}{len cap:Nat}{g:Nat->Int}{i left i' Iq:Nat}(h:zB9 w sb a len cap g i left)(f:Fr (fun b=>b=sb) w w')(hb:Blk w' sb [.slice a len cap,.int .i64 i',.int .i64 Iq] 29):zB9 w' sb a len cap g i' Iq:=by
 refine ⟨hb,fun j hj=>?_⟩;obtain ⟨A,e1,e2,e3⟩:=h.2 j hj;refine ⟨A,e1,e2,?_⟩;have hl:=World.block_lt_of_cell? w (A.add j) e3;have aH:(A.add j).block≠sb:=by
  unfold Addr.add;split <;> exact e2
 exact (World.cell?_of_block (w:=w) (f.block _ hl aH)).trans e3
theorem zD4{w:World}{sb len cap i left d:Nat}{a:Option Addr}{g:Nat->Int}(h:zB9 w sb a len cap g i left)(hg:∀ j,-9223372036854775808<=g j/\g j<=9223372036854775807)(hlen:len<=9223372036854775807)(hi:i<=len)(hd:d<=5)(Ix:left<=1000)(hz:d=0\/zB5 g len i 8=0\/left=0):
  Calls prog 19 #[.pointer (some ⟨sb,0,none⟩),.int .i64 d] w fun e w'=>e=.returned (smV (.num (zB5 g len (zBZ len i) 40).toNat))/\Fr (fun b=>b=sb) w w'/\zB9 w' sb a len cap g (zBZ len (zBZ len i)) left:=by
 have N1:Hid (∀ W,zB9 W sb a len cap g i left->Calls prog 32 #[.pointer (some ⟨sb,0,none⟩),.int .i64 8] W fun e w'=>e=.returned (.int .i64 (zB5 g len i 8))/\Fr (fun b=>b=sb) W w'/\Blk w' sb [.slice a len cap,.int .i64 (zBZ len i),.int .i64 left] 29):=zab fun W hW=>zCt (n:=8) hW hg hlen hi (by omega) (by omega)
 have F0:=zab ((Fr.refl (fun b=>b=sb) w).alloc (.cells #[.string ⟨#[]⟩,.int .i64 0,.bool false] 31));have h0:=h.fr F0.o (h.1.alloc _);have B0:=zab (Blk.new w [.string ⟨#[]⟩,.int .i64 0,.bool false] 31);have aH:=zab (show ¬ w.heap.size=sb from Nat.ne_of_gt h.1.lt);have H:=zab h0;have H1:=zab h;have hb:=Sm.zCe g len (zBZ len i) (n:=40) (by omega);obtain ⟨m,hm⟩:=Int.eq_ofNat_of_zero_le hb.1;have lg:zBZ len i<=len:=by unfold zBZ;split <;> omega
 have Jo:m<40:=by omega
 have D:=zab (zjb 2 m (by omega) (by omega) (by omega));have N2:Hid (∀ W,zB9 W sb a len cap g (zBZ len i) left->Calls prog 32 #[.pointer (some ⟨sb,0,none⟩),.int .i64 40] W fun e w'=>e=.returned (.int .i64 m)/\Fr (fun b=>b=sb) W w'/\Blk w' sb [.slice a len cap,.int .i64 (zBZ len (zBZ len i)),.int .i64 left] 29):=zab fun W hW=>by
  have:=zCt (n:=40) hW hg hlen lg (by omega) (by omega)
  rwa [hm]at this
 rw[hm,zy2];clear h h0 hg hb hm;generalize zB5 g len i 8=Ij at *;rcases hz with rfl|rfl|rfl
 all_goals
  go_enter func19,ntmps19
  go_wp2_with fail
  refine (N1.o _ H.o).mono ?_;rintro e w1 ⟨rfl,f1,b1⟩;have S1:=zab (H.o.fr f1 b1);have F1:=zab (F0.o.trans f1);have B1:=zab (Fr.blk B0.o f1 aH.o);have c2:=b1.cell 2;simp at c2;clear f1 b1;go_wp2_with fail
  all_goals
   refine (N2.o _ S1.o).mono ?_;rintro e w2 ⟨rfl,f2,b2⟩;have S2:=zab (S1.o.fr f2 b2);have F2:=zab (F1.o.trans f2);have b3:=Fr.blk B1.o f2 aH.o;have HR:=zab b3;have r0:=b3.cell 0;have r1:=b3.cell 1;have r2:=b3.cell 2;have z0:=b3.frozen 0;have z1:=b3.frozen 1;have z2:=b3.frozen 2;simp at r0 r1 r2;clear f2 b2 b3;go_wp2_with fail
   refine (D.o _).mono ?_;rintro e w3 ⟨rfl,rfl⟩;go_wp2_with fail
   refine bodyPost_ret (results_cell_row rfl _ _ w.heap.size _ _ _ _ rfl (Blk.set (Blk.set (Blk.set HR.o 0 _) 1 _) 2 _) underlying31 rfl (by kernel_rfl)) rfl ?_;have FF:=((F2.o.set ⟨w.heap.size,0,none⟩ (.string ⟨(zrn 2 m).toArray⟩) (.inr (zyN _))).set ⟨w.heap.size,1,none⟩ (.int .i64 m) (.inr (zyN _))).set ⟨w.heap.size,2,none⟩ (.bool false) (.inr (zyN _));have hn:=fun e=>aH.o (Eq.symm e)
   exact ⟨rfl,FF,H1.o.fr FF (Blk.other (Blk.other (Blk.other S2.o.1 _ _ hn) _ _ hn) _ _ hn)⟩
def opT (Ij k:Nat) (a b:List UInt8):List UInt8:=
 if Ij<5 then Sm.par a++[32]++Sm.sign k++[32]++Sm.par b else
 if Ij=5 then Sm.name k++[32]++Sm.par a++[32]++Sm.par b else
 if Ij=6 then [108,101,116,32,112,32,61,32]++Sm.par a++[59,32,113,32,61,32]++Sm.par b++[32,105,110,32,112,32]++Sm.sign k++[32,113] else
 [40,92,112,32,113,46,32,112,32]++Sm.sign k++[32,113,41,32]++Sm.par a++[32]++Sm.par b
def opB (k:Nat) (y:Int) (p q:Bool):Bool:=p||q||(!(k=0||k=1||k=2) && y == 0)
def opN (k:Nat) (x y:Int):Int:=
 if k=0 then IntKind.i64.wrap (x+y) else
 if k=1 then IntKind.i64.wrap (x-y) else
 if k=2 then IntKind.i64.wrap (x*y) else
 if y=0 then 0 else IntKind.i64.wrap (Int.tdiv x y)
theorem zE0(Ij k:Nat)(a b:Sm):smV (.op Ij k a b)=.agg #[.string ⟨(opT Ij k a.text b.text).toArray⟩,.int .i64 (if opB k (b.val.getD 0) a.val.isNone b.val.isNone then 0 else opN k (a.val.getD 0) (b.val.getD 0)),.bool (opB k (b.val.getD 0) a.val.isNone b.val.isNone)]:=by
 unfold smV;have e:(Sm.op Ij k a b).text=opT Ij k a.text b.text:=rfl;have v:(Sm.op Ij k a b).val=if opB k (b.val.getD 0) a.val.isNone b.val.isNone then none else some (opN k (a.val.getD 0) (b.val.getD 0)):=by
  rw[Sm.val];rcases a.val with _|x <;> rcases b.val with _|y <;> simp[opB,opN]
  by_cases h0:k=0
  ·simp[h0]
  by_cases h1:k=1
  ·simp[h1]
  by_cases h2:k=2
  ·simp[h2]
  by_cases hy:y=0 <;> simp[h0,h1,h2,hy]
 rw[e,v];cases opB k (b.val.getD 0) a.val.isNone b.val.isNone <;> simp
theorem zC5(a b:ByteArray)(h:a.size+b.size<=1000000):∃ r,r=a++b/\r.size=a.size+b.size/\∀ W:World,(Op.stringOp .add a b).run prog W=.ok (.string r) W:=
 ⟨_,rfl,ByteArray.size_append,zl9 rfl (by rw[ByteArray.size_append];exact h)⟩
end Go.Proofs.YtgahgkddaljmkaaGreatDoor
