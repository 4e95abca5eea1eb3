/- SmS .. RsL -/
import Derived.Test.YtgahgkddaljmkaaGreatDoorV26
import Derived.Test.YtgahgkddaljmkaaGreatDoorV25
import Derived.Deep.CutBlock
set_option maxRecDepth 100000
set_option maxHeartbeats 4000000
namespace Go.Proofs.YtgahgkddaljmkaaGreatDoor
open Tryz Th Cp
section
inductive Sm where
 |num (n:Nat)
 |op (Ij k:Nat) (a b:Sm)
namespace Sm
def val:Sm->Option Int
 |.num n=>some n
 |.op _ k a b=>
  match a.val,b.val with
  |some x,some y=>
   if k=0 then some (IntKind.i64.wrap (x+y))else
   if k=1 then some (IntKind.i64.wrap (x-y))else
   if k=2 then some (IntKind.i64.wrap (x*y))else
   if y=0 then none else some (IntKind.i64.wrap (Int.tdiv x y))
  |_,_=>none
def sign (k:Nat):List UInt8:=if k=0 then[43]else if k=1 then[45]else if k=2 then[42]else[47]
def name (k:Nat):List UInt8:=if k=0 then[97,100,100]else if k=1 then[115,117,98]else if k=2 then[109,117,108]else[100,105,118]
end Sm
end
section
namespace Sm
def par (t:List UInt8):List UInt8:=[40]++t++[41]
def text:Sm->List UInt8
 |.num n=>Rm 2 n
 |.op Ij k a b=>
  if Ij<5 then par a.text++[32]++sign k++[32]++par b.text else
  if Ij=5 then name k++[32]++par a.text++[32]++par b.text else
  if Ij=6 then[108,101,116,32,112,32,61,32]++par a.text++[59,32,113,32,61,32]++par b.text++[32,105,110,32,112,32]++sign k++[32,113]else
  [40,92,112,32,113,46,32,112,32]++sign k++[32,113,41,32]++par a.text++[32]++par b.text
def Ok:Nat->Sm->Prop
 |_,.num n=>n<40
 |0,.op _ _ _ _=>False
 |d+1,.op Ij k a b=>1<=Ij/\Ij<8/\k<4/\Ok d a/\Ok d b
theorem ZF(k:Nat):(sign k).length=1:=by
 unfold sign;split
 .rfl
 .split
  .rfl
  .split<;>rfl
theorem R0(k:Nat):(name k).length=3:=by
 unfold name;split
 .rfl
 .split
  .rfl
  .split<;>rfl
def U9:Nat->Nat
 |0=>2
 |d+1=>2*U9 d+40
theorem XN:∀{d:Nat}{s:Sm},Ok d s->s.text.length<=U9 d
 |d,.num n,_=>by
  have:=Y5 2 n;have h:2<=U9 d:=by cases d<;>simp[U9]
  rw[text];omega
 |0,.op _ _ _ _,h=>h.elim
 |d+1,.op Ij k a b,⟨_,_,_,h1,h2⟩=>by
  have i1:=XN h1;have i2:=XN h2;have s1:=ZF k;have n1:=R0 k;rw[text,U9];split
  .simp[par,s1];omega
  .split
   .simp[par,n1];omega
   .split
    .simp[par,s1];omega
    .simp[par,s1];omega
def mk (g:Nat->Int) (len:Nat):Nat->Nat->Nat->Sm × Nat × Nat
 |0,i,left=>(.num (N9 g len (Mm len i) 40).toNat,Mm len (Mm len i),left)
 |d+1,i,left=>
  if N9 g len i 8=0\/left=0 then(.num (N9 g len (Mm len i) 40).toNat,Mm len (Mm len i),left)else
  let a:=mk g len d (Mm len i) (left-1)
  let b:=mk g len d a.2.1 a.2.2
  (.op (N9 g len i 8).toNat (N9 g len b.2.1 4).toNat a.1 b.1,Mm len b.2.1,b.2.2)
theorem Ud(g:Nat->Int)(len i:Nat){n:Int}(hn:0<n):0<=N9 g len i n/\N9 g len i n<n:=by
 unfold N9;split
 .exact zfA hn
 .exact⟨Int.le_refl _,hn⟩
theorem XO(g:Nat->Int)(len:Nat):∀(d i left:Nat),Ok d (mk g len d i left).1
 |0,i,left=>by have:=Ud g len (Mm len i) (n:=40) (by omega);show(N9 g len (Mm len i) 40).toNat<40;omega
 |d+1,i,left=>by
  have JG:=Ud g len (Mm len i) (n:=40) (by omega);have h8:=Ud g len i (n:=8) (by omega);rw[mk];split
  .show(N9 g len (Mm len i) 40).toNat<40;omega
  .next hz=>have h4:=Ud g len (mk g len d (mk g len d (Mm len i) (left-1)).2.1 (mk g len d (Mm len i) (left-1)).2.2).2.1 (n:=4) (by omega);exact⟨by omega,by omega,by omega,XO g len d _ _,XO g len d _ _⟩
end Sm
end
section
open Go.RowKit
attribute [local go_sem ↓] Go.wp_at_zero Go.wp_at_succ
def Wi (s:Sm):Value:=.agg #[.string ⟨s.text.toArray⟩,.int .i64 (s.val.getD 0),.bool s.val.isNone]
variable {w:World}{sb:Nat}{a:Option Addr}{len cap:Nat}{g:Nat->Int}{i left:Nat}
theorem OE.fr{w':World}{i' Iq:Nat}(h:OE w sb a len cap g i left)(f:Fr (λb=>b=sb) w w')(hb:oH w' sb [.slice a len cap,.int .i64 i',.int .i64 Iq] 29):OE w' sb a len cap g i' Iq:=by
 refine⟨hb,λj hj=>?_⟩;obtain⟨A,e1,e2,e3⟩:=h.2 j hj;refine⟨A,e1,e2,?_⟩;have hl:=World.block_lt_of_cell? w (A.add j) e3;have aH:(A.add j).block≠sb:=by unfold Addr.add;split<;>exact e2
 exact(kI (w:=w) (f.block _ hl aH)).trans e3
theorem zD4{d:Nat}(h:OE w sb a len cap g i left)(hg:∀j,-9223372036854775808<=g j/\g j<=9223372036854775807)(hlen:len<=9223372036854775807)(hi:i<=len)(hd:d<=5)(Ix:left<=1000)(hz:d=0\/N9 g len i 8=0\/left=0):
  Calls prog 19 #[.pointer (some ⟨sb,0,none⟩),.int .i64 d] w λe w'=>e=.returned (Wi (.num (N9 g len (Mm len i) 40).toNat))/\Fr (λb=>b=sb) w w'/\OE w' sb a len cap g (Mm len (Mm len i)) left:=by
 have N1:Hid (∀W,OE W sb a len cap g i left->Calls prog 32 #[.pointer (some ⟨sb,0,none⟩),.int .i64 8] W λe w'=>e=.returned (.int .i64 (N9 g len i 8))/\Fr (λb=>b=sb) W w'/\oH w' sb [.slice a len cap,.int .i64 (Mm len i),.int .i64 left] 29):=eu λW hW=>XM (n:=8) hW hg hlen hi (by omega) (by omega)
 have F0:=eu ((eU (λb=>b=sb) w).alloc (.cells #[.string ⟨#[]⟩,.int .i64 0,.bool false] 31));have h0:=h.fr F0.o (h.1.alloc _);have B0:=eu (gH w [.string ⟨#[]⟩,.int .i64 0,.bool false] 31);have aH:=eu (show¬w.heap.size=sb from Kg h.1.lt);have H:=eu h0;have H1:=eu h;have hb:=Sm.Ud g len (Mm len i) (n:=40) (by omega);obtain⟨m,hm⟩:=Int.eq_ofNat_of_zero_le hb.1;have lg:Mm len i<=len:=by unfold Mm;split<;>omega
 have Jo:m<40:=by omega
 have D:=eu (zjb 2 m (by omega) (by omega) (by omega));have N2:Hid (∀W,OE W sb a len cap g (Mm len i) left->Calls prog 32 #[.pointer (some ⟨sb,0,none⟩),.int .i64 40] W λe w'=>e=.returned (.int .i64 m)/\Fr (λb=>b=sb) W w'/\oH w' sb [.slice a len cap,.int .i64 (Mm len (Mm len i)),.int .i64 left] 29):=eu λW hW=>by
  have:=XM (n:=40) hW hg hlen lg (by omega) (by omega)
  rwa [hm]at this
 rw[hm,MO];clear h h0 hg hb hm;generalize N9 g len i 8=Ij at *;rcases hz with rfl|rfl|rfl
 all_goals
  go_enter func19,ntmps19;go_wp2_with fail;refine(N1.o _ H.o).mono ?_;rintro e w1⟨rfl,f1,b1⟩;have S1:=eu (H.o.fr f1 b1);have F1:=eu (F0.o.trans f1);have B1:=eu (gd B0.o f1 aH.o);have c2:=b1.cell 2;simp at c2;clear f1 b1;go_wp2_with fail
  all_goals
   refine(N2.o _ S1.o).mono ?_;rintro e w2⟨rfl,f2,b2⟩;have S2:=eu (S1.o.fr f2 b2);have F2:=eu (F1.o.trans f2);have b3:=gd B1.o f2 aH.o;have HR:=eu b3;have r0:=b3.cell 0;have r1:=b3.cell 1;have r2:=b3.cell 2;have z0:=b3.frozen 0;have z1:=b3.frozen 1;have z2:=b3.frozen 2;simp at r0 r1 r2;clear f2 b2 b3;go_wp2_with fail;refine(D.o _).mono ?_;rintro e w3⟨rfl,rfl⟩;go_wp2_with fail;refine mF (Dr rfl _ _ w.heap.size _ _ _ _ rfl (xN (xN (xN HR.o 0 _) 1 _) 2 _) underlying31 rfl (by kernel_rfl)) rfl ?_;have FF:=((F2.o.set ⟨w.heap.size,0,none⟩ (.string ⟨(Rm 2 m).toArray⟩) (.inr (qP _))).set ⟨w.heap.size,1,none⟩ (.int .i64 m) (.inr (qP _))).set ⟨w.heap.size,2,none⟩ (.bool false) (.inr (qP _));have hn:=λe=>aH.o (Eq.symm e)
   exact⟨rfl,FF,H1.o.fr FF (oH.other (oH.other (oH.other S2.o.1 _ _ hn) _ _ hn) _ _ hn)⟩
def XF (Ij k:Nat) (a b:List UInt8):List UInt8:=
 if Ij<5 then Sm.par a++[32]++Sm.sign k++[32]++Sm.par b else
 if Ij=5 then Sm.name k++[32]++Sm.par a++[32]++Sm.par b else
 if Ij=6 then[108,101,116,32,112,32,61,32]++Sm.par a++[59,32,113,32,61,32]++Sm.par b++[32,105,110,32,112,32]++Sm.sign k++[32,113]else
 [40,92,112,32,113,46,32,112,32]++Sm.sign k++[32,113,41,32]++Sm.par a++[32]++Sm.par b
def Si (k:Nat) (y:Int) (p q:Bool):Bool:=p||q||(!(k=0||k=1||k=2) && y == 0)
def PY (k:Nat) (x y:Int):Int:=
 if k=0 then IntKind.i64.wrap (x+y)else
 if k=1 then IntKind.i64.wrap (x-y)else
 if k=2 then IntKind.i64.wrap (x*y)else
 if y=0 then 0 else IntKind.i64.wrap (Int.tdiv x y)
theorem zE0(Ij k:Nat)(a b:Sm):Wi (.op Ij k a b)=.agg #[.string ⟨(XF Ij k a.text b.text).toArray⟩,.int .i64 (if Si k (b.val.getD 0) a.val.isNone b.val.isNone then 0 else PY k (a.val.getD 0) (b.val.getD 0)),.bool (Si k (b.val.getD 0) a.val.isNone b.val.isNone)]:=by
 unfold Wi;have e:(Sm.op Ij k a b).text=XF Ij k a.text b.text:=rfl;have v:(Sm.op Ij k a b).val=if Si k (b.val.getD 0) a.val.isNone b.val.isNone then none else some (PY k (a.val.getD 0) (b.val.getD 0)):=by
  rw[Sm.val];rcases a.val with _|x<;>rcases b.val with _|y<;>simp[Si,PY]
  by_cases h0:k=0
  .simp[h0]
  by_cases h1:k=1
  .simp[h1]
  by_cases h2:k=2
  .simp[h2]
  by_cases hy:y=0<;>simp[h0,h1,h2,hy]
 rw[e,v];cases Si k (b.val.getD 0) a.val.isNone b.val.isNone<;>simp
theorem XL(a b:ByteArray)(h:a.size+b.size<=1000000:=by omega):∃r,r=a++b/\r.size=a.size+b.size/\∀W:World,(Op.stringOp .add a b).run prog W=.ok (.string r) W:=
 ⟨_,rfl,iR,NJ rfl (by rw[iR];exact h)⟩
theorem Fr.Wg{K:Nat->Prop}{a b:World}(h:Fr K a b){g:Nat}(hg:a.heap.size<=g)(cs:Array Value):Fr K a (b.setRow g cs):=
 ⟨h.os,h.tape,h.output,by simp[World.setRow];exact h.size,λk hk hK=>by rw[Jz b g k cs (by omega)];exact h.block k hk hK⟩
theorem zEj(t:List UInt8):(⟨#[40]⟩:ByteArray)++⟨t.toArray⟩++⟨#[41]⟩=⟨(Sm.par t).toArray⟩:=by have e1:(⟨#[40]⟩:ByteArray)=⟨[40].toArray⟩:=rfl;have e2:(⟨#[41]⟩:ByteArray)=⟨[41].toArray⟩:=rfl;rw[e1,e2,VK,VK];rfl
theorem zEC{k:Nat}(hk:k<4):(⟨#[43,45,42,47]⟩:ByteArray).extract k (k+1)=⟨(Sm.sign k).toArray⟩:=by
 obtain rfl|rfl|rfl|rfl:k=0\/k=1\/k=2\/k=3:=by omega
 all_goals rfl
theorem O7{a b:ByteArray}{la lb:List UInt8}(ha:a=⟨la.toArray⟩)(hb:b=⟨lb.toArray⟩)(h:la.length+lb.length<=1000000):∃r,Hid (r=⟨(la++lb).toArray⟩)/\∀W:World,(Op.stringOp .add a b).run prog W=.ok (.string r) W:=
 ⟨_,eu rfl,NJ (by rw[ha,hb,VK]) (by show(la++lb).toArray.size<=1000000;simp;omega)⟩
theorem zE1{d Ij k i1 Ir i2 kl i3:Nat}{t1 t2:List UInt8}{x1 x2:Int}{p1 p2:Bool}(hd:d<=5)(hk:k<4)(hh:Ij≠0)(h8:Ij<8)(Ix:left+1<=1000)(l1:t1.length<=100000)(l2:t2.length<=100000)(N1:Hid (∀W,OE W sb a len cap g i (left+1)->Calls prog 32 #[.pointer (some ⟨sb,0,none⟩),.int .i64 8] W λe w'=>e=.returned (.int .i64 Ij)/\Fr (λb=>b=sb) W w'/\oH w' sb [.slice a len cap,.int .i64 (Mm len i),.int .i64 ((left+1:Nat):Int)] 29))(H:OE w sb a len cap g i (left+1))(IY:Hid (∀W,OE W sb a len cap g (Mm len i) left->Calls prog 19 #[.pointer (some ⟨sb,0,none⟩),.int .i64 d] W λe w'=>e=.returned (.agg #[.string ⟨t1.toArray⟩,.int .i64 x1,.bool p1])/\Fr (λb=>b=sb) W w'/\OE w' sb a len cap g i1 Ir))(IZ:Hid (∀W,OE W sb a len cap g i1 Ir->Calls prog 19 #[.pointer (some ⟨sb,0,none⟩),.int .i64 d] W λe w'=>e=.returned (.agg #[.string ⟨t2.toArray⟩,.int .i64 x2,.bool p2])/\Fr (λb=>b=sb) W w'/\OE w' sb a len cap g i2 kl))(N4:Hid (∀W,OE W sb a len cap g i2 kl->Calls prog 32 #[.pointer (some ⟨sb,0,none⟩),.int .i64 4] W λe w'=>e=.returned (.int .i64 k)/\Fr (λb=>b=sb) W w'/\oH w' sb [.slice a len cap,.int .i64 i3,.int .i64 kl] 29)):
  Calls prog 19 #[.pointer (some ⟨sb,0,none⟩),.int .i64 ((d:Int)+1)] w λe w'=>e=.returned (.agg #[.string ⟨(XF Ij k t1 t2).toArray⟩,.int .i64 (if Si k x2 p1 p2 then 0 else PY k x1 x2),.bool (Si k x2 p1 p2)])/\Fr (λb=>b=sb) w w'/\OE w' sb a len cap g i3 kl:=by
 obtain⟨pb,iN⟩:∃pb,Hid (pb=(p1||p2)):=⟨_,eu rfl⟩;have OB:Hid (Si k x2 p1 p2=(pb||(!(k=0||k=1||k=2) && x2 == 0))):=eu (by rw[iN.o];rfl);generalize IX:XF Ij k t1 t2=tx;generalize Si k x2 p1 p2=qb at *;generalize IV:PY k x1 x2=nn;generalize IW:(if qb=true then 0 else nn)=rn;have HT:=eu IX;have HN:=eu IV;have HR:=eu IW;clear IX IV IW;have F0:=eu ((eU (λb=>b=sb) w).alloc (.cells #[.string ⟨#[]⟩,.int .i64 0,.bool false] 31));have h0:=H.fr F0.o (H.1.alloc _);have B0:=eu (gH w [.string ⟨#[]⟩,.int .i64 0,.bool false] 31);have aH:=eu (show¬w.heap.size=sb from Kg H.1.lt);have HS:=eu h0;have H1:=eu H;clear H h0;go_enter func19,ntmps19;go_wp2_with fail;refine(N1.o _ HS.o).mono ?_;rintro e w1⟨rfl,f1,b1⟩;have S1:=eu (HS.o.fr f1 b1);have F1:=eu (F0.o.trans f1);have B1:=eu (gd B0.o f1 aH.o);have c2:=b1.cell 2;have z2:=b1.frozen 2;have cB:=eu b1;simp at c2;clear f1 b1;go_wp2_with fail
 all_goals try(exfalso;simp only[uq]at *;omega)
 have I4:oH (w1.setCell ⟨sb,2,none⟩ (.int .i64 left)) sb [.slice a len cap,.int .i64 (Mm len i),.int .i64 left] 29:=xN cB.o 2 _;have Iz:=(eU (λb=>b=sb) w1).set ⟨sb,2,none⟩ (.int .i64 left) (.inl rfl);have S2:=eu (S1.o.fr Iz I4);have F2:=eu (F1.o.trans Iz);have B2:=eu (gd B1.o Iz aH.o);clear Iz I4 c2 z2 cB;refine(IY.o _ S2.o).mono ?_;generalize w1.setCell ⟨sb,2,none⟩ (.int .i64 left)=w2 at *;rintro e w3⟨rfl,f3,I0⟩;have S3:=eu I0;have F3:=eu (F2.o.trans f3);have B3:=eu (gd B2.o f3 aH.o);clear f3 I0 S1 S2 F1 F2 B1 B2 N1 HS F0 B0;go_wp2_with fail;have S4:=eu (S3.o.fr ((eU (λb=>b=sb) w3).alloc (.cells #[.string ⟨t1.toArray⟩,.int .i64 x1,.bool p1] 31)) (S3.o.1.alloc _));have F4:=eu (F3.o.alloc (.cells #[.string ⟨t1.toArray⟩,.int .i64 x1,.bool p1] 31));have B4:=eu (B3.o.alloc (.cells #[.string ⟨t1.toArray⟩,.int .i64 x1,.bool p1] 31));have C4:=eu (gH w3 [.string ⟨t1.toArray⟩,.int .i64 x1,.bool p1] 31);have o6:=eu (show¬w3.heap.size=sb from Kg S3.o.1.lt);have fN:=eu (show w.heap.size<=w3.heap.size from F3.o.size);refine(IZ.o _ S4.o).mono ?_;generalize w3.heap.size=ab at *;generalize w3.alloc (.cells #[.string ⟨t1.toArray⟩,.int .i64 x1,.bool p1] 31)=w4 at *;rintro e w5⟨rfl,f5,I3⟩;have S5:=eu I3;have F5:=eu (F4.o.trans f5);have B5:=eu (gd B4.o f5 aH.o);have C5:=eu (gd C4.o f5 o6.o);clear f5 I3 S3 F3 B3 S4 F4 B4 C4 IY IZ;go_wp2_with fail;have S6:=eu (S5.o.fr ((eU (λb=>b=sb) w5).alloc (.cells #[.string ⟨t2.toArray⟩,.int .i64 x2,.bool p2] 31)) (S5.o.1.alloc _));have F6:=eu (F5.o.alloc (.cells #[.string ⟨t2.toArray⟩,.int .i64 x2,.bool p2] 31));have B6:=eu (B5.o.alloc (.cells #[.string ⟨t2.toArray⟩,.int .i64 x2,.bool p2] 31));have C6:=eu (C5.o.alloc (.cells #[.string ⟨t2.toArray⟩,.int .i64 x2,.bool p2] 31));have D6:=eu (gH w5 [.string ⟨t2.toArray⟩,.int .i64 x2,.bool p2] 31);have eZ:=eu (show¬w5.heap.size=sb from Kg S5.o.1.lt)
 have ma:=eu (show w.heap.size<=w5.heap.size from F5.o.size);refine(N4.o _ S6.o).mono ?_;generalize w5.heap.size=bb at *;generalize w5.alloc (.cells #[.string ⟨t2.toArray⟩,.int .i64 x2,.bool p2] 31)=w6 at *;rintro e w7⟨rfl,f7,b7⟩;have S7:=eu (S6.o.fr f7 b7);have F7:=eu (F6.o.trans f7);have B7:=eu (gd B6.o f7 aH.o);have c7:=gd C6.o f7 o6.o;have d7:=gd D6.o f7 eZ.o;have q0:=c7.cell 0;have q1:=c7.cell 1;have q2:=c7.cell 2;have r0:=d7.cell 0;have r1:=d7.cell 1;have r2:=d7.cell 2;simp at q0 q1 q2 r0 r1 r2;have C7:=eu c7;have D7:=eu d7;clear f7 b7 c7 d7 S5 F5 B5 S6 F6 B6 C6 D6 C5 N4;have oQ:=Nat.ne_of_lt C7.o.lt;have iC:=Nat.ne_of_lt D7.o.lt;clear q0 q1 q2 r0 r1 r2;have q0:∀o,(w7.alloc o).cell? ⟨ab,0,none⟩=some (.string ⟨t1.toArray⟩):=λo=>(C7.o.alloc o).cell 0
 have q1:∀o,(w7.alloc o).cell? ⟨ab,1,none⟩=some (.int .i64 x1):=λo=>(C7.o.alloc o).cell 1
 have q2:w7.cell? ⟨ab,2,none⟩=some (.bool p1):=C7.o.cell 2;have r0:∀o,(w7.alloc o).cell? ⟨bb,0,none⟩=some (.string ⟨t2.toArray⟩):=λo=>(D7.o.alloc o).cell 0
 have r1:∀o,(w7.alloc o).cell? ⟨bb,1,none⟩=some (.int .i64 x2):=λo=>(D7.o.alloc o).cell 1
 have r2:w7.cell? ⟨bb,2,none⟩=some (.bool p2):=D7.o.cell 2;have k0:∀o,(w7.alloc o).cell? ⟨w.heap.size,0,none⟩=some (.string ⟨#[]⟩):=λo=>(B7.o.alloc o).cell 0
 have k1:∀o,(w7.alloc o).cell? ⟨w.heap.size,1,none⟩=some (.int .i64 0):=λo=>(B7.o.alloc o).cell 1
 have k2:∀o,(w7.alloc o).cell? ⟨w.heap.size,2,none⟩=some (.bool false):=λo=>(B7.o.alloc o).cell 2
 have z0:∀o,(w7.alloc o).frozen? ⟨w.heap.size,0,none⟩=false:=λo=>(B7.o.alloc o).frozen 0
 have z1:∀o,(w7.alloc o).frozen? ⟨w.heap.size,1,none⟩=false:=λo=>(B7.o.alloc o).frozen 1
 have z2:∀o,(w7.alloc o).frozen? ⟨w.heap.size,2,none⟩=false:=λo=>(B7.o.alloc o).frozen 2
 have s1:(⟨t1.toArray⟩:ByteArray).size=t1.length:=by show t1.toArray.size=_;rw[O3]
 have s2:(⟨t2.toArray⟩:ByteArray).size=t2.length:=by show t2.toArray.size=_;rw[O3]
 have sp:(⟨#[32]⟩:ByteArray).size=1:=rfl;have sl:(⟨#[40]⟩:ByteArray).size=1:=rfl;have sr:(⟨#[41]⟩:ByteArray).size=1:=rfl;obtain⟨u,hu,zu,cu⟩:=XL ⟨#[40]⟩ ⟨t1.toArray⟩;obtain⟨x,hx,zx,cx⟩:=XL u ⟨#[41]⟩;obtain⟨v,hv,zv,cv⟩:=XL ⟨#[40]⟩ ⟨t2.toArray⟩;obtain⟨y,hy,zy,cy⟩:=XL v ⟨#[41]⟩;have zX:x.size<=100002:=by omega
 have zY:y.size<=100002:=by omega
 have HX:=eu (show x=⟨(Sm.par t1).toArray⟩ by rw[hx,hu];exact zEj t1);have HY:=eu (show y=⟨(Sm.par t2).toArray⟩ by rw[hy,hv];exact zEj t2);clear s1 s2 sp sl sr zu zx zv zy hu hx hv hy;have Jp:=eu (zEC hk);have lx:(Sm.par t1).length<=100002:=by simp[Sm.par];omega
 have ly:(Sm.par t2).length<=100002:=by simp[Sm.par];omega
 have ls:=Sm.ZF k;obtain⟨J,hJ⟩:∃J:World->Prop,Hid (∀wc,J wc=(oH wc w7.heap.size [.string ⟨tx.toArray⟩,.int .i64 0,.bool pb] 31/\oH wc ab [.string ⟨t1.toArray⟩,.int .i64 x1,.bool p1] 31/\oH wc bb [.string ⟨t2.toArray⟩,.int .i64 x2,.bool p2] 31/\oH wc w.heap.size [.string ⟨#[]⟩,.int .i64 0,.bool false] 31/\Fr (λb=>b=sb) w wc/\oH wc sb [.slice a len cap,.int .i64 i3,.int .i64 kl] 29)):=⟨_,eu λ_=>rfl⟩;have Iy:∀{u:ByteArray},(⟨tx.toArray⟩:ByteArray)=u->J (w7.alloc (.cells #[.string u,.int .i64 0,.bool (p1||p2)] 31)):=λe=>by rw[hJ.o,iN.o,e];exact⟨gH w7 _ _,C7.o.alloc _,D7.o.alloc _,B7.o.alloc _,F7.o.alloc _,S7.o.1.alloc _⟩
 have ks:∀{u:ByteArray},(⟨tx.toArray⟩:ByteArray)=u->∀o,J ((w7.alloc (.cells #[.string u,.int .i64 0,.bool (p1||p2)] 31)).alloc o):=λe o=>by rw[hJ.o,iN.o,e];exact⟨(gH w7 _ _).alloc o,(C7.o.alloc _).alloc _,(D7.o.alloc _).alloc _,(B7.o.alloc _).alloc _,(F7.o.alloc _).alloc _,(S7.o.1.alloc _).alloc _⟩
 obtain⟨J2,wR⟩:∃J:World->Prop,Hid (∀wc,J wc=(oH wc w7.heap.size [.string ⟨tx.toArray⟩,.int .i64 nn,.bool qb] 31/\oH wc w.heap.size [.string ⟨#[]⟩,.int .i64 0,.bool false] 31/\Fr (λb=>b=sb) w wc/\oH wc sb [.slice a len cap,.int .i64 i3,.int .i64 kl] 29)):=⟨_,eu λ_=>rfl⟩;have sN:p1=true\/p1=false:=by cases p1<;>simp
 obtain rfl|rfl:=sN
 all_goals
  go_upto_block 0 with fail
  rw[Jp.o];have cT:(⟨(Sm.sign k).toArray⟩:ByteArray)=⟨(Sm.sign k).toArray⟩:=rfl
  go_cut [] J
  case first=>
   have A3:(⟨#[32]⟩:ByteArray)=⟨[32].toArray⟩:=rfl;obtain aj|rfl|rfl|rfl:Ij<5\/Ij=5\/Ij=6\/Ij=7:=by omega
   .obtain⟨u1,q1,e1⟩:=O7 HX.o A3 (by simp;omega);obtain⟨u2,q2,e2⟩:=O7 q1.o cT (by simp;omega);obtain⟨u3,q3,e3⟩:=O7 q2.o A3 (by simp;omega);obtain⟨u4,q4,e4⟩:=O7 q3.o HY.o (by simp;omega);clear cT A3;obtain rfl|rfl|rfl|rfl:Ij=1\/Ij=2\/Ij=3\/Ij=4:=by omega
    all_goals
     go_wp2_with fail;go_meet
     exact Iy (show _=u4 by rw[q4.o,<-HT.o];rfl)
   .obtain⟨s1,q1,e1⟩:=O7 (show(⟨(Sm.name k).toArray⟩:ByteArray)=⟨(Sm.name k).toArray⟩from rfl) A3 (by rw[Sm.R0];simp);obtain⟨s2,q2,e2⟩:=O7 q1.o HX.o (by simp[Sm.R0];omega);obtain⟨s3,q3,e3⟩:=O7 q2.o A3 (by simp[Sm.R0];omega);obtain⟨s4,q4,e4⟩:=O7 q3.o HY.o (by simp[Sm.R0];omega);clear cT A3;obtain rfl|rfl|rfl|rfl:k=0\/k=1\/k=2\/k=3:=by omega
    .have e1:∀W:World,(Op.stringOp .add ⟨#[97,100,100]⟩ ⟨#[32]⟩).run prog W=.ok (.string s1) W:=e1;go_wp2_with fail;go_meet
     exact ks (show _=s4 by rw[q4.o,<-HT.o];rfl) _
    .have e1:∀W:World,(Op.stringOp .add ⟨#[115,117,98]⟩ ⟨#[32]⟩).run prog W=.ok (.string s1) W:=e1;go_wp2_with fail;go_meet
     exact ks (show _=s4 by rw[q4.o,<-HT.o];rfl) _
    .have e1:∀W:World,(Op.stringOp .add ⟨#[109,117,108]⟩ ⟨#[32]⟩).run prog W=.ok (.string s1) W:=e1;go_wp2_with fail;go_meet
     exact ks (show _=s4 by rw[q4.o,<-HT.o];rfl) _
    .have e1:∀W:World,(Op.stringOp .add ⟨#[100,105,118]⟩ ⟨#[32]⟩).run prog W=.ok (.string s1) W:=e1;go_wp2_with fail;go_meet
     exact ks (show _=s4 by rw[q4.o,<-HT.o];rfl) _
   .obtain⟨u1,q1,e1⟩:=O7 (show(⟨#[108,101,116,32,112,32,61,32]⟩:ByteArray)=⟨[108,101,116,32,112,32,61,32].toArray⟩from rfl) HX.o (by simp;omega);obtain⟨u2,q2,e2⟩:=O7 q1.o (show(⟨#[59,32,113,32,61,32]⟩:ByteArray)=⟨[59,32,113,32,61,32].toArray⟩from rfl) (by simp;omega);obtain⟨u3,q3,e3⟩:=O7 q2.o HY.o (by simp;omega);obtain⟨u4,q4,e4⟩:=O7 q3.o (show(⟨#[32,105,110,32,112,32]⟩:ByteArray)=⟨[32,105,110,32,112,32].toArray⟩from rfl) (by simp;omega);obtain⟨u5,q5,e5⟩:=O7 q4.o cT (by simp;omega);obtain⟨u6,q6,e6⟩:=O7 q5.o (show(⟨#[32,113]⟩:ByteArray)=⟨[32,113].toArray⟩from rfl) (by simp;omega);clear cT A3;go_wp2_with fail;go_meet
    exact Iy (show _=u6 by rw[q6.o,<-HT.o];rfl)
   .obtain⟨u1,q1,e1⟩:=O7 (show(⟨#[40,92,112,32,113,46,32,112,32]⟩:ByteArray)=⟨[40,92,112,32,113,46,32,112,32].toArray⟩from rfl) cT (by simp;omega);obtain⟨u2,q2,e2⟩:=O7 q1.o (show(⟨#[32,113,41,32]⟩:ByteArray)=⟨[32,113,41,32].toArray⟩from rfl) (by simp;omega);obtain⟨u3,q3,e3⟩:=O7 q2.o HX.o (by simp;omega);obtain⟨u4,q4,e4⟩:=O7 q3.o A3 (by simp;omega);obtain⟨u5,q5,e5⟩:=O7 q4.o HY.o (by simp;omega);clear cT A3;go_wp2_with fail;go_meet
    exact Iy (show _=u5 by rw[q5.o,<-HT.o];rfl)
  case rest=>
   rw[hJ.o]at hcut;obtain⟨o8,c8,d8,b8,f8,s8⟩:=hcut;have nw:¬w.heap.size=w7.heap.size:=by have:=B7.o.lt;omega
   have nS:¬sb=w7.heap.size:=by have:=S7.o.1.lt;omega
   have I6:w.heap.size<=w7.heap.size:=by have:=B7.o.lt;omega
   have Io:Hid (∀(W:World)(i:Nat)(v:Value),oH W w.heap.size [.string ⟨#[]⟩,.int .i64 0,.bool false] 31/\Fr (λb=>b=sb) w W/\oH W sb [.slice a len cap,.int .i64 i3,.int .i64 kl] 29->oH (W.setCell ⟨w7.heap.size,i,none⟩ v) w.heap.size [.string ⟨#[]⟩,.int .i64 0,.bool false] 31/\Fr (λb=>b=sb) w (W.setCell ⟨w7.heap.size,i,none⟩ v)/\oH (W.setCell ⟨w7.heap.size,i,none⟩ v) sb [.slice a len cap,.int .i64 i3,.int .i64 kl] 29):=eu (λW i v h=>⟨h.1.other ⟨w7.heap.size,i,none⟩ v nw,h.2.1.set ⟨w7.heap.size,i,none⟩ v (.inr I6),h.2.2.other ⟨w7.heap.size,i,none⟩ v nS⟩);have c1:=c8.cell 1;have d1:=d8.cell 1;have o0:=o8.cell 0;have o1:=o8.cell 1;have o2:=o8.cell 2;have y1:=o8.frozen 1;have y2:=o8.frozen 2;simp at c1 d1 o0 o1 o2;have O8:=eu o8;have R8:=eu (kK b8 (kK f8 s8));clear o8 c8 d8 b8 f8 s8 q0 q1 q2 r0 r1 r2 k0 k1 k2 z0 z1 z2 nw nS I6 cT cu cx cv cy oQ iC Iy ks
   go_upto_block 1 with fail
   go_cut [] J2
   case first=>
    obtain rfl|rfl|rfl|rfl:k=0\/k=1\/k=2\/k=3:=by omega
    .go_wp2_with fail;go_meet
     rw[wR.o];have e:qb=pb:=by rw[OB.o];simp
     rw[e,<-HN.o,show PY 0 x1 x2=wrap64 (x1+x2) by unfold PY wrap64;rw[nB rfl,uv]];exact⟨O8.o.set 1 _,Io.o _ 1 _ R8.o⟩
    .go_wp2_with fail;go_meet
     rw[wR.o];have e:qb=pb:=by rw[OB.o];simp
     rw[e,<-HN.o,show PY 1 x1 x2=wrap64 (x1-x2) by unfold PY wrap64;rw[qj,nB rfl,uv]];exact⟨O8.o.set 1 _,Io.o _ 1 _ R8.o⟩
    .go_wp2_with fail;go_meet
     rw[wR.o];have e:qb=pb:=by rw[OB.o];simp
     rw[e,<-HN.o,show PY 2 x1 x2=wrap64 (x1*x2) by unfold PY wrap64;rw[qj,qj,nB rfl,uv]];exact⟨O8.o.set 1 _,Io.o _ 1 _ R8.o⟩
    .by_cases hx:x2=0
     .go_wp2_with fail;go_meet
      rw[wR.o];have e:qb=true:=by rw[OB.o];simp[hx]
      rw[e,<-HN.o,show PY 3 x1 x2=0 by unfold PY;rw[qj,qj,qj,nB hx]];exact⟨O8.o.set 2 _,Io.o _ 2 _ R8.o⟩
     .go_wp2_with fail;go_meet
      rw[wR.o];have e:qb=pb:=by rw[OB.o];simp[hx]
      rw[e,<-HN.o,show PY 3 x1 x2=wrap64 (Int.tdiv x1 x2) by unfold PY wrap64;rw[qj,qj,qj,pL hx,uv]];exact⟨O8.o.set 1 _,Io.o _ 1 _ R8.o⟩
   case rest=>
    rw[wR.o]at hcut;obtain⟨o9,b9,f9,s9⟩:=hcut;clear c1 d1 o0 o1 o2 y1 y2 OB HN;have R9:=eu (kK b9 (kK f9 s9));have o1:=o9.cell 1;have o2:=o9.cell 2;have y1:=o9.frozen 1;simp at o1 o2;have O9:=eu o9;clear o9 b9 f9 s9 hJ wR O8 R8 lx ly ls hk hh h8;cases qb
    .go_upto_region 36 with fail
     refine wp_region_list (wpList_load_row rfl 31 (.tmp 11) rfl w7.heap.size rfl _ _ _ _ O9.o underlying31 rfl (by kernel_rfl) ?_);refine wpList_store_row rfl 31 (.tmp 4) (.tmp 157) rfl w.heap.size _ rfl rfl _ _ R9.o.1 (by kernel_rfl) rfl (by simp[Value.oneCell']) (wpList_nil ?_);rename_i IF;refine IF _ _ (wp_ret ?_);refine mF (Dr (p:=4) (ty:=31) ?h1 _ _ w.heap.size _ _ _ _ ?h2 (J6 _ _ _ _ _ _ R9.o.1) underlying31 rfl ?h3) ?h4 ?h5
     case h1=>kernel_rfl
     case h2=>kernel_rfl
     case h3=>kernel_rfl
     case h4=>rfl
     case h5=>have fr:=R9.o.2.1.Wg (qP w.heap.size) #[.string ⟨tx.toArray⟩,.int .i64 nn,.bool false];refine⟨by rw[<-HR.o];rfl,fr,H1.o.fr fr ?_⟩;show(World.setRow _ _ _).heap[sb]?=_;rw[Jz _ _ _ _ (Ne.symm aH.o)];exact R9.o.2.2
    .go_upto_region 36 with fail
     refine wp_region_list (wpList_load_row rfl 31 (.tmp 11) rfl w7.heap.size rfl _ _ _ _ (O9.o.set 1 _) underlying31 rfl (by kernel_rfl) ?_);refine wpList_store_row rfl 31 (.tmp 4) (.tmp 157) rfl w.heap.size _ rfl rfl _ _ (Io.o _ 1 (.int .i64 0) R9.o).1 (by kernel_rfl) rfl (by simp[Value.oneCell']) (wpList_nil ?_);rename_i IF;refine IF _ _ (wp_ret ?_);refine mF (Dr (p:=4) (ty:=31) ?h1 _ _ w.heap.size _ _ _ _ ?h2 (J6 _ _ _ _ _ _ (Io.o _ 1 (.int .i64 0) R9.o).1) underlying31 rfl ?h3) ?h4 ?h5
     case h1=>kernel_rfl
     case h2=>kernel_rfl
     case h3=>kernel_rfl
     case h4=>rfl
     case h5=>have fr:=(Io.o _ 1 (.int .i64 0) R9.o).2.1.Wg (qP w.heap.size) #[.string ⟨tx.toArray⟩,.int .i64 0,.bool true];refine⟨by rw[<-HR.o];rfl,fr,H1.o.fr fr ?_⟩;show(World.setRow _ _ _).heap[sb]?=_;rw[Jz _ _ _ _ (Ne.symm aH.o)];exact(Io.o _ 1 (.int .i64 0) R9.o).2.2
end
section
open Go.RowKit
variable {len i:Nat}
theorem S9(h:i<=len):Mm len i<=len:=by unfold Mm;split<;>omega
theorem Sm.mk_le(g:Nat->Int)(len:Nat):∀(d i left:Nat),i<=len->(Sm.mk g len d i left).2.1<=len/\(Sm.mk g len d i left).2.2<=left
 |0,i,left,h=>⟨S9 (S9 h),qP _⟩
 |d+1,i,left,h=>by
  rw[Sm.mk];split
  .exact⟨S9 (S9 h),qP _⟩
  .have h1:=Sm.mk_le g len d (Mm len i) (left-1) (S9 h);have h2:=Sm.mk_le g len d _ (Sm.mk g len d (Mm len i) (left-1)).2.2 h1.1;exact⟨S9 h2.1,by show(Sm.mk g len d _ _).2.2<=left;omega⟩
def Sm.ops:Sm->Nat
 |.num _=>0
 |.op _ _ a b=>a.ops+b.ops+1
theorem Sm.ZH(g:Nat->Int)(len:Nat):∀(d i left:Nat),(Sm.mk g len d i left).1.ops+(Sm.mk g len d i left).2.2<=left
 |0,i,left=>by simp[Sm.mk,Sm.ops]
 |d+1,i,left=>by
  rw[Sm.mk];split
  .simp[Sm.ops]
  .have h1:=Sm.ZH g len d (Mm len i) (left-1);have h2:=Sm.ZH g len d (Sm.mk g len d (Mm len i) (left-1)).2.1 (Sm.mk g len d (Mm len i) (left-1)).2.2;simp only[Sm.ops];omega
theorem Sm.ZD:∀x:Sm,x.text.length<=2+40*x.ops
 |.num v=>by have:=Y5 2 v;rw[Sm.text,Sm.ops];omega
 |.op Ij k a b=>by
  have i1:=Sm.ZD a;have i2:=Sm.ZD b;have s1:=Sm.ZF k;have n1:=Sm.R0 k;rw[Sm.text,Sm.ops];split
  .simp[Sm.par,s1];omega
  .split
   .simp[Sm.par,n1];omega
   .split
    .simp[Sm.par,s1];omega
    .simp[Sm.par,s1];omega
theorem zEy:∀{d:Nat},d<=5->Sm.U9 d<=100000
 |0,_=>by decide
 |1,_=>by decide
 |2,_=>by decide
 |3,_=>by decide
 |4,_=>by decide
 |5,_=>by decide
 |d+6,h=>absurd h (by omega)
theorem ZC{sb len cap:Nat}{a:Option Addr}{g:Nat->Int}(hg:∀j,-9223372036854775808<=g j/\g j<=9223372036854775807)(hlen:len<=9223372036854775807):∀(d i left:Nat)(w:World),d<=5->i<=len->left<=1000->OE w sb a len cap g i left ->
  Calls prog 19 #[.pointer (some ⟨sb,0,none⟩),.int .i64 d] w λe w'=>e=.returned (Wi (Sm.mk g len d i left).1)/\Fr (λb=>b=sb) w w'/\OE w' sb a len cap g (Sm.mk g len d i left).2.1 (Sm.mk g len d i left).2.2
 |0,i,left,w,hd,hi,hl,H=>zD4 H hg hlen hi hd hl (.inl rfl)
 |d+1,i,left,w,hd,hi,hl,H=>by
  rw[Sm.mk];by_cases hz:N9 g len i 8=0\/left=0
  .rw[nB hz];exact zD4 H hg hlen hi hd hl (.inr hz)
  .rw[pL hz];obtain⟨left,rfl⟩:∃k,left=k+1:=⟨left-1,by omega⟩;simp only[Nat.add_sub_cancel];have ha:=Sm.mk_le g len d (Mm len i) left (S9 hi);have oa:=Sm.XO g len d (Mm len i) left;have hb:=Sm.mk_le g len d (Sm.mk g len d (Mm len i) left).2.1 (Sm.mk g len d (Mm len i) left).2.2 ha.1;have ob:=Sm.XO g len d (Sm.mk g len d (Mm len i) left).2.1 (Sm.mk g len d (Mm len i) left).2.2;have I1:=λW(hW:OE W sb a len cap g (Mm len i) left)=>ZC hg hlen d (Mm len i) left W (by omega) (S9 hi) (by omega) hW
   have I2:=λW(hW:OE W sb a len cap g (Sm.mk g len d (Mm len i) left).2.1 (Sm.mk g len d (Mm len i) left).2.2)=>ZC hg hlen d _ _ W (by omega) ha.1 (by omega) hW
   generalize Sm.mk g len d (Mm len i) left=A at *;generalize Sm.mk g len d A.2.1 A.2.2=B at *;have h8:=Sm.Ud g len i (n:=8) (by omega);have h4:=Sm.Ud g len B.2.1 (n:=4) (by omega);have e8:N9 g len i 8=((N9 g len i 8).toNat:Int):=by omega
   have e4:N9 g len B.2.1 4=((N9 g len B.2.1 4).toNat:Int):=by omega
   have mL:=zEy (d:=d) (by omega);have:=zE1 (Ij:=(N9 g len i 8).toNat) (k:=(N9 g len B.2.1 4).toNat) (i3:=Mm len B.2.1) (d:=d) (by omega) (by omega) (by omega) (by omega) hl (yM (Sm.XN oa) mL) (yM (Sm.XN ob) mL)
    (eu λW hW=>by have:=XM (n:=8) hW hg hlen hi (by omega) (by omega);rw[e8]at this;exact this) H (eu I1) (eu I2)
    (eu λW hW=>by have:=XM (n:=4) hW hg hlen hb.1 (by omega) (by omega);rw[e4]at this;exact this)
   rw[zE0];exact this
end
section
open Go.RowKit
attribute [local go_sem ↓] Go.wp_at_zero Go.wp_at_succ
variable {w:World}{sb:Nat}
theorem Fr.drp{w':World}(h:Fr (λb=>b=sb) w w')(hs:w.heap.size<=sb):Fr (λ_=>False) w w':=
 ⟨h.os,h.tape,h.output,h.size,λk hk _=>h.block k hk (by omega)⟩
theorem Fr.NB{a b:World}(h:Fr (λ_=>False) a b):Below a.heap.size a b:=⟨h.os,h.tape,h.output,h.size,λk hk=>h.block k hk (λe=>e)⟩
def TR:List UInt8:=[97,100,100,32,120,32,121,32,61,32,120,32,43,32,121,59,32,115,117,98,32,120,32,121,32,61,32,120,32,45,32,121,59,32,109,117,108,32,120,32,121,32,61,32,120,32,42,32,121,59,32,100,105,118,32,120,32,121,32,61,32,120,32,47,32,121,59,32,109,97,105,110,32,61,32]
variable {a:Option Addr}{len cap:Nat}{g:Nat->Int}
theorem zJi(s:ByteArray){fuel:Int}(hlen:len<=9223372036854775807)(kr:∀i,i<len->∃A:Addr,a=some A/\A.block<w.heap.size/\w.cell? (A.add i)=some (.int .i64 (g i)))(hg:∀i,-9223372036854775808<=g i/\g i<=9223372036854775807)(h1:-9223372036854775808<=fuel)(h2:fuel<=9223372036854775807)(ht:Nq w):
  Calls prog 11 #[.string s,.slice a len cap,.int .i64 fuel] w λe w'=>e=.returned (.bool true)/\Fr (λ_=>False) w w':=by
 have I:=λsb W(hW:OE W sb a len cap g 0 8)=>ZC (sb:=sb) hg hlen 5 0 8 W (by omega) (Kc _) (by omega) hW
 have os:=Sm.ZH g len 5 0 8;generalize Sm.mk g len 5 0 8=X at *;obtain⟨x,j,l⟩:=X;simp only[Wi]at I;have tl:=Sm.ZD x;have hx:x.text.length<=322:=by simp only at os;omega
 obtain⟨t1,e1⟩:∃t,t=TR++x.text:=⟨_,rfl⟩;have m1:t1.length<=1000:=by rw[e1,IJ];have:TR.length=75:=rfl;omega
 have q1:∀W:World,(Op.stringOp .add ⟨#[97,100,100,32,120,32,121,32,61,32,120,32,43,32,121,59,32,115,117,98,32,120,32,121,32,61,32,120,32,45,32,121,59,32,109,117,108,32,120,32,121,32,61,32,120,32,42,32,121,59,32,100,105,118,32,120,32,121,32,61,32,120,32,47,32,121,59,32,109,97,105,110,32,61,32]⟩ ⟨x.text.toArray⟩).run prog W=.ok (.string ⟨t1.toArray⟩) W:=NJ (a:=⟨TR.toArray⟩) (by rw[e1,VK]) (by show t1.toArray.size<=_;rw[O3];omega);obtain⟨t2,e2⟩:∃t,t=t1++[59]:=⟨_,rfl⟩;have q2:∀W:World,(Op.stringOp .add ⟨t1.toArray⟩ ⟨#[59]⟩).run prog W=.ok (.string ⟨t2.toArray⟩) W:=NJ (b:=⟨[59].toArray⟩) (by rw[e2,VK]) (by show t2.toArray.size<=_;rw[O3,e2];simp;omega);have RA:=eu (λW(h:Nq W)=>zJu s h1 h2 h);have RB:=eu (λW(h:Nq W)=>zJu ⟨t2.toArray⟩ h1 h2 h);have W0:=eu zo2;have HC:=eu kr;have HI:=eu I;have HT:=eu ht;clear I os kr hg tl e1 e2 m1 hx hlen h1 h2 ht;go_enter func11,ntmps11;go_wp2_with fail;refine(W0.o _).mono ?_;rintro e w1⟨rfl,f1⟩;have F1:=eu f1;have T1:=eu (HT.o.fr f1);clear f1 W0;go_wp2_with fail;have F2:=eu ((eU (λb=>b=w1.heap.size) w1).alloc (.cells #[.slice a len cap,.int .i64 0,.int .i64 8] 29));refine(HI.o w1.heap.size _ ⟨gH w1 _ _,λi hi=>?_⟩).mono ?_
 .obtain⟨A,a1,a2,a3⟩:=HC.o i hi;have cT:=F1.o.size;have k1:=F1.o.NB.cell (p:=A.add i) (by unfold Addr.add;split<;>exact a2);exact⟨A,a1,by omega,(F2.o.drp (qP _)).NB.cell (p:=A.add i) (by unfold Addr.add;split<;>exact Kl a2 cT)|>.trans (k1.trans a3)⟩
 rintro e w2⟨rfl,f2,_⟩;have g2:=(F2.o.trans f2).drp (qP _);have T2:=eu (T1.o.fr g2);have F3:=eu (F1.o.trans g2);clear f2 g2 F1 F2 T1 HI HC;go_wp2_with fail;have g3:=(eU (λ_=>False) w2).alloc (.cells #[.string ⟨x.text.toArray⟩,.int .i64 (x.val.getD 0),.bool x.val.isNone] 31);have F4:=eu (F3.o.trans g3);have T4:=eu (T2.o.fr g3);have B4:=eu (gH w2 [.string ⟨x.text.toArray⟩,.int .i64 (x.val.getD 0),.bool x.val.isNone] 31);clear g3 F3 T2;refine(RA.o _ T4.o).mono ?_;rintro e w3⟨rfl,f5⟩;have c0:=(gd B4.o f5).cell 0;simp at c0;have F5:=eu (F4.o.trans f5);have T5:=eu (T4.o.fr f5);clear f5 F4 T4 RA;go_wp2_with fail;refine(RB.o _ T5.o).mono ?_;rintro e w4⟨rfl,f6⟩;have F6:=eu (F5.o.trans f6);clear f6 F5 T5 RB;go_wp2_with fail
 all_goals
  go_ret;exact⟨rfl,F6.o⟩
end
end Go.Proofs.YtgahgkddaljmkaaGreatDoor
