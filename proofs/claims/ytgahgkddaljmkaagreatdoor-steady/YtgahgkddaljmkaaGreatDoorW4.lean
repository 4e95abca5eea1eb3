/- Mach16 .. Mach18 -/
import Derived.Test.YtgahgkddaljmkaaGreatDoorW3
set_option maxRecDepth 100000
set_option maxHeartbeats 4000000
namespace Go.Proofs.YtgahgkddaljmkaaGreatDoor
open Tryz
open Go.RowKit
attribute [local go_sem ↓] Go.wp_at_zero Go.wp_at_succ
def BAt (w:World) (mb wb:Nat) (fv pv:Value) (sl:List Nat):Prop:=
 ∃ pb cap,pv=.slice (some ⟨pb,0,none⟩) sl.length cap/\pb<w.heap.size/\¬ MB mb wb fv pb/\∀ (i n:Nat),sl[i]?=some n->n<=1000000/\w.cell? ⟨pb,i*2,none⟩=some (.int .i64 n)
variable {w:World}
variable {mb wb:Nat}
variable {fv:Value}
theorem BAt.fr{w':World}{pv:Value}{sl:List Nat}(h:BAt w mb wb fv pv sl)(f:Fr (MB mb wb fv) w w'):BAt w' mb wb fv pv sl:=by
 obtain ⟨pb,cap,h1,h2,h3,h4⟩:=h;refine ⟨pb,cap,h1,zyS h2 f.size,h3,fun i n hi=>⟨(h4 i n hi).1,?_⟩⟩;rw[World.cell?_of_block (w:=w) (f.block pb h2 h3)];exact (h4 i n hi).2
def Sto.zfJ (s:Sto) (sl:List Nat) (a:Nat):Option Int:=
 match s.ws[a]? with
 |none=>none
 |some y=>if y<0\/9223372036854775808<=y then none else
  if y%16=2 then
   match sl[(y/65536).toNat]? with
   |none=>none
   |some n=>some ((n:Int)-y/16%4096)
  else some (-1)
variable {m:MSt}
variable {a:Nat}
theorem zjp{sl:List Nat}(h:MAt w mb wb fv m)(hB:BAt w mb wb fv m.o.pb sl){r:Int}(hr:m.s.zfJ sl a=some r):
  Calls prog 127 #[.pointer (some ⟨mb,0,none⟩),.int .i64 a] w fun e w'=>e=.returned (.int .i64 r)/\∃ n,w'=w.drewN n:=by
 unfold Sto.zfJ at hr;split at hr
 ·cases hr
 ·next y hy=>
  split at hr
  ·cases hr
  ·next aT=>
   have c0:=h.sat.c0;have cy:=h.sat.word hy;have aU:=(zyL.1 hy).1;have eo:(a:Int)<(m.s.ws.length:Int):=by omega
   have CK:=zab (fun W:World=>za4 y W (by omega) (by omega));by_cases hk:y%16=2
   ·rw[if_pos hk]at hr;split at hr
    ·cases hr
    ·next n hn=>
     obtain rfl:=zyU hr;obtain ⟨pb,cap,eD,_,_,dA⟩:=hB;have c5:=h.sat.c5;rw[eD]at c5;obtain ⟨cR,cn⟩:=dA _ _ hn;have CW:=zab (fun W:World=>zbw y W (by omega) (by omega));have CC:=zab (fun W:World=>za3 y W (by omega) (by omega));have cV:=(zyL.1 hn).1;obtain ⟨b,hb⟩:∃ b:Nat,y/65536=b:=⟨(y/65536).toNat,by omega⟩;obtain ⟨c,hc⟩:∃ c:Nat,y/16%4096=c:=⟨(y/16%4096).toNat,by omega⟩;have jj:(c:Int)<4096:=by omega
     rw[hb]at CW cV cn;rw[hc]at CC ⊢;rw[hk]at CK;simp only[zy2]at cn cV;have Eh:(b:Int)<(sl.length:Int):=by omega
     clear h hr hy aT hk eD dA hn hb hc aU;go_enter func127,ntmps127
     go_wp2_with fail
     refine (CK.o _).mono ?_;rintro e w1 ⟨rfl,aD⟩;subst w1;go_wp2_with fail
     go_quiet ((first|(go_at_call 84;exact Calls.quiet_of_same (CW.o _))|(go_at_call 85;exact Calls.quiet_of_same (CC.o _))))
     go_wp2_with fail
     go_ret
     exact ⟨rfl,_,rfl⟩
   ·rw[if_neg hk]at hr;obtain rfl:=zyU hr;have lj:(y%16 == 2)=false:=by rw[beq_eq_false_iff_ne];exact hk
    generalize y%16=z at CK hk lj;clear h hr hy aT hk hB aU;go_enter func127,ntmps127
    go_wp2_with fail
    refine (CK.o _).mono ?_;rintro e w1 ⟨rfl,aD⟩;subst w1;go_wp2_with fail
    go_ret
    exact ⟨rfl,0,rfl⟩
theorem zxK:∀ {k:Nat} {s s':Sto} {a:Nat},s.scan a k=some s'->s'.ws.length=s.ws.length:=by
 intro k
 induction k with
 |zero=>intro s s' a h;cases h
 |succ k ih=>
  intro s s' a h;rw[Sto.scan]at h;split at h
  ·split at h
   ·cases h
   ·split at h
    ·cases h
    ·split at h
     ·cases h
     ·next s1 hb=>
      split at h
      ·cases h
      ·split at h
       ·cases h
       ·rw[ih h];exact (zgO hb).1
  ·obtain rfl:=zyU h;rfl
variable {s:Sto}
theorem zli{s':Sto}{fns cI:List Int}(hc:s.collect fns=some (cI,s')):s'.ws.length=s.ws.length:=by
 unfold Sto.collect at hc;split at hc
 ·next hg=>
  have ht:s.zbR.ws.length=s.ws.length:=by
   unfold Sto.zbR;simp only;rw[zaY];rw[zzf,zzu];omega
  split at hc
  ·cases hc
  ·next s1 aA=>
   split at hc
   ·cases hc
   ·next gj s2 aw=>
    split at hc
    ·cases hc
    ·next s3 bD=>
     simp only[zyP,zzL]at hc;rw[<-hc.2,zxK bD,(zdQ aw).1,(zgO aA).1,ht]
 ·cases hc
theorem zmx{m':MSt}{c:Nat}(h:m.zdI c=some (.ok m')):m'.s.ws.length=m.s.ws.length:=by
 unfold MSt.zdI at h;split at h
 ·simp only[zyP,zAb]at h;rw[h]
 ·split at h
  ·cases h
  ·next gj s2 jW=>
   split at h
   ·simp only[zyP,reduceCtorEq]at h
   ·simp only[zyP,zAb]at h;rw[<-h];exact zli jW
def Sto.head (s:Sto) (a:Nat):Option Int:=
 match s.ws[a]? with
 |none=>none
 |some y=>if y<0\/9223372036854775808<=y then none else some y
variable {y:Int}
theorem Sto.zaU(h:s.head a=some y):s.ws[a]?=some y/\0<=y/\y<9223372036854775808/\a<s.ws.length:=by
 unfold Sto.head at h;split at h
 ·cases h
 ·next x hx=>
  split at h
  ·cases h
  ·next hg=>obtain rfl:=zyU h;exact ⟨hx,by omega,by omega,(zyL.1 hx).1⟩
def Sto.nodeAt (s:Sto) (d:Nat):Option (Nat × Int):=
 match s.ws[s.top+d]? with
 |none=>none
 |some x=>if x<0 then none else (s.head x.toNat).map fun y=>(x.toNat,y)
theorem Sto.zaP{d:Nat}(h:s.nodeAt d=some (a,y)):s.ws[s.top+d]?=some (a:Int)/\s.head a=some y:=by
 unfold Sto.nodeAt at h;split at h
 ·cases h
 ·next x hx=>
  split at h
  ·cases h
  ·next hg=>
   simp only[zyX,zzL]at h;obtain ⟨z,h1,h2,rfl⟩:=h;subst h2;refine ⟨?_,h1⟩;rw[hx,Int.toNat_of_nonneg (by omega)]
def cnt (y:Int):Nat:=(y/16%4096).toNat
theorem zh9(_h:0<=y):y/16%4096=(cnt y:Int):=by unfold cnt;omega
theorem zf2(y:Int):cnt y<4096:=by unfold cnt;omega
def MSt.begun (m:MSt):Option MSt:=
 match m.s.nodeAt 0 with
 |none=>none
 |some (a,_)=>
  match m.s.push (Mk 0 0) with
  |none=>none
  |some s2=>
   match s2.head a with
   |none=>none
   |some y2=>if s2.ws.length<a+1+cnt y2 then none else
    match s2.zek (s2.words (a+1) (cnt y2)) with
    |none=>none
    |some s3=>
     match s3.head a with
     |none=>none
     |some y3=>some { m with s:={ s3 with ws:=s3.ws.set a (Hd 3 0 0) },o:={ m.o with next:=y3/65536 } }
def MSt.zdy (m:MSt):Option (Except Nat MSt):=
 match m.s.nodeAt 0 with
 |none=>none
 |some (_,y)=>aft (m.zdI (1+cnt y)) fun m1=>m1.begun.map .ok
theorem zsE{k:Nat}(h:MAt w mb wb fv m)(ha:m.s.nodeAt 0=some (a,y))(hn:m.zdI (1+cnt y)=some (.error k)):
  Calls prog 128 #[.pointer (some ⟨mb,0,none⟩)] w fun e w'=>Ends w mb wb fv (.error k) e w':=by
 obtain ⟨hx,hh⟩:=Sto.zaP ha;obtain ⟨hy,aT,bE,aU⟩:=Sto.zaU hh;have c0:=h.sat.c0;have eo:(a:Int)<(m.s.ws.length:Int):=by omega
 have CC:=zab (fun W:World=>za3 y W aT bE);rw[zh9 aT]at CC;have aN:=zf2 y;have CA:=zab (fun (W:World) (hW:MAt W mb wb fv m)=>zaA (d:=0) hW.sat _ hx);have HH:=zab h;have HY:=zab hy;have CN:=zab (fun (W:World) (hW:MAt W mb wb fv m)=>zaW hW hn);simp only[zzq,zzJ]at CN;have uS:IntKind.i64.wrap (1+(cnt y:Int))=1+(cnt y:Int):=zbc _ (by omega) (by omega);generalize cnt y=c at *;clear h ha hx hy hh hn aT bE aU;go_enter func128,ntmps128
 go_wp2_with fail
 refine wp_region_held_drew (S:=fun W=>W.cell? ⟨mb,0,none⟩=some (.slice (some ⟨wb,0,none⟩) m.s.ws.length m.s.ws.length)) (by kernel_rfl) HH.o.sat.drew.c0 (fun ax=>?_);refine wpAnyH_take (i:=0) (v:=?_) rfl (by kernel_rfl) (by kernel_rfl) (by kernel_rfl) (fun _ _ _ h=>h) (Or.inl ⟨by rfl,?_⟩) (by assumption) ?_
 rotate_left 1
 ·(intro w al;(try dsimp only at al);go_simp;try with_reducible rfl)
 try simp only[Act.put,zyO]
 refine wpAnyH_take (i:=1) (v:=?_) rfl (by kernel_rfl) (by kernel_rfl) (by kernel_rfl) (fun _ _ _ h=>h) (Or.inl ⟨by rfl,?_⟩) (by assumption) ?_
 rotate_left 1
 ·(intro w al;(try dsimp only at al);go_simp;try with_reducible rfl)
 try simp only[Act.put]
 refine wpAnyH_take (i:=2) (v:=?_) rfl (by kernel_rfl) (by kernel_rfl) (by kernel_rfl) (fun _ _ _ h=>h) (Or.inl ⟨by rfl,?_⟩) (by assumption) ?_
 rotate_left 1
 ·(intro w al;(try dsimp only at al);go_simp;try with_reducible rfl)
 try simp only[Act.put]
 refine wpAnyH_take (i:=3) (v:=?_) rfl (by kernel_rfl) (by kernel_rfl) (by kernel_rfl) (fun _ _ _ h=>h) (Or.inl ⟨by rfl,?_⟩) (by assumption) ?_
 rotate_left 1
 ·(intro w al;(try dsimp only at al);go_simp;try with_reducible rfl)
 try simp only[Act.put]
 refine wpAnyH_take (i:=4) (v:=?_) rfl (by kernel_rfl) (by kernel_rfl) (by kernel_rfl) (fun _ _ _ h=>h) (Or.inl ⟨by rfl,?_⟩) (by assumption) ?_
 rotate_left 1
 ·(intro w al;(try dsimp only at al);go_simp;try with_reducible rfl)
 try simp only[Act.put]
 refine wpAnyH_take (i:=5) (v:=?_) rfl (by kernel_rfl) (by kernel_rfl) (by kernel_rfl) (fun _ _ _ h=>h) (Or.inl ⟨by rfl,?_⟩) (by assumption) ?_
 rotate_left 1
 ·(intro w al;(try dsimp only at al);go_simp;try with_reducible rfl)
 try simp only[Act.put]
 refine wpAnyH_take (i:=6) (v:=?_) rfl (by kernel_rfl) (by kernel_rfl) (by kernel_rfl) (fun _ _ _ h=>h) (Or.inl ⟨by rfl,?_⟩) (by assumption) ?_
 rotate_left 1
 ·(intro w al;(try dsimp only at al);go_simp;try with_reducible rfl)
 try simp only[Act.put]
 refine wpAnyH_take (i:=7) (v:=?_) rfl (by kernel_rfl) (by kernel_rfl) (by kernel_rfl) (fun _ _ _ h=>h) (Or.inl ⟨by rfl,?_⟩) (by assumption) ?_
 rotate_left 1
 ·(intro w al;(try dsimp only at al);go_simp;try with_reducible rfl)
 try simp only[Act.put]
 refine wpAnyH_take (i:=8) (v:=?_) rfl (by kernel_rfl) (by kernel_rfl) (by kernel_rfl) (fun _ _ _ h=>h) (Or.inl ⟨by rfl,?_⟩) (by assumption) ?_
 rotate_left 1
 ·(intro w al;(try dsimp only at al);go_simp;try with_reducible rfl)
 try simp only[Act.put]
 refine wpAnyH_ready (rs:=[9]) (by kernel_rfl) (by simp) ?_;refine AllReadyH.cons rfl (fun K hK=>?_) AllReadyH.nil
 go_simp
 refine (CA.o _ (HH.o.drewN 1)).mono ?_;rintro e w2 ⟨rfl,k2,aB⟩;have H2:Hid (MAt w2 mb wb fv m):=zab (by rw[aB];exact (HH.o.drewN 1).drewN k2);have F2:Hid (Fr (MB mb wb fv) w w2):=zab (by rw[aB];exact (Fr.refl _ _).drew.drewN k2);have d0:=H2.o.sat.c0;have dy:=H2.o.sat.word HY.o;clear aB;refine hK.out _ _ d0 (fun ax=>?_);clear hK K
 try simp only[Act.put,zyO,zyZ,zyW]
 refine wpAnyH_take (i:=10) (v:=?_) rfl (by kernel_rfl) (by kernel_rfl) (by kernel_rfl) (fun _ _ _ h=>h) (Or.inl ⟨by rfl,?_⟩) (by assumption) ?_
 rotate_left 1
 ·(intro w al;(try dsimp only at al);go_simp;try with_reducible rfl)
 try simp only[Act.put,zyO]
 refine wpAnyH_ready (rs:=[11]) (by kernel_rfl) (by simp) ?_;refine AllReadyH.cons rfl (fun K hK=>?_) AllReadyH.nil
 go_simp
 refine hK.out _ _ d0 (fun ax=>?_);clear hK K
 try simp only[Act.put,zyO,zyZ,zyW]
 refine wpAnyH_ready (rs:=[12]) (by kernel_rfl) (by simp) ?_;refine AllReadyH.cons rfl (fun K hK=>?_) AllReadyH.nil
 go_simp
 refine (CC.o _).mono ?_;rintro e w3 ⟨rfl,bL⟩;subst w3;refine hK.out _ _ d0 (fun ax=>?_);clear hK K
 try simp only[Act.put,zyO,zyZ,zyW]
 refine wpAnyH_take (i:=13) (v:=?_) rfl (by kernel_rfl) (by kernel_rfl) (by kernel_rfl) (fun _ _ _ h=>h) (Or.inl ⟨by rfl,?_⟩) (by assumption) ?_
 rotate_left 1
 ·(intro w al;(try dsimp only at al);go_simp;try with_reducible rfl)
 try simp only[Act.put,zyO]
 refine wpAnyH_ready (rs:=[14]) (by kernel_rfl) (by simp) ?_;refine AllReadyH.cons rfl (fun K hK=>?_) AllReadyH.nil
 go_simp
 refine (CN.o _ H2.o).mono ?_;rintro e w4 ⟨f4,rfl,h4⟩;exact ⟨rfl,F2.o.trans f4,rfl,h4⟩
theorem zu8{m1 m':MSt}(h:MAt w mb wb fv m)(ha:m.s.nodeAt 0=some (a,y))(hn:m.zdI (1+cnt y)=some (.ok m1))(hb:m1.begun=some m'):
  Calls prog 128 #[.pointer (some ⟨mb,0,none⟩)] w fun e w'=>Ends w mb wb fv (.ok m') e w':=by
 obtain ⟨hx,hh⟩:=Sto.zaP ha;obtain ⟨hy,aT,bE,aU⟩:=Sto.zaU hh;have c0:=h.sat.c0;have eo:(a:Int)<(m.s.ws.length:Int):=by omega
 have CC:=zab (fun W:World=>za3 y W aT bE);rw[zh9 aT]at CC;have aN:=zf2 y;have HH:=zab h;have CA:=zab (fun (W:World) (hW:MAt W mb wb fv m)=>zaA (d:=0) hW.sat _ hx);have HY:=zab hy;have CN:=zab (fun (W:World) (hW:MAt W mb wb fv m)=>zaW hW hn);simp only[zzq,zzJ]at CN;have pL:=zab (zmx hn);have uS:IntKind.i64.wrap (1+(cnt y:Int))=1+(cnt y:Int):=zbc _ (by omega) (by omega);unfold MSt.begun at hb;split at hb
 ·cases hb
 ·next a1 y1 gm=>
  split at hb
  ·cases hb
  ·next s2 AE=>
   split at hb
   ·cases hb
   ·next y2 kZ=>
    split at hb
    ·cases hb
    ·next aJ=>
     split at hb
     ·cases hb
     ·next s3 js=>
      split at hb
      ·cases hb
      ·next y3 ld=>
       obtain rfl:=zyU hb;obtain ⟨ee,_⟩:=Sto.zaP gm;obtain ⟨lL,iS,iT,ji⟩:=Sto.zaU kZ;obtain ⟨oi,iU,iV,kN⟩:=Sto.zaU ld;have eR:=zab ee;have je:=zab AE;have gE:=zab (And.intro lL (And.intro iS (And.intro iT (show a1+1+cnt y2<=s2.ws.length by omega))));have oB:=zab js;have pO:=zab oi;have CW:=zab (fun W:World=>zbw y3 W iU iV);have rO:(a1:Int)<(s3.ws.length:Int):=by omega
       have fP:=zcj h.sat.ne;have CH:=zab (fun W:World=>zbt 3 0 0 W (by omega) (by omega) (by omega));obtain ⟨z,hz⟩:∃ z,Hd 3 0 0=z:=⟨_,rfl⟩;obtain ⟨nx,gx⟩:∃ nx,y3/65536=nx:=⟨_,rfl⟩;rw[hz]at CH ⊢;rw[gx]at CW ⊢;clear hz gx;generalize cnt y=c at *;clear h ha hx hy hh hn aT bE aU hb gm ee kZ lL iS iT ji aJ AE js ld oi iU iV kN;go_enter func128,ntmps128
       go_wp2_with fail
       refine wp_region_held_drew (S:=fun W=>W.cell? ⟨mb,0,none⟩=some (.slice (some ⟨wb,0,none⟩) m.s.ws.length m.s.ws.length)) (by kernel_rfl) HH.o.sat.drew.c0 (fun ax=>?_);refine wpAnyH_take (i:=0) (v:=?_) rfl (by kernel_rfl) (by kernel_rfl) (by kernel_rfl) (fun _ _ _ h=>h) (Or.inl ⟨by rfl,?_⟩) (by assumption) ?_
       rotate_left 1
       ·(intro w al;(try dsimp only at al);go_simp;try with_reducible rfl)
       try simp only[Act.put,zyO]
       refine wpAnyH_take (i:=1) (v:=?_) rfl (by kernel_rfl) (by kernel_rfl) (by kernel_rfl) (fun _ _ _ h=>h) (Or.inl ⟨by rfl,?_⟩) (by assumption) ?_
       rotate_left 1
       ·(intro w al;(try dsimp only at al);go_simp;try with_reducible rfl)
       try simp only[Act.put]
       refine wpAnyH_take (i:=2) (v:=?_) rfl (by kernel_rfl) (by kernel_rfl) (by kernel_rfl) (fun _ _ _ h=>h) (Or.inl ⟨by rfl,?_⟩) (by assumption) ?_
       rotate_left 1
       ·(intro w al;(try dsimp only at al);go_simp;try with_reducible rfl)
       try simp only[Act.put]
       refine wpAnyH_take (i:=3) (v:=?_) rfl (by kernel_rfl) (by kernel_rfl) (by kernel_rfl) (fun _ _ _ h=>h) (Or.inl ⟨by rfl,?_⟩) (by assumption) ?_
       rotate_left 1
       ·(intro w al;(try dsimp only at al);go_simp;try with_reducible rfl)
       try simp only[Act.put]
       refine wpAnyH_take (i:=4) (v:=?_) rfl (by kernel_rfl) (by kernel_rfl) (by kernel_rfl) (fun _ _ _ h=>h) (Or.inl ⟨by rfl,?_⟩) (by assumption) ?_
       rotate_left 1
       ·(intro w al;(try dsimp only at al);go_simp;try with_reducible rfl)
       try simp only[Act.put]
       refine wpAnyH_take (i:=5) (v:=?_) rfl (by kernel_rfl) (by kernel_rfl) (by kernel_rfl) (fun _ _ _ h=>h) (Or.inl ⟨by rfl,?_⟩) (by assumption) ?_
       rotate_left 1
       ·(intro w al;(try dsimp only at al);go_simp;try with_reducible rfl)
       try simp only[Act.put]
       refine wpAnyH_take (i:=6) (v:=?_) rfl (by kernel_rfl) (by kernel_rfl) (by kernel_rfl) (fun _ _ _ h=>h) (Or.inl ⟨by rfl,?_⟩) (by assumption) ?_
       rotate_left 1
       ·(intro w al;(try dsimp only at al);go_simp;try with_reducible rfl)
       try simp only[Act.put]
       refine wpAnyH_take (i:=7) (v:=?_) rfl (by kernel_rfl) (by kernel_rfl) (by kernel_rfl) (fun _ _ _ h=>h) (Or.inl ⟨by rfl,?_⟩) (by assumption) ?_
       rotate_left 1
       ·(intro w al;(try dsimp only at al);go_simp;try with_reducible rfl)
       try simp only[Act.put]
       refine wpAnyH_take (i:=8) (v:=?_) rfl (by kernel_rfl) (by kernel_rfl) (by kernel_rfl) (fun _ _ _ h=>h) (Or.inl ⟨by rfl,?_⟩) (by assumption) ?_
       rotate_left 1
       ·(intro w al;(try dsimp only at al);go_simp;try with_reducible rfl)
       try simp only[Act.put]
       refine wpAnyH_ready (rs:=[9]) (by kernel_rfl) (by simp) ?_;refine AllReadyH.cons rfl (fun K hK=>?_) AllReadyH.nil
       go_simp
       refine (CA.o _ (HH.o.drewN 1)).mono ?_;rintro e w2 ⟨rfl,k2,aB⟩;have H2:Hid (MAt w2 mb wb fv m):=zab (by rw[aB];exact (HH.o.drewN 1).drewN k2);have F2:Hid (Fr (MB mb wb fv) w w2):=zab (by rw[aB];exact (Fr.refl _ _).drew.drewN k2);have d0:=H2.o.sat.c0;have dy:=H2.o.sat.word HY.o;clear aB;refine hK.out _ _ d0 (fun ax=>?_);clear hK K
       try simp only[Act.put,zyO,zyZ,zyW]
       refine wpAnyH_take (i:=10) (v:=?_) rfl (by kernel_rfl) (by kernel_rfl) (by kernel_rfl) (fun _ _ _ h=>h) (Or.inl ⟨by rfl,?_⟩) (by assumption) ?_
       rotate_left 1
       ·(intro w al;(try dsimp only at al);go_simp;try with_reducible rfl)
       try simp only[Act.put,zyO]
       refine wpAnyH_ready (rs:=[11]) (by kernel_rfl) (by simp) ?_;refine AllReadyH.cons rfl (fun K hK=>?_) AllReadyH.nil
       go_simp
       refine hK.out _ _ d0 (fun ax=>?_);clear hK K
       try simp only[Act.put,zyO,zyZ,zyW]
       refine wpAnyH_ready (rs:=[12]) (by kernel_rfl) (by simp) ?_;refine AllReadyH.cons rfl (fun K hK=>?_) AllReadyH.nil
       go_simp
       refine (CC.o _).mono ?_;rintro e w3 ⟨rfl,bL⟩;subst w3;refine hK.out _ _ d0 (fun ax=>?_);clear hK K
       try simp only[Act.put,zyO,zyZ,zyW]
       refine wpAnyH_take (i:=13) (v:=?_) rfl (by kernel_rfl) (by kernel_rfl) (by kernel_rfl) (fun _ _ _ h=>h) (Or.inl ⟨by rfl,?_⟩) (by assumption) ?_
       rotate_left 1
       ·(intro w al;(try dsimp only at al);go_simp;try with_reducible rfl)
       try simp only[Act.put,zyO]
       refine wpAnyH_ready (rs:=[14]) (by kernel_rfl) (by simp) ?_;refine AllReadyH.cons rfl (fun K hK=>?_) AllReadyH.nil
       go_simp
       refine (CN.o _ H2.o).mono ?_;rintro e w4 ⟨f4,rfl,h4⟩;have H4:=zab h4;have F4:=zab (F2.o.trans f4);have g0:w4.cell? ⟨mb,0,none⟩=some (.slice (some ⟨wb,0,none⟩) m.s.ws.length m.s.ws.length):=by rw[h4.sat.c0,pL.o]
       clear h4 f4;refine hK.out _ _ g0 (fun ax=>?_);clear hK K
       try simp only[Act.put,zyO,zyZ,zyW]
       refine wpAnyH_done (by kernel_rfl) ?_ _
       all_goals
        clear c0 d0 dy g0;go_wp2_with fail
        refine (zaA (d:=0) H4.o.sat _ eR.o).mono ?_;rintro e w5 ⟨rfl,k5,dK⟩;have H5:Hid (MAt w5 mb wb fv m1):=zab (by rw[dK];exact H4.o.drewN k5);have F5:Hid (Fr (MB mb wb fv) w w5):=zab (by rw[dK];exact F4.o.drewN k5);clear dK;go_wp2_with fail
        go_region_held3 (fun _=>True) (trivial) (first
         |(go_at_call 138;refine (ziQ 0 0 _ (by omega) (by omega)).mono ?_;rintro e w6 ⟨rfl,oe⟩;subst w6)
         |(go_at_call 76;refine (Sto.zb5 H5.o.sat.drew je.o).mono ?_;rintro e w7 ⟨rfl,h7,f7⟩;have H7:=zab h7;have F7:Hid (Fr (M2 mb wb) w5 w7):=zab ((Fr.refl _ _).drew.trans f7);clear h7 f7))
        all_goals
         go_wp2_with fail
         go_region_held3 (fun _=>True) (trivial) (first
          |(go_at_call 135;refine (zcA H7.o.drew a1 y2 gE.o.1 gE.o.2.1 gE.o.2.2.1 gE.o.2.2.2).mono ?_;rintro e w8 ⟨rfl,k8,lJ⟩;have H8:Hid (SAt w8 mb wb (zeu m1.o fv) s2):=zab (by rw[lJ];exact H7.o.drew.drewN k8);have F8:Hid (Fr (M2 mb wb) w5 w8):=zab (by rw[lJ];exact F7.o.drew.drewN k8);clear lJ)
          |(go_at_call 201;refine (Sto.zel H8.o oB.o rfl gE.o.2.2.2 (fun h0=>zbT (by have:=gE.o.2.2.2;unfold cnt at h0 this;omega))).mono ?_;rintro e w9 ⟨rfl,h9,f9⟩;have H9:=zab h9;have F9:=zab (F8.o.trans f9);clear h9 f9))
         all_goals
          have e0:=H9.o.c0;have ey:=H9.o.word pO.o;have wG:=H9.o.c10;have ef:=H9.o.blk.frozen 10;go_wp2_with fail
          refine (CW.o _).mono ?_;rintro e pB ⟨rfl,tA⟩;subst pB;go_wp2_with fail
          have ot:=zab (H9.o.zgs nx);have mo:Hid (Fr (M2 mb wb) w5 (w9.setCell ⟨mb,10,none⟩ (.int .i64 nx))):=zab (F9.o.set _ _ (.inl (.inl rfl)));generalize w9.setCell ⟨mb,10,none⟩ (.int .i64 nx)=yE at ot mo;clear e0 ey wG ef;have i0:=ot.o.c0;have iy:=ot.o.word pO.o;have jf:=ot.o.zeC.frozen a1
          go_region_held3 (fun W=>W.cell? ⟨mb,0,none⟩=some (.slice (some ⟨wb,0,none⟩) s3.ws.length s3.ws.length)) (first|go_keep|assumption) (first
           |(go_at_call 75;refine (CH.o _).mono ?_;rintro e FV ⟨rfl,Fm⟩;subst FV))
          all_goals
           go_wp2_with fail
           first|go_end0|refine bodyPost_ret (results_none rfl _ _ _) rfl ?_
           have f12:Fr (M2 mb wb) w5 (yE.drew.setCell ⟨wb,a1,none⟩ (.int .i64 z)):=mo.o.drew.set _ _ (.inl (.inr rfl));exact ⟨F5.o.trans (f12.zc9 fv),rfl,ot.o.drew.zcB a1 z,H5.o.fat.fr f12,H5.o.fl,H5.o.fuel⟩
theorem zns{r:Except Nat MSt}(h:MAt w mb wb fv m)(hb:m.zdy=some r):
  Calls prog 128 #[.pointer (some ⟨mb,0,none⟩)] w fun e w'=>Ends w mb wb fv r e w':=by
 unfold MSt.zdy at hb;split at hb
 ·cases hb
 ·next a y ha=>
  unfold aft at hb;split at hb
  ·cases hb
  ·next k hn=>obtain rfl:=zyU hb;exact zsE h ha hn
  ·next m1 hn=>
   simp only[zyX]at hb;obtain ⟨m2,h2,rfl⟩:=hb;exact zu8 h ha hn h2
def Sto.leave (s:Sto) (taken left:Nat):Option Sto:=
 if 1<=s.top/\s.top+taken<=s.ws.length/\left<=1000000 then
  some { s with top:=s.top-1,ws:=(Go.splice s.ws (s.top-1) (s.words s.top taken)).set (s.top-1+taken) (Mk 2 left) }
 else none
theorem ztp{tl:List Value}{s':Sto}(h:SAt w mb wb tl s){n l:Nat}(hu:s.leave n l=some s'):
  Calls prog 274 #[.pointer (some ⟨mb,0,none⟩),.int .i64 n,.int .i64 l] w fun e w'=>e=.returned (.tuple #[])/\SAt w' mb wb tl s'/\Fr (M2 mb wb) w w':=by
 obtain ⟨ws,hf,lo,fr,tp⟩:=s;unfold Sto.leave at hu;split at hu
 ·next hg=>
  obtain rfl:=zyU hu;simp only at hg ⊢;obtain ⟨t,rfl⟩:∃ t,tp=t+1:=⟨tp-1,by omega⟩;simp only[Nat.add_sub_cancel];have hlen:ws.length<=1000000:=h.len;obtain ⟨R,hR⟩:∃ R,ws.length=t+(R+1):=⟨ws.length-t-1,by omega⟩;have sJ:n<=R:=by omega
  have dk:(Sto.words ⟨ws,hf,lo,fr,t+1⟩ (t+1) n).length=n:=Sto.zcR (by simp only;omega);have lK:∀ (j:Nat) x,(Sto.words ⟨ws,hf,lo,fr,t+1⟩ (t+1) n)[j]?=some x->ws[t+1+j]?=some x:=fun j x hj=>(Sto.zd7 hj).2
  generalize Sto.words ⟨ws,hf,lo,fr,t+1⟩ (t+1) n=xs at dk lK;have H1:=zab (h.zlL t (by omega));have c4:w.cell? ⟨mb,4,none⟩=some (.int .i64 ((t:Int)+1)):=h.c4;have f4:=h.blk.frozen 4;have HP:Hid (Fr (M2 mb wb) w (w.setCell ⟨mb,4,none⟩ (.int .i64 t))):=zab ((Fr.refl _ _).set _ _ (.inl (.inl rfl)));have CM:=zab (fun W:World=>ziQ 2 l W (by omega) (by omega));obtain ⟨z,hz⟩:∃ z,Mk 2 l=z:=⟨_,rfl⟩;rw[hz]at CM ⊢;have mW:t+xs.length<=ws.length:=by omega
  have fP:=zcj h.ne;have cR:(n:Int)<=(R:Int):=by omega
  have nI:(R:Int)<=1000000:=by omega
  have mD:=zab lK;clear h hu hg hz lK;go_enter func274,ntmps274
  go_wp2_with fail
  generalize w.setCell ⟨mb,4,none⟩ (.int .i64 t)=w1 at H1 HP;have CS:=zab (zeZ H1.o (n+1) (by simp only;omega));simp only[zzq,zzJ,zbT (show t<ws.length by omega),show ws.length-t=R+1 by omega]at CS;clear c4 f4;go_wp2_with fail
  refine CS.o.mono ?_;rintro e w2 ⟨rfl,k2,aB⟩;have H2:Hid (SAt w2 mb wb tl ⟨ws,hf,lo,fr,t⟩):=zab (by rw[aB];exact H1.o.drewN k2);have F2:Hid (Fr (M2 mb wb) w w2):=zab (by rw[aB];exact HP.o.drewN k2);clear aB CS;by_cases hr:R=0
  ·obtain rfl:n=0:=by omega
   obtain rfl:xs=[]:=zzt dk;subst hr;obtain ⟨w3,dI,h3,f3⟩:=ziN H2.o 3 t 1 1 0 0 (some ⟨wb,t,none⟩) [] (by simp) (fun h=>absurd h (by simp)) mW;have H3:=zab h3;have F3:=zab (F2.o.trans f3);have ci:=h3.zko (i:=t) (by simp only;rw[zaY _ _ _ mW];omega);have cf:=h3.zeC.frozen t;clear h3 f3;have iJ:(0:Int)<(0:Int)+1:=by omega
   go_wp2_with fail
   refine (CM.o _).mono ?_;rintro e w4 ⟨rfl,uR⟩;subst w4;go_wp2_with fail
   first|go_end0|refine bodyPost_ret (results_none rfl _ _ _) rfl ?_
   refine ⟨rfl,H3.o.zcB t z,?_⟩;exact Fr.set F3.o _ _ (.inl (.inr rfl))
  ·obtain ⟨w3,dI,h3,f3⟩:=ziN H2.o 3 t (n+1) (R+1) n R (some ⟨wb,t+1,none⟩) xs (by simp[];omega) (fun h0=>⟨_,rfl,fun j x hj=>by rw[zbe];exact H2.o.word (mD.o j x hj)⟩) mW;have H3:=zab h3;have F3:=zab (F2.o.trans f3);have ci:=h3.zko (i:=t+n) (by simp only;rw[zaY _ _ _ mW];omega);have cf:=h3.zeC.frozen (t+n);clear h3 f3;have iJ:(n:Int)<(n:Int)+1:=by omega
   go_wp2_with fail
   refine (CM.o _).mono ?_;rintro e w4 ⟨rfl,uR⟩;subst w4;go_wp2_with fail
   first|go_end0|refine bodyPost_ret (results_none rfl _ _ _) rfl ?_
   exact ⟨rfl,H3.o.zcB (t+n) z,F3.o.set _ _ (.inl (.inr rfl))⟩
 ·cases hu
end Go.Proofs.YtgahgkddaljmkaaGreatDoor
