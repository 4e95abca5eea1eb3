/- Mach16 .. Mach18 -/
import Derived.Test.YtgahgkddaljmkaaGreatDoorV3
import Derived.Test.YtgahgkddaljmkaaGreatDoorV1
set_option maxRecDepth 100000
set_option maxHeartbeats 4000000
namespace Go.Proofs.YtgahgkddaljmkaaGreatDoor
open Go.RowKit
attribute [local go_sem ↓] Go.wp_at_zero Go.wp_at_succ
def BAt (w:World) (mb wb:Nat) (fv pv:Value) (sl:List Nat):Prop:=
 ∃ pb cap,pv=.slice (some ⟨pb,0,none⟩) sl.length cap/\pb<w.heap.size/\¬ MB mb wb fv pb/\∀ (i n:Nat),sl[i]?=some n->n<=1000000/\w.cell? ⟨pb,i*2,none⟩=some (.int .i64 n)
variable {w:World}
variable {mb wb:Nat}
variable {fv:Value}
theorem BAt.fr{w':World}{pv:Value}{sl:List Nat}(h:BAt w mb wb fv pv sl)(f:Fr (MB mb wb fv) w w'):BAt w' mb wb fv pv sl:=by
 obtain ⟨pb,cap,h1,h2,h3,h4⟩:=h;refine ⟨pb,cap,h1,zxO h2 f.size,h3,fun i n hi=>⟨(h4 i n hi).1,?_⟩⟩;rw[World.cell?_of_block (w:=w) (f.block pb h2 h3)];exact (h4 i n hi).2
def Sto.zfL (s:Sto) (sl:List Nat) (a:Nat):Option Int:=
 match s.ws[a]? with
 |none=>none
 |some y=>if y<0\/9223372036854775808<=y then none else
  if y%16=2 then
   match sl[(y/65536).toNat]? with
   |none=>none
   |some n=>some ((n:Int)-y/16%4096)
  else some (-1)
variable {m:MSt}
variable {a:Nat}
theorem zi9{sl:List Nat}(h:MAt w mb wb fv m)(hB:BAt w mb wb fv m.o.pb sl){r:Int}(hr:m.s.zfL sl a=some r):
  Calls Tryz.prog 127 #[.pointer (some ⟨mb,0,none⟩),.int .i64 a] w fun e w'=>e=.returned (.int .i64 r)/\∃ n,w'=w.drewN n:=by
 unfold Sto.zfL at hr;split at hr
 ·cases hr
 ·next y hy=>
  split at hr
  ·cases hr
  ·next hy0=>
   have c0:=h.sat.c0;have cy:=h.sat.word hy;have hal:=(zxH.1 hy).1;have hal':(a:Int)<(m.s.ws.length:Int):=by omega
   have CK:=zab (fun W:World=>za2 y W (by omega) (by omega));by_cases hk:y%16=2
   ·rw[if_pos hk]at hr;split at hr
    ·cases hr
    ·next n hn=>
     obtain rfl:=zxQ hr;obtain ⟨pb,cap,hpv,_,_,hcells⟩:=hB;have c5:=h.sat.c5;rw[hpv]at c5;obtain ⟨hn1,cn⟩:=hcells _ _ hn;have CW:=zab (fun W:World=>zbu y W (by omega) (by omega));have CC:=zab (fun W:World=>za3 y W (by omega) (by omega));have hbl:=(zxH.1 hn).1;obtain ⟨b,hb⟩:∃ b:Nat,y/65536=b:=⟨(y/65536).toNat,by omega⟩;obtain ⟨c,hc⟩:∃ c:Nat,y/16%4096=c:=⟨(y/16%4096).toNat,by omega⟩;have hc4:(c:Int)<4096:=by omega
     rw[hb]at CW hbl cn;rw[hc]at CC ⊢;rw[hk]at CK;simp only[zxY]at cn hbl;have hbl':(b:Int)<(sl.length:Int):=by omega
     clear h hr hy hy0 hk hpv hcells hn hb hc hal;go_enter Tryz.func127,Tryz.ntmps127
     go_wp2_with fail
     refine (CK.o _).mono ?_;rintro e w1 ⟨rfl,hw1⟩;subst w1;go_wp2_with fail
     go_quiet ((first|(go_at_call 84;exact Calls.quiet_of_same (CW.o _))|(go_at_call 85;exact Calls.quiet_of_same (CC.o _))))
     go_wp2_with fail
     go_ret
     exact ⟨rfl,_,rfl⟩
   ·rw[if_neg hk]at hr;obtain rfl:=zxQ hr;have hkb:(y%16 == 2)=false:=by rw[beq_eq_false_iff_ne];exact hk
    generalize y%16=z at CK hk hkb;clear h hr hy hy0 hk hB hal;go_enter Tryz.func127,Tryz.ntmps127
    go_wp2_with fail
    refine (CK.o _).mono ?_;rintro e w1 ⟨rfl,hw1⟩;subst w1;go_wp2_with fail
    go_ret
    exact ⟨rfl,0,rfl⟩
theorem zwZ:∀ {k:Nat} {s s':Sto} {a:Nat},s.scan a k=some s'->s'.ws.length=s.ws.length:=by
 intro k
 induction k with
 |zero=>intro s s' a h;cases h
 |succ k ih=>
  intro s s' a h;rw[Sto.scan]at h;split at h
  ·split at h
   ·cases h
   ·split at h
    ·cases h
    ·split at h
     ·cases h
     ·next s1 hb=>
      split at h
      ·cases h
      ·split at h
       ·cases h
       ·rw[ih h];exact (zg6 hb).1
  ·obtain rfl:=zxQ h;rfl
variable {s:Sto}
theorem zlm{s':Sto}{fns fns':List Int}(hc:s.collect fns=some (fns',s')):s'.ws.length=s.ws.length:=by
 unfold Sto.collect at hc;split at hc
 ·next hg=>
  have ht:s.zbQ.ws.length=s.ws.length:=by
   unfold Sto.zbQ;simp only;rw[zaX];rw[zyb,zyp];omega
  split at hc
  ·cases hc
  ·next s1 hb1=>
   split at hc
   ·cases hc
   ·next fns2 s2 hb2=>
    split at hc
    ·cases hc
    ·next s3 hb3=>
     simp only[zxL,zyH]at hc;rw[<-hc.2,zwZ hb3,(zdS hb2).1,(zg6 hb1).1,ht]
 ·cases hc
theorem zl2{m':MSt}{c:Nat}(h:m.zdC c=some (.ok m')):m'.s.ws.length=m.s.ws.length:=by
 unfold MSt.zdC at h;split at h
 ·simp only[zxL,zy5]at h;rw[h]
 ·split at h
  ·cases h
  ·next fns2 s2 hcol=>
   split at h
   ·simp only[zxL,reduceCtorEq]at h
   ·simp only[zxL,zy5]at h;rw[<-h];exact zlm hcol
def Sto.head (s:Sto) (a:Nat):Option Int:=
 match s.ws[a]? with
 |none=>none
 |some y=>if y<0\/9223372036854775808<=y then none else some y
variable {y:Int}
theorem Sto.zaT(h:s.head a=some y):s.ws[a]?=some y/\0<=y/\y<9223372036854775808/\a<s.ws.length:=by
 unfold Sto.head at h;split at h
 ·cases h
 ·next x hx=>
  split at h
  ·cases h
  ·next hg=>obtain rfl:=zxQ h;exact ⟨hx,by omega,by omega,(zxH.1 hx).1⟩
def Sto.nodeAt (s:Sto) (d:Nat):Option (Nat × Int):=
 match s.ws[s.top+d]? with
 |none=>none
 |some x=>if x<0 then none else (s.head x.toNat).map fun y=>(x.toNat,y)
theorem Sto.zaO{d:Nat}(h:s.nodeAt d=some (a,y)):s.ws[s.top+d]?=some (a:Int)/\s.head a=some y:=by
 unfold Sto.nodeAt at h;split at h
 ·cases h
 ·next x hx=>
  split at h
  ·cases h
  ·next hg=>
   simp only[zxT,zyH]at h;obtain ⟨z,h1,h2,rfl⟩:=h;subst h2;refine ⟨?_,h1⟩;rw[hx,Int.toNat_of_nonneg (by omega)]
def cnt (y:Int):Nat:=(y/16%4096).toNat
theorem zif(_h:0<=y):y/16%4096=(cnt y:Int):=by unfold cnt;omega
theorem zfY(y:Int):cnt y<4096:=by unfold cnt;omega
def MSt.begun (m:MSt):Option MSt:=
 match m.s.nodeAt 0 with
 |none=>none
 |some (a,_)=>
  match m.s.push (Mk 0 0) with
  |none=>none
  |some s2=>
   match s2.head a with
   |none=>none
   |some y2=>if s2.ws.length<a+1+cnt y2 then none else
    match s2.zd6 (s2.words (a+1) (cnt y2)) with
    |none=>none
    |some s3=>
     match s3.head a with
     |none=>none
     |some y3=>some { m with s:={ s3 with ws:=s3.ws.set a (Hd 3 0 0) },o:={ m.o with next:=y3/65536 } }
def MSt.zdw (m:MSt):Option (Except Nat MSt):=
 match m.s.nodeAt 0 with
 |none=>none
 |some (_,y)=>aft (m.zdC (1+cnt y)) fun m1=>m1.begun.map .ok
theorem zsP{k:Nat}(h:MAt w mb wb fv m)(ha:m.s.nodeAt 0=some (a,y))(hn:m.zdC (1+cnt y)=some (.error k)):
  Calls Tryz.prog 128 #[.pointer (some ⟨mb,0,none⟩)] w fun e w'=>Ends w mb wb fv (.error k) e w':=by
 obtain ⟨hx,hh⟩:=Sto.zaO ha;obtain ⟨hy,hy0,hy1,hal⟩:=Sto.zaT hh;have c0:=h.sat.c0;have hal':(a:Int)<(m.s.ws.length:Int):=by omega
 have CC:=zab (fun W:World=>za3 y W hy0 hy1);rw[zif hy0]at CC;have hcl:=zfY y;have CA:=zab (fun (W:World) (hW:MAt W mb wb fv m)=>zaz (d:=0) hW.sat _ hx);have HH:=zab h;have HY:=zab hy;have CN:=zab (fun (W:World) (hW:MAt W mb wb fv m)=>zaV hW hn);simp only[zym,zyF]at CN;have hwr:IntKind.i64.wrap (1+(cnt y:Int))=1+(cnt y:Int):=zba _ (by omega) (by omega);generalize cnt y=c at *;clear h ha hx hy hh hn hy0 hy1 hal;go_enter Tryz.func128,Tryz.ntmps128
 go_wp2_with fail
 refine wp_region_held_drew (S:=fun W=>W.cell? ⟨mb,0,none⟩=some (.slice (some ⟨wb,0,none⟩) m.s.ws.length m.s.ws.length)) (by kernel_rfl) HH.o.sat.drew.c0 (fun hHeld=>?_);refine wpAnyH_take (i:=0) (v:=?_) rfl (by kernel_rfl) (by kernel_rfl) (by kernel_rfl) (fun _ _ _ h=>h) (Or.inl ⟨by rfl,?_⟩) (by assumption) ?_
 rotate_left 1
 ·(intro w hSw;(try dsimp only at hSw);go_simp;try with_reducible rfl)
 try simp only[Act.put,zxK]
 refine wpAnyH_take (i:=1) (v:=?_) rfl (by kernel_rfl) (by kernel_rfl) (by kernel_rfl) (fun _ _ _ h=>h) (Or.inl ⟨by rfl,?_⟩) (by assumption) ?_
 rotate_left 1
 ·(intro w hSw;(try dsimp only at hSw);go_simp;try with_reducible rfl)
 try simp only[Act.put]
 refine wpAnyH_take (i:=2) (v:=?_) rfl (by kernel_rfl) (by kernel_rfl) (by kernel_rfl) (fun _ _ _ h=>h) (Or.inl ⟨by rfl,?_⟩) (by assumption) ?_
 rotate_left 1
 ·(intro w hSw;(try dsimp only at hSw);go_simp;try with_reducible rfl)
 try simp only[Act.put]
 refine wpAnyH_take (i:=3) (v:=?_) rfl (by kernel_rfl) (by kernel_rfl) (by kernel_rfl) (fun _ _ _ h=>h) (Or.inl ⟨by rfl,?_⟩) (by assumption) ?_
 rotate_left 1
 ·(intro w hSw;(try dsimp only at hSw);go_simp;try with_reducible rfl)
 try simp only[Act.put]
 refine wpAnyH_take (i:=4) (v:=?_) rfl (by kernel_rfl) (by kernel_rfl) (by kernel_rfl) (fun _ _ _ h=>h) (Or.inl ⟨by rfl,?_⟩) (by assumption) ?_
 rotate_left 1
 ·(intro w hSw;(try dsimp only at hSw);go_simp;try with_reducible rfl)
 try simp only[Act.put]
 refine wpAnyH_take (i:=5) (v:=?_) rfl (by kernel_rfl) (by kernel_rfl) (by kernel_rfl) (fun _ _ _ h=>h) (Or.inl ⟨by rfl,?_⟩) (by assumption) ?_
 rotate_left 1
 ·(intro w hSw;(try dsimp only at hSw);go_simp;try with_reducible rfl)
 try simp only[Act.put]
 refine wpAnyH_take (i:=6) (v:=?_) rfl (by kernel_rfl) (by kernel_rfl) (by kernel_rfl) (fun _ _ _ h=>h) (Or.inl ⟨by rfl,?_⟩) (by assumption) ?_
 rotate_left 1
 ·(intro w hSw;(try dsimp only at hSw);go_simp;try with_reducible rfl)
 try simp only[Act.put]
 refine wpAnyH_take (i:=7) (v:=?_) rfl (by kernel_rfl) (by kernel_rfl) (by kernel_rfl) (fun _ _ _ h=>h) (Or.inl ⟨by rfl,?_⟩) (by assumption) ?_
 rotate_left 1
 ·(intro w hSw;(try dsimp only at hSw);go_simp;try with_reducible rfl)
 try simp only[Act.put]
 refine wpAnyH_take (i:=8) (v:=?_) rfl (by kernel_rfl) (by kernel_rfl) (by kernel_rfl) (fun _ _ _ h=>h) (Or.inl ⟨by rfl,?_⟩) (by assumption) ?_
 rotate_left 1
 ·(intro w hSw;(try dsimp only at hSw);go_simp;try with_reducible rfl)
 try simp only[Act.put]
 refine wpAnyH_ready (rs:=[9]) (by kernel_rfl) (by simp) ?_;refine AllReadyH.cons rfl (fun K hK=>?_) AllReadyH.nil
 go_simp
 refine (CA.o _ (HH.o.drewN 1)).mono ?_;rintro e w2 ⟨rfl,k2,hw2⟩;have H2:Hid (MAt w2 mb wb fv m):=zab (by rw[hw2];exact (HH.o.drewN 1).drewN k2);have F2:Hid (Fr (MB mb wb fv) w w2):=zab (by rw[hw2];exact (Fr.refl _ _).drew.drewN k2);have d0:=H2.o.sat.c0;have dy:=H2.o.sat.word HY.o;clear hw2;refine hK.out _ _ d0 (fun hHeld=>?_);clear hK K
 try simp only[Act.put,zxK,zxV,zxS]
 refine wpAnyH_take (i:=10) (v:=?_) rfl (by kernel_rfl) (by kernel_rfl) (by kernel_rfl) (fun _ _ _ h=>h) (Or.inl ⟨by rfl,?_⟩) (by assumption) ?_
 rotate_left 1
 ·(intro w hSw;(try dsimp only at hSw);go_simp;try with_reducible rfl)
 try simp only[Act.put,zxK]
 refine wpAnyH_ready (rs:=[11]) (by kernel_rfl) (by simp) ?_;refine AllReadyH.cons rfl (fun K hK=>?_) AllReadyH.nil
 go_simp
 refine hK.out _ _ d0 (fun hHeld=>?_);clear hK K
 try simp only[Act.put,zxK,zxV,zxS]
 refine wpAnyH_ready (rs:=[12]) (by kernel_rfl) (by simp) ?_;refine AllReadyH.cons rfl (fun K hK=>?_) AllReadyH.nil
 go_simp
 refine (CC.o _).mono ?_;rintro e w3 ⟨rfl,hw3⟩;subst w3;refine hK.out _ _ d0 (fun hHeld=>?_);clear hK K
 try simp only[Act.put,zxK,zxV,zxS]
 refine wpAnyH_take (i:=13) (v:=?_) rfl (by kernel_rfl) (by kernel_rfl) (by kernel_rfl) (fun _ _ _ h=>h) (Or.inl ⟨by rfl,?_⟩) (by assumption) ?_
 rotate_left 1
 ·(intro w hSw;(try dsimp only at hSw);go_simp;try with_reducible rfl)
 try simp only[Act.put,zxK]
 refine wpAnyH_ready (rs:=[14]) (by kernel_rfl) (by simp) ?_;refine AllReadyH.cons rfl (fun K hK=>?_) AllReadyH.nil
 go_simp
 refine (CN.o _ H2.o).mono ?_;rintro e w4 ⟨f4,rfl,h4⟩;exact ⟨rfl,F2.o.trans f4,rfl,h4⟩
theorem zuK{m1 m':MSt}(h:MAt w mb wb fv m)(ha:m.s.nodeAt 0=some (a,y))(hn:m.zdC (1+cnt y)=some (.ok m1))(hb:m1.begun=some m'):
  Calls Tryz.prog 128 #[.pointer (some ⟨mb,0,none⟩)] w fun e w'=>Ends w mb wb fv (.ok m') e w':=by
 obtain ⟨hx,hh⟩:=Sto.zaO ha;obtain ⟨hy,hy0,hy1,hal⟩:=Sto.zaT hh;have c0:=h.sat.c0;have hal':(a:Int)<(m.s.ws.length:Int):=by omega
 have CC:=zab (fun W:World=>za3 y W hy0 hy1);rw[zif hy0]at CC;have hcl:=zfY y;have HH:=zab h;have CA:=zab (fun (W:World) (hW:MAt W mb wb fv m)=>zaz (d:=0) hW.sat _ hx);have HY:=zab hy;have CN:=zab (fun (W:World) (hW:MAt W mb wb fv m)=>zaV hW hn);simp only[zym,zyF]at CN;have HWL:=zab (zl2 hn);have hwr:IntKind.i64.wrap (1+(cnt y:Int))=1+(cnt y:Int):=zba _ (by omega) (by omega);unfold MSt.begun at hb;split at hb
 ·cases hb
 ·next a1 y1 ha1=>
  split at hb
  ·cases hb
  ·next s2 hpu=>
   split at hb
   ·cases hb
   ·next y2 hh2=>
    split at hb
    ·cases hb
    ·next hfit=>
     split at hb
     ·cases hb
     ·next s3 hpa=>
      split at hb
      ·cases hb
      ·next y3 hh3=>
       obtain rfl:=zxQ hb;obtain ⟨hx1,_⟩:=Sto.zaO ha1;obtain ⟨hy2,hy20,hy21,hal2⟩:=Sto.zaT hh2;obtain ⟨hy3,hy30,hy31,hal3⟩:=Sto.zaT hh3;have HX1:=zab hx1;have HPU:=zab hpu;have HY2:=zab (And.intro hy2 (And.intro hy20 (And.intro hy21 (show a1+1+cnt y2<=s2.ws.length by omega))));have HPA:=zab hpa;have HY3:=zab hy3;have CW:=zab (fun W:World=>zbu y3 W hy30 hy31);have hal4:(a1:Int)<(s3.ws.length:Int):=by omega
       have hoth:=zcg h.sat.ne;have CH:=zab (fun W:World=>zbt 3 0 0 W (by omega) (by omega) (by omega));obtain ⟨z,hz⟩:∃ z,Hd 3 0 0=z:=⟨_,rfl⟩;obtain ⟨nx,hnx⟩:∃ nx,y3/65536=nx:=⟨_,rfl⟩;rw[hz]at CH ⊢;rw[hnx]at CW ⊢;clear hz hnx;generalize cnt y=c at *;clear h ha hx hy hh hn hy0 hy1 hal hb ha1 hx1 hh2 hy2 hy20 hy21 hal2 hfit hpu hpa hh3 hy3 hy30 hy31 hal3;go_enter Tryz.func128,Tryz.ntmps128
       go_wp2_with fail
       refine wp_region_held_drew (S:=fun W=>W.cell? ⟨mb,0,none⟩=some (.slice (some ⟨wb,0,none⟩) m.s.ws.length m.s.ws.length)) (by kernel_rfl) HH.o.sat.drew.c0 (fun hHeld=>?_);refine wpAnyH_take (i:=0) (v:=?_) rfl (by kernel_rfl) (by kernel_rfl) (by kernel_rfl) (fun _ _ _ h=>h) (Or.inl ⟨by rfl,?_⟩) (by assumption) ?_
       rotate_left 1
       ·(intro w hSw;(try dsimp only at hSw);go_simp;try with_reducible rfl)
       try simp only[Act.put,zxK]
       refine wpAnyH_take (i:=1) (v:=?_) rfl (by kernel_rfl) (by kernel_rfl) (by kernel_rfl) (fun _ _ _ h=>h) (Or.inl ⟨by rfl,?_⟩) (by assumption) ?_
       rotate_left 1
       ·(intro w hSw;(try dsimp only at hSw);go_simp;try with_reducible rfl)
       try simp only[Act.put]
       refine wpAnyH_take (i:=2) (v:=?_) rfl (by kernel_rfl) (by kernel_rfl) (by kernel_rfl) (fun _ _ _ h=>h) (Or.inl ⟨by rfl,?_⟩) (by assumption) ?_
       rotate_left 1
       ·(intro w hSw;(try dsimp only at hSw);go_simp;try with_reducible rfl)
       try simp only[Act.put]
       refine wpAnyH_take (i:=3) (v:=?_) rfl (by kernel_rfl) (by kernel_rfl) (by kernel_rfl) (fun _ _ _ h=>h) (Or.inl ⟨by rfl,?_⟩) (by assumption) ?_
       rotate_left 1
       ·(intro w hSw;(try dsimp only at hSw);go_simp;try with_reducible rfl)
       try simp only[Act.put]
       refine wpAnyH_take (i:=4) (v:=?_) rfl (by kernel_rfl) (by kernel_rfl) (by kernel_rfl) (fun _ _ _ h=>h) (Or.inl ⟨by rfl,?_⟩) (by assumption) ?_
       rotate_left 1
       ·(intro w hSw;(try dsimp only at hSw);go_simp;try with_reducible rfl)
       try simp only[Act.put]
       refine wpAnyH_take (i:=5) (v:=?_) rfl (by kernel_rfl) (by kernel_rfl) (by kernel_rfl) (fun _ _ _ h=>h) (Or.inl ⟨by rfl,?_⟩) (by assumption) ?_
       rotate_left 1
       ·(intro w hSw;(try dsimp only at hSw);go_simp;try with_reducible rfl)
       try simp only[Act.put]
       refine wpAnyH_take (i:=6) (v:=?_) rfl (by kernel_rfl) (by kernel_rfl) (by kernel_rfl) (fun _ _ _ h=>h) (Or.inl ⟨by rfl,?_⟩) (by assumption) ?_
       rotate_left 1
       ·(intro w hSw;(try dsimp only at hSw);go_simp;try with_reducible rfl)
       try simp only[Act.put]
       refine wpAnyH_take (i:=7) (v:=?_) rfl (by kernel_rfl) (by kernel_rfl) (by kernel_rfl) (fun _ _ _ h=>h) (Or.inl ⟨by rfl,?_⟩) (by assumption) ?_
       rotate_left 1
       ·(intro w hSw;(try dsimp only at hSw);go_simp;try with_reducible rfl)
       try simp only[Act.put]
       refine wpAnyH_take (i:=8) (v:=?_) rfl (by kernel_rfl) (by kernel_rfl) (by kernel_rfl) (fun _ _ _ h=>h) (Or.inl ⟨by rfl,?_⟩) (by assumption) ?_
       rotate_left 1
       ·(intro w hSw;(try dsimp only at hSw);go_simp;try with_reducible rfl)
       try simp only[Act.put]
       refine wpAnyH_ready (rs:=[9]) (by kernel_rfl) (by simp) ?_;refine AllReadyH.cons rfl (fun K hK=>?_) AllReadyH.nil
       go_simp
       refine (CA.o _ (HH.o.drewN 1)).mono ?_;rintro e w2 ⟨rfl,k2,hw2⟩;have H2:Hid (MAt w2 mb wb fv m):=zab (by rw[hw2];exact (HH.o.drewN 1).drewN k2);have F2:Hid (Fr (MB mb wb fv) w w2):=zab (by rw[hw2];exact (Fr.refl _ _).drew.drewN k2);have d0:=H2.o.sat.c0;have dy:=H2.o.sat.word HY.o;clear hw2;refine hK.out _ _ d0 (fun hHeld=>?_);clear hK K
       try simp only[Act.put,zxK,zxV,zxS]
       refine wpAnyH_take (i:=10) (v:=?_) rfl (by kernel_rfl) (by kernel_rfl) (by kernel_rfl) (fun _ _ _ h=>h) (Or.inl ⟨by rfl,?_⟩) (by assumption) ?_
       rotate_left 1
       ·(intro w hSw;(try dsimp only at hSw);go_simp;try with_reducible rfl)
       try simp only[Act.put,zxK]
       refine wpAnyH_ready (rs:=[11]) (by kernel_rfl) (by simp) ?_;refine AllReadyH.cons rfl (fun K hK=>?_) AllReadyH.nil
       go_simp
       refine hK.out _ _ d0 (fun hHeld=>?_);clear hK K
       try simp only[Act.put,zxK,zxV,zxS]
       refine wpAnyH_ready (rs:=[12]) (by kernel_rfl) (by simp) ?_;refine AllReadyH.cons rfl (fun K hK=>?_) AllReadyH.nil
       go_simp
       refine (CC.o _).mono ?_;rintro e w3 ⟨rfl,hw3⟩;subst w3;refine hK.out _ _ d0 (fun hHeld=>?_);clear hK K
       try simp only[Act.put,zxK,zxV,zxS]
       refine wpAnyH_take (i:=13) (v:=?_) rfl (by kernel_rfl) (by kernel_rfl) (by kernel_rfl) (fun _ _ _ h=>h) (Or.inl ⟨by rfl,?_⟩) (by assumption) ?_
       rotate_left 1
       ·(intro w hSw;(try dsimp only at hSw);go_simp;try with_reducible rfl)
       try simp only[Act.put,zxK]
       refine wpAnyH_ready (rs:=[14]) (by kernel_rfl) (by simp) ?_;refine AllReadyH.cons rfl (fun K hK=>?_) AllReadyH.nil
       go_simp
       refine (CN.o _ H2.o).mono ?_;rintro e w4 ⟨f4,rfl,h4⟩;have H4:=zab h4;have F4:=zab (F2.o.trans f4);have g0:w4.cell? ⟨mb,0,none⟩=some (.slice (some ⟨wb,0,none⟩) m.s.ws.length m.s.ws.length):=by rw[h4.sat.c0,HWL.o]
       clear h4 f4;refine hK.out _ _ g0 (fun hHeld=>?_);clear hK K
       try simp only[Act.put,zxK,zxV,zxS]
       refine wpAnyH_done (by kernel_rfl) ?_ _
       all_goals
        clear c0 d0 dy g0;go_wp2_with fail
        refine (zaz (d:=0) H4.o.sat _ HX1.o).mono ?_;rintro e w5 ⟨rfl,k5,hw5⟩;have H5:Hid (MAt w5 mb wb fv m1):=zab (by rw[hw5];exact H4.o.drewN k5);have F5:Hid (Fr (MB mb wb fv) w w5):=zab (by rw[hw5];exact F4.o.drewN k5);clear hw5;go_wp2_with fail
        go_region_held3 (fun _=>True) (trivial) (first
         |(go_at_call 138;refine (ziB 0 0 _ (by omega) (by omega)).mono ?_;rintro e w6 ⟨rfl,hw6⟩;subst w6)
         |(go_at_call 76;refine (Sto.zb3 H5.o.sat.drew HPU.o).mono ?_;rintro e w7 ⟨rfl,h7,f7⟩;have H7:=zab h7;have F7:Hid (Fr (M2 mb wb) w5 w7):=zab ((Fr.refl _ _).drew.trans f7);clear h7 f7))
        all_goals
         go_wp2_with fail
         go_region_held3 (fun _=>True) (trivial) (first
          |(go_at_call 135;refine (zcw H7.o.drew a1 y2 HY2.o.1 HY2.o.2.1 HY2.o.2.2.1 HY2.o.2.2.2).mono ?_;rintro e w8 ⟨rfl,k8,hw8⟩;have H8:Hid (SAt w8 mb wb (zec m1.o fv) s2):=zab (by rw[hw8];exact H7.o.drew.drewN k8);have F8:Hid (Fr (M2 mb wb) w5 w8):=zab (by rw[hw8];exact F7.o.drew.drewN k8);clear hw8)
          |(go_at_call 201;refine (Sto.zeo H8.o HPA.o rfl HY2.o.2.2.2 (fun h0=>zbS (by have:=HY2.o.2.2.2;unfold cnt at h0 this;omega))).mono ?_;rintro e w9 ⟨rfl,h9,f9⟩;have H9:=zab h9;have F9:=zab (F8.o.trans f9);clear h9 f9))
         all_goals
          have e0:=H9.o.c0;have ey:=H9.o.word HY3.o;have e10:=H9.o.c10;have ef:=H9.o.blk.frozen 10;go_wp2_with fail
          refine (CW.o _).mono ?_;rintro e w10 ⟨rfl,hw10⟩;subst w10;go_wp2_with fail
          have H11:=zab (H9.o.zgx nx);have F11:Hid (Fr (M2 mb wb) w5 (w9.setCell ⟨mb,10,none⟩ (.int .i64 nx))):=zab (F9.o.set _ _ (.inl (.inl rfl)));generalize w9.setCell ⟨mb,10,none⟩ (.int .i64 nx)=w11 at H11 F11;clear e0 ey e10 ef;have i0:=H11.o.c0;have iy:=H11.o.word HY3.o;have jf:=H11.o.zey.frozen a1
          go_region_held3 (fun W=>W.cell? ⟨mb,0,none⟩=some (.slice (some ⟨wb,0,none⟩) s3.ws.length s3.ws.length)) (first|go_keep|assumption) (first
           |(go_at_call 75;refine (CH.o _).mono ?_;rintro e w12 ⟨rfl,hw12⟩;subst w12))
          all_goals
           go_wp2_with fail
           first|go_end0|refine bodyPost_ret (results_none rfl _ _ _) rfl ?_
           have f12:Fr (M2 mb wb) w5 (w11.drew.setCell ⟨wb,a1,none⟩ (.int .i64 z)):=F11.o.drew.set _ _ (.inl (.inr rfl));exact ⟨F5.o.trans (f12.zcW fv),rfl,H11.o.drew.zcB a1 z,H5.o.fat.fr f12,H5.o.fl,H5.o.fuel⟩
theorem znd{r:Except Nat MSt}(h:MAt w mb wb fv m)(hb:m.zdw=some r):
  Calls Tryz.prog 128 #[.pointer (some ⟨mb,0,none⟩)] w fun e w'=>Ends w mb wb fv r e w':=by
 unfold MSt.zdw at hb;split at hb
 ·cases hb
 ·next a y ha=>
  unfold aft at hb;split at hb
  ·cases hb
  ·next k hn=>obtain rfl:=zxQ hb;exact zsP h ha hn
  ·next m1 hn=>
   simp only[zxT]at hb;obtain ⟨m2,h2,rfl⟩:=hb;exact zuK h ha hn h2
def Sto.leave (s:Sto) (taken left:Nat):Option Sto:=
 if 1<=s.top/\s.top+taken<=s.ws.length/\left<=1000000 then
  some { s with top:=s.top-1,ws:=(Go.splice s.ws (s.top-1) (s.words s.top taken)).set (s.top-1+taken) (Mk 2 left) }
 else none
theorem zt6{tl:List Value}{s':Sto}(h:SAt w mb wb tl s){n l:Nat}(hu:s.leave n l=some s'):
  Calls Tryz.prog 274 #[.pointer (some ⟨mb,0,none⟩),.int .i64 n,.int .i64 l] w fun e w'=>e=.returned (.tuple #[])/\SAt w' mb wb tl s'/\Fr (M2 mb wb) w w':=by
 obtain ⟨ws,hf,lo,fr,tp⟩:=s;unfold Sto.leave at hu;split at hu
 ·next hg=>
  obtain rfl:=zxQ hu;simp only at hg ⊢;obtain ⟨t,rfl⟩:∃ t,tp=t+1:=⟨tp-1,by omega⟩;simp only[Nat.add_sub_cancel];have hlen:ws.length<=1000000:=h.len;obtain ⟨R,hR⟩:∃ R,ws.length=t+(R+1):=⟨ws.length-t-1,by omega⟩;have hnR:n<=R:=by omega
  have hxl:(Sto.words ⟨ws,hf,lo,fr,t+1⟩ (t+1) n).length=n:=Sto.zcJ (by simp only;omega);have hxg:∀ (j:Nat) x,(Sto.words ⟨ws,hf,lo,fr,t+1⟩ (t+1) n)[j]?=some x->ws[t+1+j]?=some x:=fun j x hj=>(Sto.zdM hj).2
  generalize Sto.words ⟨ws,hf,lo,fr,t+1⟩ (t+1) n=xs at hxl hxg;have H1:=zab (h.zlG t (by omega));have c4:w.cell? ⟨mb,4,none⟩=some (.int .i64 ((t:Int)+1)):=h.c4;have f4:=h.blk.frozen 4;have HP:Hid (Fr (M2 mb wb) w (w.setCell ⟨mb,4,none⟩ (.int .i64 t))):=zab ((Fr.refl _ _).set _ _ (.inl (.inl rfl)));have CM:=zab (fun W:World=>ziB 2 l W (by omega) (by omega));obtain ⟨z,hz⟩:∃ z,Mk 2 l=z:=⟨_,rfl⟩;rw[hz]at CM ⊢;have hspl:t+xs.length<=ws.length:=by omega
  have hoth:=zcg h.ne;have hn1:(n:Int)<=(R:Int):=by omega
  have hR1:(R:Int)<=1000000:=by omega
  have HXG:=zab hxg;clear h hu hg hz hxg;go_enter Tryz.func274,Tryz.ntmps274
  go_wp2_with fail
  generalize w.setCell ⟨mb,4,none⟩ (.int .i64 t)=w1 at H1 HP;have CS:=zab (ze9 H1.o (n+1) (by simp only;omega));simp only[zym,zyF,zbS (show t<ws.length by omega),show ws.length-t=R+1 by omega]at CS;clear c4 f4;go_wp2_with fail
  refine CS.o.mono ?_;rintro e w2 ⟨rfl,k2,hw2⟩;have H2:Hid (SAt w2 mb wb tl ⟨ws,hf,lo,fr,t⟩):=zab (by rw[hw2];exact H1.o.drewN k2);have F2:Hid (Fr (M2 mb wb) w w2):=zab (by rw[hw2];exact HP.o.drewN k2);clear hw2 CS;by_cases hr:R=0
  ·obtain rfl:n=0:=by omega
   obtain rfl:xs=[]:=zyo hxl;subst hr;obtain ⟨w3,hrun,h3,f3⟩:=ziC H2.o 3 t 1 1 0 0 (some ⟨wb,t,none⟩) [] (by simp) (fun h=>absurd h (by simp)) hspl;have H3:=zab h3;have F3:=zab (F2.o.trans f3);have ci:=h3.zi6 (i:=t) (by simp only;rw[zaX _ _ _ hspl];omega);have cf:=h3.zey.frozen t;clear h3 f3;have hnb:(0:Int)<(0:Int)+1:=by omega
   go_wp2_with fail
   refine (CM.o _).mono ?_;rintro e w4 ⟨rfl,hw4⟩;subst w4;go_wp2_with fail
   first|go_end0|refine bodyPost_ret (results_none rfl _ _ _) rfl ?_
   refine ⟨rfl,H3.o.zcB t z,?_⟩;exact Fr.set F3.o _ _ (.inl (.inr rfl))
  ·obtain ⟨w3,hrun,h3,f3⟩:=ziC H2.o 3 t (n+1) (R+1) n R (some ⟨wb,t+1,none⟩) xs (by simp[];omega) (fun h0=>⟨_,rfl,fun j x hj=>by rw[zbb];exact H2.o.word (HXG.o j x hj)⟩) hspl;have H3:=zab h3;have F3:=zab (F2.o.trans f3);have ci:=h3.zi6 (i:=t+n) (by simp only;rw[zaX _ _ _ hspl];omega);have cf:=h3.zey.frozen (t+n);clear h3 f3;have hnb:(n:Int)<(n:Int)+1:=by omega
   go_wp2_with fail
   refine (CM.o _).mono ?_;rintro e w4 ⟨rfl,hw4⟩;subst w4;go_wp2_with fail
   first|go_end0|refine bodyPost_ret (results_none rfl _ _ _) rfl ?_
   exact ⟨rfl,H3.o.zcB (t+n) z,F3.o.set _ _ (.inl (.inr rfl))⟩
 ·cases hu
end Go.Proofs.YtgahgkddaljmkaaGreatDoor
