/- Mach19 .. Mach23 -/
import Derived.Test.YtgahgkddaljmkaaGreatDoorV4
import Derived.Laws.MakeOwn
import Derived.Test.YtgahgkddaljmkaaGreatDoorV1
set_option maxRecDepth 100000
set_option maxHeartbeats 4000000
namespace Go.Proofs.YtgahgkddaljmkaaGreatDoor
open Go.RowKit
attribute [local go_sem ↓] Go.wp_at_zero Go.wp_at_succ
def MSt.called (m:MSt) (lk lf:Nat):Option MSt:=
 match m.s.nodeAt 0 with
 |none=>none
 |some (a,_)=>
  match m.s.pop 2 with
  |none=>none
  |some s2=>
   match (if lf=0 then some s2 else s2.leave lk lf) with
   |none=>none
   |some s3=>
    match s3.head a with
    |none=>none
    |some y2=>if s3.ws.length<a+1+cnt y2 then none else
     match s3.zd6 (s3.words (a+1) (cnt y2)) with
     |none=>none
     |some s4=>
      match s4.head a with
      |none=>none
      |some y3=>some { m with s:=s4,o:={ m.o with next:=y3/65536 } }
def MSt.call (m:MSt) (lk lf:Nat):Option (Except Nat MSt):=
 match m.s.nodeAt 0 with
 |none=>none
 |some (_,y)=>aft (m.zdC (cnt y)) fun m1=>(m1.called lk lf).map .ok
variable {w:World}
variable {mb wb:Nat}
variable {fv:Value}
variable {m:MSt}
variable {a lk lf:Nat}
variable {y:Int}
theorem zuu{k:Nat}(h:MAt w mb wb fv m)(ha:m.s.nodeAt 0=some (a,y))(hn:m.zdC (cnt y)=some (.error k)):
  Calls Tryz.prog 256 #[.pointer (some ⟨mb,0,none⟩),.int .i64 lk,.int .i64 lf] w fun e w'=>Ends w mb wb fv (.error k) e w':=by
 obtain ⟨hx,hh⟩:=Sto.zaO ha;obtain ⟨hy,hy0,hy1,hal⟩:=Sto.zaT hh;have c0:=h.sat.c0;have hal':(a:Int)<(m.s.ws.length:Int):=by omega
 have CC:=zab (fun W:World=>za3 y W hy0 hy1);rw[zif hy0]at CC;have hcl:=zfY y;have CA:=zab (fun (W:World) (hW:MAt W mb wb fv m)=>zaz (d:=0) hW.sat _ hx);have HH:=zab h;have HY:=zab hy;have CN:=zab (fun (W:World) (hW:MAt W mb wb fv m)=>zaV hW hn);generalize cnt y=c at *;clear h ha hx hy hh hn hy0 hy1 hal;go_enter Tryz.func256,Tryz.ntmps256
 go_wp2_with fail
 refine wp_region_held_drew (S:=fun W=>W.cell? ⟨mb,0,none⟩=some (.slice (some ⟨wb,0,none⟩) m.s.ws.length m.s.ws.length)) (by kernel_rfl) HH.o.sat.drew.c0 (fun hHeld=>?_);refine wpAnyH_take (i:=0) (v:=?_) rfl (by kernel_rfl) (by kernel_rfl) (by kernel_rfl) (fun _ _ _ h=>h) (Or.inl ⟨by rfl,?_⟩) (by assumption) ?_
 rotate_left 1
 ·(intro w hSw;(try dsimp only at hSw);go_simp;try with_reducible rfl)
 try simp only[Act.put,zxK]
 refine wpAnyH_take (i:=1) (v:=?_) rfl (by kernel_rfl) (by kernel_rfl) (by kernel_rfl) (fun _ _ _ h=>h) (Or.inl ⟨by rfl,?_⟩) (by assumption) ?_
 rotate_left 1
 ·(intro w hSw;(try dsimp only at hSw);go_simp;try with_reducible rfl)
 try simp only[Act.put]
 refine wpAnyH_take (i:=2) (v:=?_) rfl (by kernel_rfl) (by kernel_rfl) (by kernel_rfl) (fun _ _ _ h=>h) (Or.inl ⟨by rfl,?_⟩) (by assumption) ?_
 rotate_left 1
 ·(intro w hSw;(try dsimp only at hSw);go_simp;try with_reducible rfl)
 try simp only[Act.put]
 refine wpAnyH_take (i:=3) (v:=?_) rfl (by kernel_rfl) (by kernel_rfl) (by kernel_rfl) (fun _ _ _ h=>h) (Or.inl ⟨by rfl,?_⟩) (by assumption) ?_
 rotate_left 1
 ·(intro w hSw;(try dsimp only at hSw);go_simp;try with_reducible rfl)
 try simp only[Act.put]
 refine wpAnyH_take (i:=4) (v:=?_) rfl (by kernel_rfl) (by kernel_rfl) (by kernel_rfl) (fun _ _ _ h=>h) (Or.inl ⟨by rfl,?_⟩) (by assumption) ?_
 rotate_left 1
 ·(intro w hSw;(try dsimp only at hSw);go_simp;try with_reducible rfl)
 try simp only[Act.put]
 refine wpAnyH_take (i:=5) (v:=?_) rfl (by kernel_rfl) (by kernel_rfl) (by kernel_rfl) (fun _ _ _ h=>h) (Or.inl ⟨by rfl,?_⟩) (by assumption) ?_
 rotate_left 1
 ·(intro w hSw;(try dsimp only at hSw);go_simp;try with_reducible rfl)
 try simp only[Act.put]
 refine wpAnyH_take (i:=6) (v:=?_) rfl (by kernel_rfl) (by kernel_rfl) (by kernel_rfl) (fun _ _ _ h=>h) (Or.inl ⟨by rfl,?_⟩) (by assumption) ?_
 rotate_left 1
 ·(intro w hSw;(try dsimp only at hSw);go_simp;try with_reducible rfl)
 try simp only[Act.put]
 refine wpAnyH_take (i:=7) (v:=?_) rfl (by kernel_rfl) (by kernel_rfl) (by kernel_rfl) (fun _ _ _ h=>h) (Or.inl ⟨by rfl,?_⟩) (by assumption) ?_
 rotate_left 1
 ·(intro w hSw;(try dsimp only at hSw);go_simp;try with_reducible rfl)
 try simp only[Act.put]
 refine wpAnyH_take (i:=8) (v:=?_) rfl (by kernel_rfl) (by kernel_rfl) (by kernel_rfl) (fun _ _ _ h=>h) (Or.inl ⟨by rfl,?_⟩) (by assumption) ?_
 rotate_left 1
 ·(intro w hSw;(try dsimp only at hSw);go_simp;try with_reducible rfl)
 try simp only[Act.put]
 refine wpAnyH_ready (rs:=[9]) (by kernel_rfl) (by simp) ?_;refine AllReadyH.cons rfl (fun K hK=>?_) AllReadyH.nil
 go_simp
 refine (CA.o _ (HH.o.drewN 1)).mono ?_;rintro e w2 ⟨rfl,k2,hw2⟩;have H2:Hid (MAt w2 mb wb fv m):=zab (by rw[hw2];exact (HH.o.drewN 1).drewN k2);have F2:Hid (Fr (MB mb wb fv) w w2):=zab (by rw[hw2];exact (Fr.refl _ _).drew.drewN k2);have d0:=H2.o.sat.c0;have dy:=H2.o.sat.word HY.o;clear hw2;refine hK.out _ _ d0 (fun hHeld=>?_);clear hK K
 try simp only[Act.put,zxK,zxV,zxS]
 refine wpAnyH_take (i:=10) (v:=?_) rfl (by kernel_rfl) (by kernel_rfl) (by kernel_rfl) (fun _ _ _ h=>h) (Or.inl ⟨by rfl,?_⟩) (by assumption) ?_
 rotate_left 1
 ·(intro w hSw;(try dsimp only at hSw);go_simp;try with_reducible rfl)
 try simp only[Act.put,zxK]
 refine wpAnyH_ready (rs:=[11]) (by kernel_rfl) (by simp) ?_;refine AllReadyH.cons rfl (fun K hK=>?_) AllReadyH.nil
 go_simp
 refine hK.out _ _ d0 (fun hHeld=>?_);clear hK K
 try simp only[Act.put,zxK,zxV,zxS]
 refine wpAnyH_ready (rs:=[12]) (by kernel_rfl) (by simp) ?_;refine AllReadyH.cons rfl (fun K hK=>?_) AllReadyH.nil
 go_simp
 refine (CC.o _).mono ?_;rintro e w3 ⟨rfl,hw3⟩;subst w3;refine hK.out _ _ d0 (fun hHeld=>?_);clear hK K
 try simp only[Act.put,zxK,zxV,zxS]
 refine wpAnyH_ready (rs:=[13]) (by kernel_rfl) (by simp) ?_;refine AllReadyH.cons rfl (fun K hK=>?_) AllReadyH.nil
 go_simp
 refine (CN.o _ H2.o).mono ?_;rintro e w4 ⟨f4,rfl,h4⟩;exact ⟨rfl,F2.o.trans f4,rfl,h4⟩
theorem zut{m1:MSt}{a1:Nat}{y1 y2 y3:Int}{s2 s3 s4:Sto}(h:MAt w mb wb fv m)(ha:m.s.nodeAt 0=some (a,y))(hn:m.zdC (cnt y)=some (.ok m1))(ha1:m1.s.nodeAt 0=some (a1,y1))(hpo:m1.s.pop 2=some s2)(hle:s2=s3)(hh2:s3.head a1=some y2)(hfit:a1+1+cnt y2<=s3.ws.length)(hpa:s3.zd6 (s3.words (a1+1) (cnt y2))=some s4)(hh3:s4.head a1=some y3):
  Calls Tryz.prog 256 #[.pointer (some ⟨mb,0,none⟩),.int .i64 lk,.int .i64 0] w fun e w'=>Ends w mb wb fv (.ok { m1 with s:=s4,o:={ m1.o with next:=y3/65536 } }) e w':=by
 obtain ⟨hx,hh⟩:=Sto.zaO ha;obtain ⟨hy,hy0,hy1,hal⟩:=Sto.zaT hh;have c0:=h.sat.c0;have hal':(a:Int)<(m.s.ws.length:Int):=by omega
 have CC:=zab (fun W:World=>za3 y W hy0 hy1);rw[zif hy0]at CC;have hcl:=zfY y;have CA:=zab (fun (W:World) (hW:MAt W mb wb fv m)=>zaz (d:=0) hW.sat _ hx);have HH:=zab h;have HY:=zab hy;have CN:=zab (fun (W:World) (hW:MAt W mb wb fv m)=>zaV hW hn);have HWL:=zab (zl2 hn);obtain ⟨hx1,_⟩:=Sto.zaO ha1;obtain ⟨hy2,hy20,hy21,hal2⟩:=Sto.zaT hh2;obtain ⟨hy3,hy30,hy31,hal3⟩:=Sto.zaT hh3;have HX1:=zab hx1;have HPO:=zab hpo;have HLE:=zab hle;have HY2:=zab (And.intro hy2 (And.intro hy20 (And.intro hy21 hfit)));have HPA:=zab hpa;have HY3:=zab hy3;have CW:=zab (fun W:World=>zbu y3 W hy30 hy31);have hal4:(a1:Int)<(s4.ws.length:Int):=by omega
 obtain ⟨nx,hnx⟩:∃ nx,y3/65536=nx:=⟨_,rfl⟩;rw[hnx]at CW ⊢;generalize cnt y=c at *;clear h ha hx hy hh hn hy0 hy1 hal ha1 hx1 hh2 hy2 hy20 hy21 hal2 hfit hpo hpa hh3 hy3 hy30 hy31 hal3 hnx hle;go_enter Tryz.func256,Tryz.ntmps256
 go_wp2_with fail
 refine wp_region_held_drew (S:=fun W=>W.cell? ⟨mb,0,none⟩=some (.slice (some ⟨wb,0,none⟩) m.s.ws.length m.s.ws.length)) (by kernel_rfl) HH.o.sat.drew.c0 (fun hHeld=>?_);refine wpAnyH_take (i:=0) (v:=?_) rfl (by kernel_rfl) (by kernel_rfl) (by kernel_rfl) (fun _ _ _ h=>h) (Or.inl ⟨by rfl,?_⟩) (by assumption) ?_
 rotate_left 1
 ·(intro w hSw;(try dsimp only at hSw);go_simp;try with_reducible rfl)
 try simp only[Act.put,zxK]
 refine wpAnyH_take (i:=1) (v:=?_) rfl (by kernel_rfl) (by kernel_rfl) (by kernel_rfl) (fun _ _ _ h=>h) (Or.inl ⟨by rfl,?_⟩) (by assumption) ?_
 rotate_left 1
 ·(intro w hSw;(try dsimp only at hSw);go_simp;try with_reducible rfl)
 try simp only[Act.put]
 refine wpAnyH_take (i:=2) (v:=?_) rfl (by kernel_rfl) (by kernel_rfl) (by kernel_rfl) (fun _ _ _ h=>h) (Or.inl ⟨by rfl,?_⟩) (by assumption) ?_
 rotate_left 1
 ·(intro w hSw;(try dsimp only at hSw);go_simp;try with_reducible rfl)
 try simp only[Act.put]
 refine wpAnyH_take (i:=3) (v:=?_) rfl (by kernel_rfl) (by kernel_rfl) (by kernel_rfl) (fun _ _ _ h=>h) (Or.inl ⟨by rfl,?_⟩) (by assumption) ?_
 rotate_left 1
 ·(intro w hSw;(try dsimp only at hSw);go_simp;try with_reducible rfl)
 try simp only[Act.put]
 refine wpAnyH_take (i:=4) (v:=?_) rfl (by kernel_rfl) (by kernel_rfl) (by kernel_rfl) (fun _ _ _ h=>h) (Or.inl ⟨by rfl,?_⟩) (by assumption) ?_
 rotate_left 1
 ·(intro w hSw;(try dsimp only at hSw);go_simp;try with_reducible rfl)
 try simp only[Act.put]
 refine wpAnyH_take (i:=5) (v:=?_) rfl (by kernel_rfl) (by kernel_rfl) (by kernel_rfl) (fun _ _ _ h=>h) (Or.inl ⟨by rfl,?_⟩) (by assumption) ?_
 rotate_left 1
 ·(intro w hSw;(try dsimp only at hSw);go_simp;try with_reducible rfl)
 try simp only[Act.put]
 refine wpAnyH_take (i:=6) (v:=?_) rfl (by kernel_rfl) (by kernel_rfl) (by kernel_rfl) (fun _ _ _ h=>h) (Or.inl ⟨by rfl,?_⟩) (by assumption) ?_
 rotate_left 1
 ·(intro w hSw;(try dsimp only at hSw);go_simp;try with_reducible rfl)
 try simp only[Act.put]
 refine wpAnyH_take (i:=7) (v:=?_) rfl (by kernel_rfl) (by kernel_rfl) (by kernel_rfl) (fun _ _ _ h=>h) (Or.inl ⟨by rfl,?_⟩) (by assumption) ?_
 rotate_left 1
 ·(intro w hSw;(try dsimp only at hSw);go_simp;try with_reducible rfl)
 try simp only[Act.put]
 refine wpAnyH_take (i:=8) (v:=?_) rfl (by kernel_rfl) (by kernel_rfl) (by kernel_rfl) (fun _ _ _ h=>h) (Or.inl ⟨by rfl,?_⟩) (by assumption) ?_
 rotate_left 1
 ·(intro w hSw;(try dsimp only at hSw);go_simp;try with_reducible rfl)
 try simp only[Act.put]
 refine wpAnyH_ready (rs:=[9]) (by kernel_rfl) (by simp) ?_;refine AllReadyH.cons rfl (fun K hK=>?_) AllReadyH.nil
 go_simp
 refine (CA.o _ (HH.o.drewN 1)).mono ?_;rintro e w2 ⟨rfl,k2,hw2⟩;have H2:Hid (MAt w2 mb wb fv m):=zab (by rw[hw2];exact (HH.o.drewN 1).drewN k2);have F2:Hid (Fr (MB mb wb fv) w w2):=zab (by rw[hw2];exact (Fr.refl _ _).drew.drewN k2);have d0:=H2.o.sat.c0;have dy:=H2.o.sat.word HY.o;clear hw2;refine hK.out _ _ d0 (fun hHeld=>?_);clear hK K
 try simp only[Act.put,zxK,zxV,zxS]
 refine wpAnyH_take (i:=10) (v:=?_) rfl (by kernel_rfl) (by kernel_rfl) (by kernel_rfl) (fun _ _ _ h=>h) (Or.inl ⟨by rfl,?_⟩) (by assumption) ?_
 rotate_left 1
 ·(intro w hSw;(try dsimp only at hSw);go_simp;try with_reducible rfl)
 try simp only[Act.put,zxK]
 refine wpAnyH_ready (rs:=[11]) (by kernel_rfl) (by simp) ?_;refine AllReadyH.cons rfl (fun K hK=>?_) AllReadyH.nil
 go_simp
 refine hK.out _ _ d0 (fun hHeld=>?_);clear hK K
 try simp only[Act.put,zxK,zxV,zxS]
 refine wpAnyH_ready (rs:=[12]) (by kernel_rfl) (by simp) ?_;refine AllReadyH.cons rfl (fun K hK=>?_) AllReadyH.nil
 go_simp
 refine (CC.o _).mono ?_;rintro e w3 ⟨rfl,hw3⟩;subst w3;refine hK.out _ _ d0 (fun hHeld=>?_);clear hK K
 try simp only[Act.put,zxK,zxV,zxS]
 refine wpAnyH_ready (rs:=[13]) (by kernel_rfl) (by simp) ?_;refine AllReadyH.cons rfl (fun K hK=>?_) AllReadyH.nil
 go_simp
 refine (CN.o _ H2.o).mono ?_;rintro e w4 ⟨f4,rfl,h4⟩;have H4:=zab h4;have F4:=zab (F2.o.trans f4);have g0:w4.cell? ⟨mb,0,none⟩=some (.slice (some ⟨wb,0,none⟩) m.s.ws.length m.s.ws.length):=by rw[h4.sat.c0,HWL.o]
 clear h4 f4;refine hK.out _ _ g0 (fun hHeld=>?_);clear hK K
 try simp only[Act.put,zxK,zxV,zxS]
 refine wpAnyH_done (by kernel_rfl) ?_ _;clear c0 d0 dy g0;go_wp2_with fail
 refine (zaz (d:=0) H4.o.sat _ HX1.o).mono ?_;rintro e w5 ⟨rfl,k5,hw5⟩;have H5:Hid (MAt w5 mb wb fv m1):=zab (by rw[hw5];exact H4.o.drewN k5);have F5:Hid (Fr (MB mb wb fv) w w5):=zab (by rw[hw5];exact F4.o.drewN k5);clear hw5;go_wp2_with fail
 refine (Sto.zbK (c:=2) H5.o.sat HPO.o).mono ?_;rintro e w6 ⟨rfl,h6,f6⟩;have H7:Hid (SAt w6 mb wb (zec m1.o fv) s3):=zab (by rw[<-HLE.o];exact h6);have F7:=zab f6;clear h6 f6;generalize w6=w7 at H7 F7;go_wp2_with fail
 go_region_held3 (fun _=>True) (trivial) (first
  |(go_at_call 135;refine (zcw H7.o.drew a1 y2 HY2.o.1 HY2.o.2.1 HY2.o.2.2.1 HY2.o.2.2.2).mono ?_;rintro e w8 ⟨rfl,k8,hw8⟩;have H8:Hid (SAt w8 mb wb (zec m1.o fv) s3):=zab (by rw[hw8];exact H7.o.drew.drewN k8);have F8:Hid (Fr (M2 mb wb) w5 w8):=zab (by rw[hw8];exact F7.o.drew.drewN k8);clear hw8)
  |(go_at_call 201;refine (Sto.zeo H8.o HPA.o rfl HY2.o.2.2.2 (fun h0=>zbS (by have:=HY2.o.2.2.2;unfold cnt at h0 this;omega))).mono ?_;rintro e w9 ⟨rfl,h9,f9⟩;have H9:=zab h9;have F9:=zab (F8.o.trans f9);clear h9 f9))
 all_goals
  have e0:=H9.o.c0;have ey:=H9.o.word HY3.o;have e10:=H9.o.c10;have ef:=H9.o.blk.frozen 10;go_wp2_with fail
  refine (CW.o _).mono ?_;rintro e w10 ⟨rfl,hw10⟩;subst w10;go_wp2_with fail
  first|go_end0|refine bodyPost_ret (results_none rfl _ _ _) rfl ?_
  have f12:Fr (M2 mb wb) w5 (w9.setCell ⟨mb,10,none⟩ (.int .i64 nx)):=F9.o.set _ _ (.inl (.inl rfl));exact ⟨F5.o.trans (f12.zcW fv),rfl,H9.o.zgx nx,H5.o.fat.fr f12,H5.o.fl,H5.o.fuel⟩
theorem zuq{m1:MSt}{a1:Nat}{y1 y2 y3:Int}{s2 s3 s4:Sto}(h:MAt w mb wb fv m)(ha:m.s.nodeAt 0=some (a,y))(hn:m.zdC (cnt y)=some (.ok m1))(ha1:m1.s.nodeAt 0=some (a1,y1))(hpo:m1.s.pop 2=some s2)(hle:s2.leave lk lf=some s3)(hh2:s3.head a1=some y2)(hfit:a1+1+cnt y2<=s3.ws.length)(hpa:s3.zd6 (s3.words (a1+1) (cnt y2))=some s4)(hh3:s4.head a1=some y3)(hlf:0<lf):
  Calls Tryz.prog 256 #[.pointer (some ⟨mb,0,none⟩),.int .i64 lk,.int .i64 lf] w fun e w'=>Ends w mb wb fv (.ok { m1 with s:=s4,o:={ m1.o with next:=y3/65536 } }) e w':=by
 obtain ⟨hx,hh⟩:=Sto.zaO ha;obtain ⟨hy,hy0,hy1,hal⟩:=Sto.zaT hh;have c0:=h.sat.c0;have hal':(a:Int)<(m.s.ws.length:Int):=by omega
 have CC:=zab (fun W:World=>za3 y W hy0 hy1);rw[zif hy0]at CC;have hcl:=zfY y;have CA:=zab (fun (W:World) (hW:MAt W mb wb fv m)=>zaz (d:=0) hW.sat _ hx);have HH:=zab h;have HY:=zab hy;have CN:=zab (fun (W:World) (hW:MAt W mb wb fv m)=>zaV hW hn);have HWL:=zab (zl2 hn);obtain ⟨hx1,_⟩:=Sto.zaO ha1;obtain ⟨hy2,hy20,hy21,hal2⟩:=Sto.zaT hh2;obtain ⟨hy3,hy30,hy31,hal3⟩:=Sto.zaT hh3;have HX1:=zab hx1;have HPO:=zab hpo;have HLE:=zab hle;have HY2:=zab (And.intro hy2 (And.intro hy20 (And.intro hy21 hfit)));have HPA:=zab hpa;have HY3:=zab hy3;have CW:=zab (fun W:World=>zbu y3 W hy30 hy31);have hal4:(a1:Int)<(s4.ws.length:Int):=by omega
 obtain ⟨nx,hnx⟩:∃ nx,y3/65536=nx:=⟨_,rfl⟩;rw[hnx]at CW ⊢;generalize cnt y=c at *;clear h ha hx hy hh hn hy0 hy1 hal ha1 hx1 hh2 hy2 hy20 hy21 hal2 hfit hpo hpa hh3 hy3 hy30 hy31 hal3 hnx hle;have hlf1:(0:Int)<(lf:Int):=by omega
 go_enter Tryz.func256,Tryz.ntmps256
 go_wp2_with fail
 refine wp_region_held_drew (S:=fun W=>W.cell? ⟨mb,0,none⟩=some (.slice (some ⟨wb,0,none⟩) m.s.ws.length m.s.ws.length)) (by kernel_rfl) HH.o.sat.drew.c0 (fun hHeld=>?_);refine wpAnyH_take (i:=0) (v:=?_) rfl (by kernel_rfl) (by kernel_rfl) (by kernel_rfl) (fun _ _ _ h=>h) (Or.inl ⟨by rfl,?_⟩) (by assumption) ?_
 rotate_left 1
 ·(intro w hSw;(try dsimp only at hSw);go_simp;try with_reducible rfl)
 try simp only[Act.put,zxK]
 refine wpAnyH_take (i:=1) (v:=?_) rfl (by kernel_rfl) (by kernel_rfl) (by kernel_rfl) (fun _ _ _ h=>h) (Or.inl ⟨by rfl,?_⟩) (by assumption) ?_
 rotate_left 1
 ·(intro w hSw;(try dsimp only at hSw);go_simp;try with_reducible rfl)
 try simp only[Act.put]
 refine wpAnyH_take (i:=2) (v:=?_) rfl (by kernel_rfl) (by kernel_rfl) (by kernel_rfl) (fun _ _ _ h=>h) (Or.inl ⟨by rfl,?_⟩) (by assumption) ?_
 rotate_left 1
 ·(intro w hSw;(try dsimp only at hSw);go_simp;try with_reducible rfl)
 try simp only[Act.put]
 refine wpAnyH_take (i:=3) (v:=?_) rfl (by kernel_rfl) (by kernel_rfl) (by kernel_rfl) (fun _ _ _ h=>h) (Or.inl ⟨by rfl,?_⟩) (by assumption) ?_
 rotate_left 1
 ·(intro w hSw;(try dsimp only at hSw);go_simp;try with_reducible rfl)
 try simp only[Act.put]
 refine wpAnyH_take (i:=4) (v:=?_) rfl (by kernel_rfl) (by kernel_rfl) (by kernel_rfl) (fun _ _ _ h=>h) (Or.inl ⟨by rfl,?_⟩) (by assumption) ?_
 rotate_left 1
 ·(intro w hSw;(try dsimp only at hSw);go_simp;try with_reducible rfl)
 try simp only[Act.put]
 refine wpAnyH_take (i:=5) (v:=?_) rfl (by kernel_rfl) (by kernel_rfl) (by kernel_rfl) (fun _ _ _ h=>h) (Or.inl ⟨by rfl,?_⟩) (by assumption) ?_
 rotate_left 1
 ·(intro w hSw;(try dsimp only at hSw);go_simp;try with_reducible rfl)
 try simp only[Act.put]
 refine wpAnyH_take (i:=6) (v:=?_) rfl (by kernel_rfl) (by kernel_rfl) (by kernel_rfl) (fun _ _ _ h=>h) (Or.inl ⟨by rfl,?_⟩) (by assumption) ?_
 rotate_left 1
 ·(intro w hSw;(try dsimp only at hSw);go_simp;try with_reducible rfl)
 try simp only[Act.put]
 refine wpAnyH_take (i:=7) (v:=?_) rfl (by kernel_rfl) (by kernel_rfl) (by kernel_rfl) (fun _ _ _ h=>h) (Or.inl ⟨by rfl,?_⟩) (by assumption) ?_
 rotate_left 1
 ·(intro w hSw;(try dsimp only at hSw);go_simp;try with_reducible rfl)
 try simp only[Act.put]
 refine wpAnyH_take (i:=8) (v:=?_) rfl (by kernel_rfl) (by kernel_rfl) (by kernel_rfl) (fun _ _ _ h=>h) (Or.inl ⟨by rfl,?_⟩) (by assumption) ?_
 rotate_left 1
 ·(intro w hSw;(try dsimp only at hSw);go_simp;try with_reducible rfl)
 try simp only[Act.put]
 refine wpAnyH_ready (rs:=[9]) (by kernel_rfl) (by simp) ?_;refine AllReadyH.cons rfl (fun K hK=>?_) AllReadyH.nil
 go_simp
 refine (CA.o _ (HH.o.drewN 1)).mono ?_;rintro e w2 ⟨rfl,k2,hw2⟩;have H2:Hid (MAt w2 mb wb fv m):=zab (by rw[hw2];exact (HH.o.drewN 1).drewN k2);have F2:Hid (Fr (MB mb wb fv) w w2):=zab (by rw[hw2];exact (Fr.refl _ _).drew.drewN k2);have d0:=H2.o.sat.c0;have dy:=H2.o.sat.word HY.o;clear hw2;refine hK.out _ _ d0 (fun hHeld=>?_);clear hK K
 try simp only[Act.put,zxK,zxV,zxS]
 refine wpAnyH_take (i:=10) (v:=?_) rfl (by kernel_rfl) (by kernel_rfl) (by kernel_rfl) (fun _ _ _ h=>h) (Or.inl ⟨by rfl,?_⟩) (by assumption) ?_
 rotate_left 1
 ·(intro w hSw;(try dsimp only at hSw);go_simp;try with_reducible rfl)
 try simp only[Act.put,zxK]
 refine wpAnyH_ready (rs:=[11]) (by kernel_rfl) (by simp) ?_;refine AllReadyH.cons rfl (fun K hK=>?_) AllReadyH.nil
 go_simp
 refine hK.out _ _ d0 (fun hHeld=>?_);clear hK K
 try simp only[Act.put,zxK,zxV,zxS]
 refine wpAnyH_ready (rs:=[12]) (by kernel_rfl) (by simp) ?_;refine AllReadyH.cons rfl (fun K hK=>?_) AllReadyH.nil
 go_simp
 refine (CC.o _).mono ?_;rintro e w3 ⟨rfl,hw3⟩;subst w3;refine hK.out _ _ d0 (fun hHeld=>?_);clear hK K
 try simp only[Act.put,zxK,zxV,zxS]
 refine wpAnyH_ready (rs:=[13]) (by kernel_rfl) (by simp) ?_;refine AllReadyH.cons rfl (fun K hK=>?_) AllReadyH.nil
 go_simp
 refine (CN.o _ H2.o).mono ?_;rintro e w4 ⟨f4,rfl,h4⟩;have H4:=zab h4;have F4:=zab (F2.o.trans f4);have g0:w4.cell? ⟨mb,0,none⟩=some (.slice (some ⟨wb,0,none⟩) m.s.ws.length m.s.ws.length):=by rw[h4.sat.c0,HWL.o]
 clear h4 f4;refine hK.out _ _ g0 (fun hHeld=>?_);clear hK K
 try simp only[Act.put,zxK,zxV,zxS]
 refine wpAnyH_done (by kernel_rfl) ?_ _;clear c0 d0 dy g0;go_wp2_with fail
 refine (zaz (d:=0) H4.o.sat _ HX1.o).mono ?_;rintro e w5 ⟨rfl,k5,hw5⟩;have H5:Hid (MAt w5 mb wb fv m1):=zab (by rw[hw5];exact H4.o.drewN k5);have F5:Hid (Fr (MB mb wb fv) w w5):=zab (by rw[hw5];exact F4.o.drewN k5);clear hw5;go_wp2_with fail
 refine (Sto.zbK (c:=2) H5.o.sat HPO.o).mono ?_;rintro e w6 ⟨rfl,h6,f6⟩;have H6:=zab h6;have F6:=zab f6;clear h6 f6;go_wp2_with fail
 refine (zt6 H6.o HLE.o).mono ?_;rintro e w7 ⟨rfl,h7,f7⟩;have H7:=zab h7;have F7:=zab (F6.o.trans f7);clear h7 f7;go_wp2_with fail
 go_region_held3 (fun _=>True) (trivial) (first
  |(go_at_call 135;refine (zcw H7.o.drew a1 y2 HY2.o.1 HY2.o.2.1 HY2.o.2.2.1 HY2.o.2.2.2).mono ?_;rintro e w8 ⟨rfl,k8,hw8⟩;have H8:Hid (SAt w8 mb wb (zec m1.o fv) s3):=zab (by rw[hw8];exact H7.o.drew.drewN k8);have F8:Hid (Fr (M2 mb wb) w5 w8):=zab (by rw[hw8];exact F7.o.drew.drewN k8);clear hw8)
  |(go_at_call 201;refine (Sto.zeo H8.o HPA.o rfl HY2.o.2.2.2 (fun h0=>zbS (by have:=HY2.o.2.2.2;unfold cnt at h0 this;omega))).mono ?_;rintro e w9 ⟨rfl,h9,f9⟩;have H9:=zab h9;have F9:=zab (F8.o.trans f9);clear h9 f9))
 all_goals
  have e0:=H9.o.c0;have ey:=H9.o.word HY3.o;have e10:=H9.o.c10;have ef:=H9.o.blk.frozen 10;go_wp2_with fail
  refine (CW.o _).mono ?_;rintro e w10 ⟨rfl,hw10⟩;subst w10;go_wp2_with fail
  first|go_end0|refine bodyPost_ret (results_none rfl _ _ _) rfl ?_
  have f12:Fr (M2 mb wb) w5 (w9.setCell ⟨mb,10,none⟩ (.int .i64 nx)):=F9.o.set _ _ (.inl (.inl rfl));exact ⟨F5.o.trans (f12.zcW fv),rfl,H9.o.zgx nx,H5.o.fat.fr f12,H5.o.fl,H5.o.fuel⟩
theorem zvg{r:Except Nat MSt}(h:MAt w mb wb fv m)(hb:m.call lk lf=some r):
  Calls Tryz.prog 256 #[.pointer (some ⟨mb,0,none⟩),.int .i64 lk,.int .i64 lf] w fun e w'=>Ends w mb wb fv r e w':=by
 unfold MSt.call at hb;split at hb
 ·cases hb
 ·next a y ha=>
  unfold aft at hb;split at hb
  ·cases hb
  ·next k hn=>obtain rfl:=zxQ hb;exact zuu h ha hn
  ·next m1 hn=>
   simp only[zxT]at hb;obtain ⟨m2,h2,rfl⟩:=hb;unfold MSt.called at h2;split at h2
   ·cases h2
   ·next a1 y1 ha1=>
    split at h2
    ·cases h2
    ·next s2 hpo=>
     split at h2
     ·cases h2
     ·next s3 hle=>
      split at h2
      ·cases h2
      ·next y2 hh2=>
       split at h2
       ·cases h2
       ·next hfit=>
        split at h2
        ·cases h2
        ·next s4 hpa=>
         split at h2
         ·cases h2
         ·next y3 hh3=>
          obtain rfl:=zxQ h2;by_cases hl:lf=0
          ·rw[if_pos hl]at hle;subst hl;exact zut h ha hn ha1 hpo (zxQ hle) hh2 (by omega) hpa hh3
          ·rw[if_neg hl]at hle;exact zuq h ha hn ha1 hpo hle hh2 (by omega) hpa hh3 (by omega)
def MSt.zcf (m:MSt) (c:Nat):Option MSt:=
 if 0<=m.o.below/\m.o.below+(c:Int)<=((m.s.low+m.s.half:Nat):Int)/\m.s.low+m.s.half<=m.s.ws.length/\m.s.top+c<=m.s.ws.length then
  some { m with s:={ m.s with top:=m.s.low+m.s.half-m.o.below.toNat-c,ws:=Go.splice m.s.ws (m.s.low+m.s.half-m.o.below.toNat-c) (m.s.words m.s.top c) } }
 else none
theorem zsw{m':MSt}(h:MAt w mb wb fv m){c:Nat}(hs:m.zcf c=some m'):
  Calls Tryz.prog 139 #[.pointer (some ⟨mb,0,none⟩),.int .i64 c] w fun e w'=>Ends w mb wb fv (.ok m') e w':=by
 obtain ⟨⟨ws,hf,lo,fr,tp⟩,o,fns⟩:=m;unfold MSt.zcf at hs;simp only at hs;split at hs
 ·next hg=>
  obtain rfl:=zxQ hs;obtain ⟨b,hb⟩:∃ b:Nat,o.below=b:=⟨o.below.toNat,by omega⟩;rw[hb]at hg ⊢;simp only[zxY]at hg ⊢;have hlen:ws.length<=1000000:=h.sat.len;obtain ⟨i,hi⟩:∃ i,lo+hf-b-c=i:=⟨_,rfl⟩;rw[hi];have hic:lo+hf=i+c+b:=by omega
  have hxl:(Sto.words ⟨ws,hf,lo,fr,tp⟩ tp c).length=c:=Sto.zcJ (by simp only;omega);have hxg:∀ (j:Nat) x,(Sto.words ⟨ws,hf,lo,fr,tp⟩ tp c)[j]?=some x->ws[tp+j]?=some x:=fun j x hj=>(Sto.zdM hj).2
  generalize Sto.words ⟨ws,hf,lo,fr,tp⟩ tp c=xs at hxl hxg;have hil:i+xs.length<=ws.length:=by omega
  have CS:=zab (ze9 h.sat c (by simp only;omega));have HH:=zab h;have hbi:(lo:Int)+(hf:Int)-(b:Int)=(i:Int)+(c:Int):=by omega
  have CB:=zab (fun (W:World) (hW:MAt W mb wb fv ⟨⟨ws,hf,lo,fr,tp⟩,o,fns⟩)=>zla hW (b:=b) hb (by omega));simp only[hbi]at CB;have hb1:(i:Int)<=(ws.length:Int):=by omega
  have hb2:(0:Int)<=(i:Int):=by omega
  have hb3:(i:Int)+(c:Int)<=1000000:=by omega
  have HXG:=zab hxg;have htc:0<c->cutAt ws.length tp=tp:=fun h0=>zbS (by omega)
  have HT:=zab htc;generalize cutAt ws.length tp=tq at CS htc HT;clear h hs hg hi hic hbi hxg htc hb;go_enter Tryz.func139,Tryz.ntmps139
  go_wp2_with fail
  refine CS.o.mono ?_;rintro e w1 ⟨rfl,k1,hw1⟩;have H1:Hid (MAt w1 mb wb fv ⟨⟨ws,hf,lo,fr,tp⟩,o,fns⟩):=zab (by rw[hw1];exact HH.o.drewN k1);have F1:Hid (Fr (M2 mb wb) w w1):=zab (by rw[hw1];exact (Fr.refl _ _).drewN k1);clear hw1 CS;go_wp2_with fail
  refine (CB.o _ H1.o).mono ?_;rintro e w2 ⟨rfl,k2,hw2⟩;have H2:Hid (MAt w2 mb wb fv ⟨⟨ws,hf,lo,fr,tp⟩,o,fns⟩):=zab (by rw[hw2];exact H1.o.drewN k2);have F2:Hid (Fr (M2 mb wb) w w2):=zab (by rw[hw2];exact F1.o.drewN k2);clear hw2 CB;have c4:=H2.o.sat.c4;have f4:=H2.o.sat.blk.frozen 4;go_wp2_with fail
  have H3:=zab (H2.o.sat.zlG i (by omega));have F3:Hid (Fr (M2 mb wb) w (w2.setCell ⟨mb,4,none⟩ (.int .i64 i))):=zab (F2.o.set _ _ (.inl (.inl rfl)));generalize w2.setCell ⟨mb,4,none⟩ (.int .i64 i)=w3 at H3 F3;have d0:=H3.o.c0;have d4:=H3.o.c4;simp only at d0 d4;have HSR:Hid (0<xs.length->∃ ad,(some (⟨wb,tq,none⟩:Addr))=some ad/\∀ (j:Nat) x,xs[j]?=some x->w3.drew.cell? (ad.add j)=some (.int .i64 x)):=zab (fun h0=>⟨_,rfl,fun j x hj=>by
   rw[zbb,HT.o (by omega)];exact H3.o.drew.word (HXG.o j x hj)⟩)
  clear c4 f4 HT HXG;by_cases hr:ws.length=i
  ·obtain rfl:xs=[]:=zyo (by omega);obtain rfl:c=0:=by simpa using hxl.symm
   go_region_held3 (fun W=>W.cell? ⟨mb,0,none⟩=some (.slice (some ⟨wb,0,none⟩) ws.length ws.length)/\W.cell? ⟨mb,4,none⟩=some (.int .i64 i)) (first|go_keep|(refine ⟨?_,?_⟩ <;> assumption)) (first
    |(refine za5 (by rfl) _ _ (by rfl) H3.o.drew _ _ _ _ _ _ (by rfl) (by rfl) [] (by simp) (fun h=>absurd h (by simp)) (by simp) ?_;intro w5 h5 f5;have H5:=zab h5;have F5:=zab f5;have e0:=h5.c0;have e4:=h5.c4;simp only[splice,zyN,zx7,zyX,zyi,zyK]at e0 e4;clear h5 f5))
   all_goals
    go_wp2_with fail
    go_end0
    have f5:=F3.o.trans ((Fr.refl _ _).drew.trans F5.o);refine ⟨f5.zcW fv,rfl,?_,HH.o.fat.fr f5,HH.o.fl,HH.o.fuel⟩;have:=H5.o;simpa [splice] using this
  ·have hlt:i<ws.length:=by omega
   go_region_held3 (fun W=>W.cell? ⟨mb,0,none⟩=some (.slice (some ⟨wb,0,none⟩) ws.length ws.length)/\W.cell? ⟨mb,4,none⟩=some (.int .i64 i)) (first|go_keep|(refine ⟨?_,?_⟩ <;> assumption)) (first
    |(refine za5 (by rfl) _ _ (by rfl) H3.o.drew i _ _ _ _ _ (by rfl) (by rfl) xs (by rw[hxl];exact (zyO (by omega)).symm) HSR.o hil ?_;intro w5 h5 f5;have H5:=zab h5;have F5:=zab f5;have e0:=h5.c0;have e4:=h5.c4;simp only[zaX _ _ _ hil]at e0 e4;clear h5 f5))
   all_goals
    go_wp2_with fail
    go_end0
    have f5:=F3.o.trans ((Fr.refl _ _).drew.trans F5.o);exact ⟨f5.zcW fv,rfl,H5.o,HH.o.fat.fr f5,HH.o.fl,HH.o.fuel⟩
 ·cases hs
def ziH (k n t a:Int):Value:=.agg #[.int .i64 k,.int .i64 n,.int .i64 t,.int .i64 a]
theorem MAt.alloc{w:World}{mb wb:Nat}{fv:Value}{m:MSt}(h:MAt w mb wb fv m)(o:Obj):MAt (w.alloc o) mb wb fv m:=⟨h.sat.below (zam w o),h.fat.fr (Fr.below (zam w o)),h.fl,h.fuel⟩
theorem zmz(h:MAt w mb wb fv m)(ha:m.s.nodeAt 0=some (a,y))(h0:y%16≠0)(h1:y%16≠1):
  Calls Tryz.prog 48 #[.pointer (some ⟨mb,0,none⟩)] w fun e w'=>e=.returned (ziH 3 0 0 0)/\Fr (fun _=>False) w w':=by
 obtain ⟨hx,hh⟩:=Sto.zaO ha;obtain ⟨hy,hy0,hy1,hal⟩:=Sto.zaT hh;have hal':(a:Int)<(m.s.ws.length:Int):=by omega
 have hlen:=h.sat.len;have CA:=zab (fun (W:World) (hW:MAt W mb wb fv m)=>zaz (d:=0) hW.sat _ hx);have CK:=zab (fun W:World=>za2 y W hy0 hy1);have HH:=zab h;have HY:=zab hy;have hk0:(y%16 == 0)=false:=by rw[beq_eq_false_iff_ne];exact h0
 have hk1:(y%16 == 1)=false:=by rw[beq_eq_false_iff_ne];exact h1
 generalize y%16=k at *;clear h0 h1;clear h ha hx hy hh hy0 hy1 hal;go_enter Tryz.func48,Tryz.ntmps48
 go_wp2_with fail
 have HB:=zab (Blk.new w [.int .i64 0,.int .i64 0,.int .i64 0,.int .i64 0] 35);refine (CA.o _ (HH.o.alloc _)).mono ?_;rintro e w1 ⟨rfl,k1,hw1⟩;have H1:Hid (MAt w1 mb wb fv m):=zab (by rw[hw1];exact (HH.o.alloc _).drewN k1);have B1:Hid (Blk w1 w.heap.size [.int .i64 0,.int .i64 0,.int .i64 0,.int .i64 0] 35):=zab (by rw[hw1];exact HB.o);have F1:Hid (Fr (fun _=>False) w w1):=zab (by rw[hw1];exact ((Fr.refl _ _).alloc _).drewN k1);clear hw1 HB;have c0:=H1.o.sat.c0;have cy:=H1.o.sat.word HY.o;have hbm:w.heap.size≠mb:=by have:=HH.o.sat.blk.lt;omega
 have q0:=Blk.cell B1.o 0;have q1:=Blk.cell B1.o 1;have q2:=Blk.cell B1.o 2;have q3:=Blk.cell B1.o 3;simp at q0 q1 q2 q3;have g0:=Blk.frozen B1.o 0;have g1:=Blk.frozen B1.o 1;have g2:=Blk.frozen B1.o 2;have g3:=Blk.frozen B1.o 3;go_wp2_with fail
 refine (CK.o _).mono ?_;rintro e w2 ⟨rfl,hw2⟩;subst w2;go_wp2_with fail
 have FIN:=(((B1.o.set 0 (.int .i64 3)).set 1 (.int .i64 0)).set 2 (.int .i64 0)).set 3 (.int .i64 0);have p0:=Blk.cell FIN 0;have p1:=Blk.cell FIN 1;have p2:=Blk.cell FIN 2;have p3:=Blk.cell FIN 3;simp at p0 p1 p2 p3;refine bodyPost_ret (by simp[results,Tryz.results48,go_sem,p0,p1,p2,p3];rfl) rfl ⟨rfl,?_⟩;exact (((F1.o.set ⟨w.heap.size,0,none⟩ _ (.inr (zxJ _))).set ⟨w.heap.size,1,none⟩ _ (.inr (zxJ _))).set ⟨w.heap.size,2,none⟩ _ (.inr (zxJ _))).set ⟨w.heap.size,3,none⟩ _ (.inr (zxJ _))
theorem zky(h:MAt w mb wb fv m)(ha:m.s.nodeAt 0=some (a,y)){v:Int}(h0:y%16=0)(hv:m.s.ws[a+1]?=some v):
  Calls Tryz.prog 48 #[.pointer (some ⟨mb,0,none⟩)] w fun e w'=>e=.returned (ziH 1 v 0 0)/\Fr (fun _=>False) w w':=by
 obtain ⟨hx,hh⟩:=Sto.zaO ha;obtain ⟨hy,hy0,hy1,hal⟩:=Sto.zaT hh;have hal':(a:Int)<(m.s.ws.length:Int):=by omega
 have hlen:=h.sat.len;have CA:=zab (fun (W:World) (hW:MAt W mb wb fv m)=>zaz (d:=0) hW.sat _ hx);have CK:=zab (fun W:World=>za2 y W hy0 hy1);have HH:=zab h;have HY:=zab hy;rw[h0]at CK;have HV:=zab hv;have hal2:(a:Int)+1<(m.s.ws.length:Int):=by have:=(zxH.1 hv).1;omega
 clear h0 hv;clear h ha hx hy hh hy0 hy1 hal;go_enter Tryz.func48,Tryz.ntmps48
 go_wp2_with fail
 have HB:=zab (Blk.new w [.int .i64 0,.int .i64 0,.int .i64 0,.int .i64 0] 35);refine (CA.o _ (HH.o.alloc _)).mono ?_;rintro e w1 ⟨rfl,k1,hw1⟩;have H1:Hid (MAt w1 mb wb fv m):=zab (by rw[hw1];exact (HH.o.alloc _).drewN k1);have B1:Hid (Blk w1 w.heap.size [.int .i64 0,.int .i64 0,.int .i64 0,.int .i64 0] 35):=zab (by rw[hw1];exact HB.o);have F1:Hid (Fr (fun _=>False) w w1):=zab (by rw[hw1];exact ((Fr.refl _ _).alloc _).drewN k1);clear hw1 HB;have c0:=H1.o.sat.c0;have cy:=H1.o.sat.word HY.o;have hbm:w.heap.size≠mb:=by have:=HH.o.sat.blk.lt;omega
 have q0:=Blk.cell B1.o 0;have q1:=Blk.cell B1.o 1;have q2:=Blk.cell B1.o 2;have q3:=Blk.cell B1.o 3;simp at q0 q1 q2 q3;have g0:=Blk.frozen B1.o 0;have g1:=Blk.frozen B1.o 1;have g2:=Blk.frozen B1.o 2;have g3:=Blk.frozen B1.o 3;go_wp2_with fail
 refine (CK.o _).mono ?_;rintro e w2 ⟨rfl,hw2⟩;subst w2;have cv:=H1.o.sat.word HV.o;go_wp2_with fail
 have FIN:=(((B1.o.set 0 (.int .i64 1)).set 1 (.int .i64 v)).set 2 (.int .i64 0)).set 3 (.int .i64 0);have p0:=Blk.cell FIN 0;have p1:=Blk.cell FIN 1;have p2:=Blk.cell FIN 2;have p3:=Blk.cell FIN 3;simp at p0 p1 p2 p3;refine bodyPost_ret (by simp[results,Tryz.results48,go_sem,p0,p1,p2,p3];rfl) rfl ⟨rfl,?_⟩;exact (((F1.o.set ⟨w.heap.size,0,none⟩ _ (.inr (zxJ _))).set ⟨w.heap.size,1,none⟩ _ (.inr (zxJ _))).set ⟨w.heap.size,2,none⟩ _ (.inr (zxJ _))).set ⟨w.heap.size,3,none⟩ _ (.inr (zxJ _))
theorem znG(h:MAt w mb wb fv m)(ha:m.s.nodeAt 0=some (a,y))(h0:y%16=1):
  Calls Tryz.prog 48 #[.pointer (some ⟨mb,0,none⟩)] w fun e w'=>e=.returned (ziH 2 0 (y/65536) (y/16%4096))/\Fr (fun _=>False) w w':=by
 obtain ⟨hx,hh⟩:=Sto.zaO ha;obtain ⟨hy,hy0,hy1,hal⟩:=Sto.zaT hh;have hal':(a:Int)<(m.s.ws.length:Int):=by omega
 have hlen:=h.sat.len;have CA:=zab (fun (W:World) (hW:MAt W mb wb fv m)=>zaz (d:=0) hW.sat _ hx);have CK:=zab (fun W:World=>za2 y W hy0 hy1);have HH:=zab h;have HY:=zab hy;rw[h0]at CK;have CW:=zab (fun W:World=>zbu y W hy0 hy1);have CC:=zab (fun W:World=>za3 y W hy0 hy1);generalize y/65536=tg at CW ⊢;generalize y/16%4096=ct at CC ⊢;clear h0;clear h ha hx hy hh hy0 hy1 hal;go_enter Tryz.func48,Tryz.ntmps48
 go_wp2_with fail
 have HB:=zab (Blk.new w [.int .i64 0,.int .i64 0,.int .i64 0,.int .i64 0] 35);refine (CA.o _ (HH.o.alloc _)).mono ?_;rintro e w1 ⟨rfl,k1,hw1⟩;have H1:Hid (MAt w1 mb wb fv m):=zab (by rw[hw1];exact (HH.o.alloc _).drewN k1);have B1:Hid (Blk w1 w.heap.size [.int .i64 0,.int .i64 0,.int .i64 0,.int .i64 0] 35):=zab (by rw[hw1];exact HB.o);have F1:Hid (Fr (fun _=>False) w w1):=zab (by rw[hw1];exact ((Fr.refl _ _).alloc _).drewN k1);clear hw1 HB;have c0:=H1.o.sat.c0;have cy:=H1.o.sat.word HY.o;have hbm:w.heap.size≠mb:=by have:=HH.o.sat.blk.lt;omega
 have q0:=Blk.cell B1.o 0;have q1:=Blk.cell B1.o 1;have q2:=Blk.cell B1.o 2;have q3:=Blk.cell B1.o 3;simp at q0 q1 q2 q3;have g0:=Blk.frozen B1.o 0;have g1:=Blk.frozen B1.o 1;have g2:=Blk.frozen B1.o 2;have g3:=Blk.frozen B1.o 3;go_wp2_with fail
 refine (CK.o _).mono ?_;rintro e w2 ⟨rfl,hw2⟩;subst w2;go_wp2_with fail
 refine (CW.o _).mono ?_;rintro e w3 ⟨rfl,hw3⟩;subst w3;go_wp2_with fail
 refine (CC.o _).mono ?_;rintro e w3 ⟨rfl,hw3⟩;subst w3;go_wp2_with fail
 have FIN:=(((B1.o.set 0 (.int .i64 2)).set 1 (.int .i64 0)).set 2 (.int .i64 tg)).set 3 (.int .i64 ct);have p0:=Blk.cell FIN 0;have p1:=Blk.cell FIN 1;have p2:=Blk.cell FIN 2;have p3:=Blk.cell FIN 3;simp at p0 p1 p2 p3;refine bodyPost_ret (by simp[results,Tryz.results48,go_sem,p0,p1,p2,p3];rfl) rfl ⟨rfl,?_⟩;exact (((F1.o.set ⟨w.heap.size,0,none⟩ _ (.inr (zxJ _))).set ⟨w.heap.size,1,none⟩ _ (.inr (zxJ _))).set ⟨w.heap.size,2,none⟩ _ (.inr (zxJ _))).set ⟨w.heap.size,3,none⟩ _ (.inr (zxJ _))
def Sto.fill (s:Sto) (x:Int):Nat->Option Sto
 |0=>some s
 |k+1=>if s.free<s.ws.length then Sto.fill { s with ws:=s.ws.set s.free x,free:=s.free+1 } x k else none
def MSt.zjh (m:MSt) (hd:Int) (c:Nat):Option (Except Nat MSt):=aft (m.zdC (c+2)) fun m1=>
 m1.put ((m1.s.node hd []).bind fun s=>(s.fill m1.s.free c).bind fun q=>q.push m1.s.free)
theorem zo0{r:Except Nat MSt}(h:MAt w mb wb fv m){hd:Int}{c:Nat}(hcb:c<=1000000)(hc:m.zjh hd c=some r):
  Calls Tryz.prog 134 #[.pointer (some ⟨mb,0,none⟩),.int .i64 hd,.int .i64 c] w fun e w'=>Ends w mb wb fv r e w':=by
 unfold MSt.zjh aft at hc;split at hc
 ·cases hc
 ·next k hn=>
  obtain rfl:=zxQ hc;have CN:=zab (zaV h hn);simp only[zym,zyF]at CN;clear h hn hc;go_enter Tryz.func134,Tryz.ntmps134
  go_wp2_with fail
  refine CN.o.mono ?_;rintro e w1 ⟨f1,rfl,h1⟩;exact ⟨rfl,f1,rfl,h1⟩
 ·next m1 hn=>
  have CN:=zab (zaV h hn);simp only[zym,zyF]at CN;simp only[MSt.put,zxT,zxM]at hc;obtain ⟨s4,⟨s2,hnode,s3,hfill,hpush⟩,rfl⟩:=hc;have HN:=zab hnode;have HF:=zab hfill;have HPu:=zab hpush;obtain ⟨x,hx⟩:∃ x,m1.s.free=x:=⟨_,rfl⟩;rw[hx]at HF HPu;have HX:=zab hx;clear h hn hnode hfill hpush hx;go_enter Tryz.func134,Tryz.ntmps134
  go_wp2_with fail
  refine CN.o.mono ?_;rintro e w1 ⟨f1,rfl,h1⟩;have F1:=zab f1;have H1:=zab h1;clear f1 h1 CN;have CD:=zab (Sto.zd7 (sp:=none) (cp:=0) H1.o.sat HN.o (fun h0=>absurd h0 (by simp)));rw[HX.o]at CD;go_wp2_with fail
  refine CD.o.mono ?_;rintro e w2 ⟨rfl,h2,f2⟩;have H2:=zab h2;have F2:=zab f2;clear h2 f2 CD;go_wp2_with fail
  go_loopg [17] c (fun gk av wr=>∃ (j:Nat) (q:Sto),av=.int .i64 j/\j+gk=c/\SAt wr mb wb (zec m1.o fv) q/\q.fill x gk=some s3/\Fr (M2 mb wb) w1 wr)
  case atStart=>exact ⟨0,s2,rfl,by omega,H2.o,HF.o,F2.o⟩
  case round=>
   obtain ⟨j,q,rfl,hj,hq,hfl,hfr⟩:=hrel;cases gk with
   |zero=>
    have HQ:Hid (SAt wr mb wb (zec m1.o fv) s3):=zab (by rw[<-zxQ hfl];exact hq);have HFR:=zab hfr;have hjc:¬ (j:Int)<(c:Int):=by omega
    clear hq hfl hfr;go_wp2_with fail
    refine (Sto.zb3 HQ.o HPu.o).mono ?_;rintro e w5 ⟨rfl,h5,f5⟩;have H5:=zab h5;have F5:=zab (HFR.o.trans f5);clear h5 f5;go_wp2_with fail
    first|go_end0|refine bodyPost_ret (results_none rfl _ _ _) rfl ?_
    exact ⟨F1.o.trans (F5.o.zcW fv),rfl,H1.o.fr2 H5.o F5.o⟩
   |succ g=>
    rw[Sto.fill]at hfl;split at hfl
    ·next hlt=>
     obtain ⟨ws,hf,lo,fr,tp⟩:=q;simp only at hlt hfl;have hjc:(j:Int)<(c:Int):=by omega
     have c0:=hq.c0;have c3:=hq.c3;have cw:=hq.zi6 (i:=fr) hlt;have cf:=hq.zey.frozen fr;have hoth:=zcg hq.ne;simp only at c0 c3 cw;have hb1:(fr:Int)<(ws.length:Int):=by omega
     have hb2:(0:Int)<=(fr:Int):=by omega
     have hlen:ws.length<=1000000:=hq.len;have HQ:=zab hq;have HFR:=zab hfr;have HFL:=zab hfl;clear hq hfl hfr;go_wp2_with fail
     go_region_held3 (fun W=>W.cell? ⟨mb,0,none⟩=some (.slice (some ⟨wb,0,none⟩) ws.length ws.length)/\W.cell? ⟨mb,3,none⟩=some (.int .i64 fr)) (go_keep) (fail)
     all_goals
      have H5:=zab (HQ.o.zcB fr x).drew;have F5:Hid (Fr (M2 mb wb) w1 ((wr.setCell ⟨wb,fr,none⟩ (.int .i64 x)).drew)):=zab (HFR.o.set _ _ (.inl (.inr rfl))).drew;generalize (wr.setCell ⟨wb,fr,none⟩ (.int .i64 x)).drew=w5 at H5 F5;clear c0 c3 cw cf;have d3:=H5.o.c3;have df:=H5.o.blk.frozen 3;simp only at d3;go_wp2_with fail
      go_roundg g
      case measure=>omega
      case rel=>
       refine ⟨j+1,_,by go_num,by omega,H5.o.zke (fr+1) (by omega),HFL.o,?_⟩;exact F5.o.set _ _ (.inl (.inl rfl))
    ·cases hfl
theorem zwA:(Tryz.prog.info? 2).map (fun i=>(i.size,i.bytes,i.zero))=some (1,8,some (.int .i64 0)):=by kernel_rfl
theorem zxq(n:Nat):madeCells (Value.cells (.int .i64 0)) n=(zdF (List.replicate n 0)).toArray:=by
 apply Array.ext
 ·simp[madeCells,zdF]
 ·intro i h1 h2;simp[madeCells,zdF,Value.cells,Nat.mod_one]
theorem ziN{n:Nat}(hn:n<=1000000)(W:World):(Instr.makeSlice 76 (.int .i64 (n:Int)) (.int .i64 (n:Int))).run Tryz.prog W=.ok (.slice (some ⟨W.heap.size,0,none⟩) n n) (W.alloc (.cells (zdF (List.replicate n 0)).toArray 2)):=by
 obtain ⟨i,hi,he⟩:=zxT.1 zwA;simp only[zyH]at he;obtain ⟨h1,h2,h3⟩:=he;have:=run_make (P:=Tryz.prog) W 76 2 i (.int .i64 0) Tryz.underlying76 hi h3 .i64 .i64 n n (by omega) (by omega) (by rw[h2];omega) (by omega);rw[this,h1,zxY,zzn,zxq]
theorem zh8{n:Nat}(hn:n<=1000000):
  Calls Tryz.prog 44 #[.int .i64 n] w fun e w'=>e=.returned (.agg #[.slice (some ⟨w.heap.size+1,0,none⟩) n n,.int .i64 ((n:Int)/2),.int .i64 0,.int .i64 0,.int .i64 ((n:Int)/2)])/\Blk w' (w.heap.size+1) (zdF (List.replicate n 0)) 2/\Fr (fun _=>False) w w':=by
 have hb:(n:Int)<=1000000:=by omega
 have hb0:(0:Int)<=(n:Int):=by omega
 have HM:=ziN hn;obtain ⟨vs,hvs⟩:∃ vs,zdF (List.replicate n 0)=vs:=⟨_,rfl⟩;rw[hvs]at HM ⊢;clear hvs;go_enter Tryz.func44,Tryz.ntmps44
 go_wp2_with fail
 generalize (n:Int)/2=q;have FIN:=(Blk.new w [.slice (some ⟨w.heap.size+1,0,none⟩) n n,.int .i64 q,.int .i64 0,.int .i64 0,.int .i64 q] 78).alloc (.cells vs.toArray 2);have BV:=Blk.new (w.alloc (.cells #[.slice (some ⟨w.heap.size+1,0,none⟩) n n,.int .i64 q,.int .i64 0,.int .i64 0,.int .i64 q] 78)) vs 2;rw[show (w.alloc (.cells #[.slice (some ⟨w.heap.size+1,0,none⟩) n n,.int .i64 q,.int .i64 0,.int .i64 0,.int .i64 q] 78)).heap.size=w.heap.size+1 by simp]at BV;have p0:=Blk.cell FIN 0;have p1:=Blk.cell FIN 1;have p2:=Blk.cell FIN 2;have p3:=Blk.cell FIN 3;have p4:=Blk.cell FIN 4;simp only[zyh,zyP]at p0 p1 p2 p3 p4;refine bodyPost_ret (by simp[results,Tryz.results44,go_sem,p0,p1,p2,p3,p4]) rfl ⟨rfl,BV,((Fr.refl _ _).alloc _).alloc _⟩
end Go.Proofs.YtgahgkddaljmkaaGreatDoor
