/- Mach19 .. Mach23 -/
import Derived.Test.YtgahgkddaljmkaaGreatDoorW4
set_option maxRecDepth 100000
set_option maxHeartbeats 4000000
namespace Go.Proofs.YtgahgkddaljmkaaGreatDoor
open Tryz
open Go.RowKit
attribute [local go_sem ↓] Go.wp_at_zero Go.wp_at_succ
def MSt.called (m:MSt) (lk lf:Nat):Option MSt:=
 match m.s.nodeAt 0 with
 |none=>none
 |some (a,_)=>
  match m.s.pop 2 with
  |none=>none
  |some s2=>
   match (if lf=0 then some s2 else s2.leave lk lf) with
   |none=>none
   |some s3=>
    match s3.head a with
    |none=>none
    |some y2=>if s3.ws.length<a+1+cnt y2 then none else
     match s3.zek (s3.words (a+1) (cnt y2)) with
     |none=>none
     |some s4=>
      match s4.head a with
      |none=>none
      |some y3=>some { m with s:=s4,o:={ m.o with next:=y3/65536 } }
def MSt.call (m:MSt) (lk lf:Nat):Option (Except Nat MSt):=
 match m.s.nodeAt 0 with
 |none=>none
 |some (_,y)=>aft (m.zdI (cnt y)) fun m1=>(m1.called lk lf).map .ok
variable {w:World}
variable {mb wb:Nat}
variable {fv:Value}
variable {m:MSt}
variable {a lk lf:Nat}
variable {y:Int}
theorem zvf{k:Nat}(h:MAt w mb wb fv m)(ha:m.s.nodeAt 0=some (a,y))(hn:m.zdI (cnt y)=some (.error k)):
  Calls prog 256 #[.pointer (some ⟨mb,0,none⟩),.int .i64 lk,.int .i64 lf] w fun e w'=>Ends w mb wb fv (.error k) e w':=by
 obtain ⟨hx,hh⟩:=Sto.zaP ha;obtain ⟨hy,aT,bE,aU⟩:=Sto.zaU hh;have c0:=h.sat.c0;have eo:(a:Int)<(m.s.ws.length:Int):=by omega
 have CC:=zab (fun W:World=>za3 y W aT bE);rw[zh9 aT]at CC;have aN:=zf2 y;have CA:=zab (fun (W:World) (hW:MAt W mb wb fv m)=>zaA (d:=0) hW.sat _ hx);have HH:=zab h;have HY:=zab hy;have CN:=zab (fun (W:World) (hW:MAt W mb wb fv m)=>zaW hW hn);generalize cnt y=c at *;clear h ha hx hy hh hn aT bE aU;go_enter func256,ntmps256
 go_wp2_with fail
 refine wp_region_held_drew (S:=fun W=>W.cell? ⟨mb,0,none⟩=some (.slice (some ⟨wb,0,none⟩) m.s.ws.length m.s.ws.length)) (by kernel_rfl) HH.o.sat.drew.c0 (fun ax=>?_);refine wpAnyH_take (i:=0) (v:=?_) rfl (by kernel_rfl) (by kernel_rfl) (by kernel_rfl) (fun _ _ _ h=>h) (Or.inl ⟨by rfl,?_⟩) (by assumption) ?_
 rotate_left 1
 ·(intro w al;(try dsimp only at al);go_simp;try with_reducible rfl)
 try simp only[Act.put,zyO]
 refine wpAnyH_take (i:=1) (v:=?_) rfl (by kernel_rfl) (by kernel_rfl) (by kernel_rfl) (fun _ _ _ h=>h) (Or.inl ⟨by rfl,?_⟩) (by assumption) ?_
 rotate_left 1
 ·(intro w al;(try dsimp only at al);go_simp;try with_reducible rfl)
 try simp only[Act.put]
 refine wpAnyH_take (i:=2) (v:=?_) rfl (by kernel_rfl) (by kernel_rfl) (by kernel_rfl) (fun _ _ _ h=>h) (Or.inl ⟨by rfl,?_⟩) (by assumption) ?_
 rotate_left 1
 ·(intro w al;(try dsimp only at al);go_simp;try with_reducible rfl)
 try simp only[Act.put]
 refine wpAnyH_take (i:=3) (v:=?_) rfl (by kernel_rfl) (by kernel_rfl) (by kernel_rfl) (fun _ _ _ h=>h) (Or.inl ⟨by rfl,?_⟩) (by assumption) ?_
 rotate_left 1
 ·(intro w al;(try dsimp only at al);go_simp;try with_reducible rfl)
 try simp only[Act.put]
 refine wpAnyH_take (i:=4) (v:=?_) rfl (by kernel_rfl) (by kernel_rfl) (by kernel_rfl) (fun _ _ _ h=>h) (Or.inl ⟨by rfl,?_⟩) (by assumption) ?_
 rotate_left 1
 ·(intro w al;(try dsimp only at al);go_simp;try with_reducible rfl)
 try simp only[Act.put]
 refine wpAnyH_take (i:=5) (v:=?_) rfl (by kernel_rfl) (by kernel_rfl) (by kernel_rfl) (fun _ _ _ h=>h) (Or.inl ⟨by rfl,?_⟩) (by assumption) ?_
 rotate_left 1
 ·(intro w al;(try dsimp only at al);go_simp;try with_reducible rfl)
 try simp only[Act.put]
 refine wpAnyH_take (i:=6) (v:=?_) rfl (by kernel_rfl) (by kernel_rfl) (by kernel_rfl) (fun _ _ _ h=>h) (Or.inl ⟨by rfl,?_⟩) (by assumption) ?_
 rotate_left 1
 ·(intro w al;(try dsimp only at al);go_simp;try with_reducible rfl)
 try simp only[Act.put]
 refine wpAnyH_take (i:=7) (v:=?_) rfl (by kernel_rfl) (by kernel_rfl) (by kernel_rfl) (fun _ _ _ h=>h) (Or.inl ⟨by rfl,?_⟩) (by assumption) ?_
 rotate_left 1
 ·(intro w al;(try dsimp only at al);go_simp;try with_reducible rfl)
 try simp only[Act.put]
 refine wpAnyH_take (i:=8) (v:=?_) rfl (by kernel_rfl) (by kernel_rfl) (by kernel_rfl) (fun _ _ _ h=>h) (Or.inl ⟨by rfl,?_⟩) (by assumption) ?_
 rotate_left 1
 ·(intro w al;(try dsimp only at al);go_simp;try with_reducible rfl)
 try simp only[Act.put]
 refine wpAnyH_ready (rs:=[9]) (by kernel_rfl) (by simp) ?_;refine AllReadyH.cons rfl (fun K hK=>?_) AllReadyH.nil
 go_simp
 refine (CA.o _ (HH.o.drewN 1)).mono ?_;rintro e w2 ⟨rfl,k2,aB⟩;have H2:Hid (MAt w2 mb wb fv m):=zab (by rw[aB];exact (HH.o.drewN 1).drewN k2);have F2:Hid (Fr (MB mb wb fv) w w2):=zab (by rw[aB];exact (Fr.refl _ _).drew.drewN k2);have d0:=H2.o.sat.c0;have dy:=H2.o.sat.word HY.o;clear aB;refine hK.out _ _ d0 (fun ax=>?_);clear hK K
 try simp only[Act.put,zyO,zyZ,zyW]
 refine wpAnyH_take (i:=10) (v:=?_) rfl (by kernel_rfl) (by kernel_rfl) (by kernel_rfl) (fun _ _ _ h=>h) (Or.inl ⟨by rfl,?_⟩) (by assumption) ?_
 rotate_left 1
 ·(intro w al;(try dsimp only at al);go_simp;try with_reducible rfl)
 try simp only[Act.put,zyO]
 refine wpAnyH_ready (rs:=[11]) (by kernel_rfl) (by simp) ?_;refine AllReadyH.cons rfl (fun K hK=>?_) AllReadyH.nil
 go_simp
 refine hK.out _ _ d0 (fun ax=>?_);clear hK K
 try simp only[Act.put,zyO,zyZ,zyW]
 refine wpAnyH_ready (rs:=[12]) (by kernel_rfl) (by simp) ?_;refine AllReadyH.cons rfl (fun K hK=>?_) AllReadyH.nil
 go_simp
 refine (CC.o _).mono ?_;rintro e w3 ⟨rfl,bL⟩;subst w3;refine hK.out _ _ d0 (fun ax=>?_);clear hK K
 try simp only[Act.put,zyO,zyZ,zyW]
 refine wpAnyH_ready (rs:=[13]) (by kernel_rfl) (by simp) ?_;refine AllReadyH.cons rfl (fun K hK=>?_) AllReadyH.nil
 go_simp
 refine (CN.o _ H2.o).mono ?_;rintro e w4 ⟨f4,rfl,h4⟩;exact ⟨rfl,F2.o.trans f4,rfl,h4⟩
theorem zvg{m1:MSt}{a1:Nat}{y1 y2 y3:Int}{s2 s3 s4:Sto}(h:MAt w mb wb fv m)(ha:m.s.nodeAt 0=some (a,y))(hn:m.zdI (cnt y)=some (.ok m1))(gm:m1.s.nodeAt 0=some (a1,y1))(jt:m1.s.pop 2=some s2)(hle:s2=s3)(kZ:s3.head a1=some y2)(aJ:a1+1+cnt y2<=s3.ws.length)(js:s3.zek (s3.words (a1+1) (cnt y2))=some s4)(ld:s4.head a1=some y3):
  Calls prog 256 #[.pointer (some ⟨mb,0,none⟩),.int .i64 lk,.int .i64 0] w fun e w'=>Ends w mb wb fv (.ok { m1 with s:=s4,o:={ m1.o with next:=y3/65536 } }) e w':=by
 obtain ⟨hx,hh⟩:=Sto.zaP ha;obtain ⟨hy,aT,bE,aU⟩:=Sto.zaU hh;have c0:=h.sat.c0;have eo:(a:Int)<(m.s.ws.length:Int):=by omega
 have CC:=zab (fun W:World=>za3 y W aT bE);rw[zh9 aT]at CC;have aN:=zf2 y;have CA:=zab (fun (W:World) (hW:MAt W mb wb fv m)=>zaA (d:=0) hW.sat _ hx);have HH:=zab h;have HY:=zab hy;have CN:=zab (fun (W:World) (hW:MAt W mb wb fv m)=>zaW hW hn);have pL:=zab (zmx hn);obtain ⟨ee,_⟩:=Sto.zaP gm;obtain ⟨lL,iS,iT,ji⟩:=Sto.zaU kZ;obtain ⟨oi,iU,iV,kN⟩:=Sto.zaU ld;have eR:=zab ee;have kE:=zab jt;have vI:=zab hle;have gE:=zab (And.intro lL (And.intro iS (And.intro iT aJ)));have oB:=zab js;have pO:=zab oi;have CW:=zab (fun W:World=>zbw y3 W iU iV);have rO:(a1:Int)<(s4.ws.length:Int):=by omega
 obtain ⟨nx,gx⟩:∃ nx,y3/65536=nx:=⟨_,rfl⟩;rw[gx]at CW ⊢;generalize cnt y=c at *;clear h ha hx hy hh hn aT bE aU gm ee kZ lL iS iT ji aJ jt js ld oi iU iV kN gx hle;go_enter func256,ntmps256
 go_wp2_with fail
 refine wp_region_held_drew (S:=fun W=>W.cell? ⟨mb,0,none⟩=some (.slice (some ⟨wb,0,none⟩) m.s.ws.length m.s.ws.length)) (by kernel_rfl) HH.o.sat.drew.c0 (fun ax=>?_);refine wpAnyH_take (i:=0) (v:=?_) rfl (by kernel_rfl) (by kernel_rfl) (by kernel_rfl) (fun _ _ _ h=>h) (Or.inl ⟨by rfl,?_⟩) (by assumption) ?_
 rotate_left 1
 ·(intro w al;(try dsimp only at al);go_simp;try with_reducible rfl)
 try simp only[Act.put,zyO]
 refine wpAnyH_take (i:=1) (v:=?_) rfl (by kernel_rfl) (by kernel_rfl) (by kernel_rfl) (fun _ _ _ h=>h) (Or.inl ⟨by rfl,?_⟩) (by assumption) ?_
 rotate_left 1
 ·(intro w al;(try dsimp only at al);go_simp;try with_reducible rfl)
 try simp only[Act.put]
 refine wpAnyH_take (i:=2) (v:=?_) rfl (by kernel_rfl) (by kernel_rfl) (by kernel_rfl) (fun _ _ _ h=>h) (Or.inl ⟨by rfl,?_⟩) (by assumption) ?_
 rotate_left 1
 ·(intro w al;(try dsimp only at al);go_simp;try with_reducible rfl)
 try simp only[Act.put]
 refine wpAnyH_take (i:=3) (v:=?_) rfl (by kernel_rfl) (by kernel_rfl) (by kernel_rfl) (fun _ _ _ h=>h) (Or.inl ⟨by rfl,?_⟩) (by assumption) ?_
 rotate_left 1
 ·(intro w al;(try dsimp only at al);go_simp;try with_reducible rfl)
 try simp only[Act.put]
 refine wpAnyH_take (i:=4) (v:=?_) rfl (by kernel_rfl) (by kernel_rfl) (by kernel_rfl) (fun _ _ _ h=>h) (Or.inl ⟨by rfl,?_⟩) (by assumption) ?_
 rotate_left 1
 ·(intro w al;(try dsimp only at al);go_simp;try with_reducible rfl)
 try simp only[Act.put]
 refine wpAnyH_take (i:=5) (v:=?_) rfl (by kernel_rfl) (by kernel_rfl) (by kernel_rfl) (fun _ _ _ h=>h) (Or.inl ⟨by rfl,?_⟩) (by assumption) ?_
 rotate_left 1
 ·(intro w al;(try dsimp only at al);go_simp;try with_reducible rfl)
 try simp only[Act.put]
 refine wpAnyH_take (i:=6) (v:=?_) rfl (by kernel_rfl) (by kernel_rfl) (by kernel_rfl) (fun _ _ _ h=>h) (Or.inl ⟨by rfl,?_⟩) (by assumption) ?_
 rotate_left 1
 ·(intro w al;(try dsimp only at al);go_simp;try with_reducible rfl)
 try simp only[Act.put]
 refine wpAnyH_take (i:=7) (v:=?_) rfl (by kernel_rfl) (by kernel_rfl) (by kernel_rfl) (fun _ _ _ h=>h) (Or.inl ⟨by rfl,?_⟩) (by assumption) ?_
 rotate_left 1
 ·(intro w al;(try dsimp only at al);go_simp;try with_reducible rfl)
 try simp only[Act.put]
 refine wpAnyH_take (i:=8) (v:=?_) rfl (by kernel_rfl) (by kernel_rfl) (by kernel_rfl) (fun _ _ _ h=>h) (Or.inl ⟨by rfl,?_⟩) (by assumption) ?_
 rotate_left 1
 ·(intro w al;(try dsimp only at al);go_simp;try with_reducible rfl)
 try simp only[Act.put]
 refine wpAnyH_ready (rs:=[9]) (by kernel_rfl) (by simp) ?_;refine AllReadyH.cons rfl (fun K hK=>?_) AllReadyH.nil
 go_simp
 refine (CA.o _ (HH.o.drewN 1)).mono ?_;rintro e w2 ⟨rfl,k2,aB⟩;have H2:Hid (MAt w2 mb wb fv m):=zab (by rw[aB];exact (HH.o.drewN 1).drewN k2);have F2:Hid (Fr (MB mb wb fv) w w2):=zab (by rw[aB];exact (Fr.refl _ _).drew.drewN k2);have d0:=H2.o.sat.c0;have dy:=H2.o.sat.word HY.o;clear aB;refine hK.out _ _ d0 (fun ax=>?_);clear hK K
 try simp only[Act.put,zyO,zyZ,zyW]
 refine wpAnyH_take (i:=10) (v:=?_) rfl (by kernel_rfl) (by kernel_rfl) (by kernel_rfl) (fun _ _ _ h=>h) (Or.inl ⟨by rfl,?_⟩) (by assumption) ?_
 rotate_left 1
 ·(intro w al;(try dsimp only at al);go_simp;try with_reducible rfl)
 try simp only[Act.put,zyO]
 refine wpAnyH_ready (rs:=[11]) (by kernel_rfl) (by simp) ?_;refine AllReadyH.cons rfl (fun K hK=>?_) AllReadyH.nil
 go_simp
 refine hK.out _ _ d0 (fun ax=>?_);clear hK K
 try simp only[Act.put,zyO,zyZ,zyW]
 refine wpAnyH_ready (rs:=[12]) (by kernel_rfl) (by simp) ?_;refine AllReadyH.cons rfl (fun K hK=>?_) AllReadyH.nil
 go_simp
 refine (CC.o _).mono ?_;rintro e w3 ⟨rfl,bL⟩;subst w3;refine hK.out _ _ d0 (fun ax=>?_);clear hK K
 try simp only[Act.put,zyO,zyZ,zyW]
 refine wpAnyH_ready (rs:=[13]) (by kernel_rfl) (by simp) ?_;refine AllReadyH.cons rfl (fun K hK=>?_) AllReadyH.nil
 go_simp
 refine (CN.o _ H2.o).mono ?_;rintro e w4 ⟨f4,rfl,h4⟩;have H4:=zab h4;have F4:=zab (F2.o.trans f4);have g0:w4.cell? ⟨mb,0,none⟩=some (.slice (some ⟨wb,0,none⟩) m.s.ws.length m.s.ws.length):=by rw[h4.sat.c0,pL.o]
 clear h4 f4;refine hK.out _ _ g0 (fun ax=>?_);clear hK K
 try simp only[Act.put,zyO,zyZ,zyW]
 refine wpAnyH_done (by kernel_rfl) ?_ _;clear c0 d0 dy g0;go_wp2_with fail
 refine (zaA (d:=0) H4.o.sat _ eR.o).mono ?_;rintro e w5 ⟨rfl,k5,dK⟩;have H5:Hid (MAt w5 mb wb fv m1):=zab (by rw[dK];exact H4.o.drewN k5);have F5:Hid (Fr (MB mb wb fv) w w5):=zab (by rw[dK];exact F4.o.drewN k5);clear dK;go_wp2_with fail
 refine (Sto.zbQ (c:=2) H5.o.sat kE.o).mono ?_;rintro e w6 ⟨rfl,h6,f6⟩;have H7:Hid (SAt w6 mb wb (zeu m1.o fv) s3):=zab (by rw[<-vI.o];exact h6);have F7:=zab f6;clear h6 f6;generalize w6=w7 at H7 F7;go_wp2_with fail
 go_region_held3 (fun _=>True) (trivial) (first
  |(go_at_call 135;refine (zcA H7.o.drew a1 y2 gE.o.1 gE.o.2.1 gE.o.2.2.1 gE.o.2.2.2).mono ?_;rintro e w8 ⟨rfl,k8,lJ⟩;have H8:Hid (SAt w8 mb wb (zeu m1.o fv) s3):=zab (by rw[lJ];exact H7.o.drew.drewN k8);have F8:Hid (Fr (M2 mb wb) w5 w8):=zab (by rw[lJ];exact F7.o.drew.drewN k8);clear lJ)
  |(go_at_call 201;refine (Sto.zel H8.o oB.o rfl gE.o.2.2.2 (fun h0=>zbT (by have:=gE.o.2.2.2;unfold cnt at h0 this;omega))).mono ?_;rintro e w9 ⟨rfl,h9,f9⟩;have H9:=zab h9;have F9:=zab (F8.o.trans f9);clear h9 f9))
 all_goals
  have e0:=H9.o.c0;have ey:=H9.o.word pO.o;have wG:=H9.o.c10;have ef:=H9.o.blk.frozen 10;go_wp2_with fail
  refine (CW.o _).mono ?_;rintro e pB ⟨rfl,tA⟩;subst pB;go_wp2_with fail
  first|go_end0|refine bodyPost_ret (results_none rfl _ _ _) rfl ?_
  have f12:Fr (M2 mb wb) w5 (w9.setCell ⟨mb,10,none⟩ (.int .i64 nx)):=F9.o.set _ _ (.inl (.inl rfl));exact ⟨F5.o.trans (f12.zc9 fv),rfl,H9.o.zgs nx,H5.o.fat.fr f12,H5.o.fl,H5.o.fuel⟩
theorem zvh{m1:MSt}{a1:Nat}{y1 y2 y3:Int}{s2 s3 s4:Sto}(h:MAt w mb wb fv m)(ha:m.s.nodeAt 0=some (a,y))(hn:m.zdI (cnt y)=some (.ok m1))(gm:m1.s.nodeAt 0=some (a1,y1))(jt:m1.s.pop 2=some s2)(hle:s2.leave lk lf=some s3)(kZ:s3.head a1=some y2)(aJ:a1+1+cnt y2<=s3.ws.length)(js:s3.zek (s3.words (a1+1) (cnt y2))=some s4)(ld:s4.head a1=some y3)(uM:0<lf):
  Calls prog 256 #[.pointer (some ⟨mb,0,none⟩),.int .i64 lk,.int .i64 lf] w fun e w'=>Ends w mb wb fv (.ok { m1 with s:=s4,o:={ m1.o with next:=y3/65536 } }) e w':=by
 obtain ⟨hx,hh⟩:=Sto.zaP ha;obtain ⟨hy,aT,bE,aU⟩:=Sto.zaU hh;have c0:=h.sat.c0;have eo:(a:Int)<(m.s.ws.length:Int):=by omega
 have CC:=zab (fun W:World=>za3 y W aT bE);rw[zh9 aT]at CC;have aN:=zf2 y;have CA:=zab (fun (W:World) (hW:MAt W mb wb fv m)=>zaA (d:=0) hW.sat _ hx);have HH:=zab h;have HY:=zab hy;have CN:=zab (fun (W:World) (hW:MAt W mb wb fv m)=>zaW hW hn);have pL:=zab (zmx hn);obtain ⟨ee,_⟩:=Sto.zaP gm;obtain ⟨lL,iS,iT,ji⟩:=Sto.zaU kZ;obtain ⟨oi,iU,iV,kN⟩:=Sto.zaU ld;have eR:=zab ee;have kE:=zab jt;have vI:=zab hle;have gE:=zab (And.intro lL (And.intro iS (And.intro iT aJ)));have oB:=zab js;have pO:=zab oi;have CW:=zab (fun W:World=>zbw y3 W iU iV);have rO:(a1:Int)<(s4.ws.length:Int):=by omega
 obtain ⟨nx,gx⟩:∃ nx,y3/65536=nx:=⟨_,rfl⟩;rw[gx]at CW ⊢;generalize cnt y=c at *;clear h ha hx hy hh hn aT bE aU gm ee kZ lL iS iT ji aJ jt js ld oi iU iV kN gx hle;have ER:(0:Int)<(lf:Int):=by omega
 go_enter func256,ntmps256
 go_wp2_with fail
 refine wp_region_held_drew (S:=fun W=>W.cell? ⟨mb,0,none⟩=some (.slice (some ⟨wb,0,none⟩) m.s.ws.length m.s.ws.length)) (by kernel_rfl) HH.o.sat.drew.c0 (fun ax=>?_);refine wpAnyH_take (i:=0) (v:=?_) rfl (by kernel_rfl) (by kernel_rfl) (by kernel_rfl) (fun _ _ _ h=>h) (Or.inl ⟨by rfl,?_⟩) (by assumption) ?_
 rotate_left 1
 ·(intro w al;(try dsimp only at al);go_simp;try with_reducible rfl)
 try simp only[Act.put,zyO]
 refine wpAnyH_take (i:=1) (v:=?_) rfl (by kernel_rfl) (by kernel_rfl) (by kernel_rfl) (fun _ _ _ h=>h) (Or.inl ⟨by rfl,?_⟩) (by assumption) ?_
 rotate_left 1
 ·(intro w al;(try dsimp only at al);go_simp;try with_reducible rfl)
 try simp only[Act.put]
 refine wpAnyH_take (i:=2) (v:=?_) rfl (by kernel_rfl) (by kernel_rfl) (by kernel_rfl) (fun _ _ _ h=>h) (Or.inl ⟨by rfl,?_⟩) (by assumption) ?_
 rotate_left 1
 ·(intro w al;(try dsimp only at al);go_simp;try with_reducible rfl)
 try simp only[Act.put]
 refine wpAnyH_take (i:=3) (v:=?_) rfl (by kernel_rfl) (by kernel_rfl) (by kernel_rfl) (fun _ _ _ h=>h) (Or.inl ⟨by rfl,?_⟩) (by assumption) ?_
 rotate_left 1
 ·(intro w al;(try dsimp only at al);go_simp;try with_reducible rfl)
 try simp only[Act.put]
 refine wpAnyH_take (i:=4) (v:=?_) rfl (by kernel_rfl) (by kernel_rfl) (by kernel_rfl) (fun _ _ _ h=>h) (Or.inl ⟨by rfl,?_⟩) (by assumption) ?_
 rotate_left 1
 ·(intro w al;(try dsimp only at al);go_simp;try with_reducible rfl)
 try simp only[Act.put]
 refine wpAnyH_take (i:=5) (v:=?_) rfl (by kernel_rfl) (by kernel_rfl) (by kernel_rfl) (fun _ _ _ h=>h) (Or.inl ⟨by rfl,?_⟩) (by assumption) ?_
 rotate_left 1
 ·(intro w al;(try dsimp only at al);go_simp;try with_reducible rfl)
 try simp only[Act.put]
 refine wpAnyH_take (i:=6) (v:=?_) rfl (by kernel_rfl) (by kernel_rfl) (by kernel_rfl) (fun _ _ _ h=>h) (Or.inl ⟨by rfl,?_⟩) (by assumption) ?_
 rotate_left 1
 ·(intro w al;(try dsimp only at al);go_simp;try with_reducible rfl)
 try simp only[Act.put]
 refine wpAnyH_take (i:=7) (v:=?_) rfl (by kernel_rfl) (by kernel_rfl) (by kernel_rfl) (fun _ _ _ h=>h) (Or.inl ⟨by rfl,?_⟩) (by assumption) ?_
 rotate_left 1
 ·(intro w al;(try dsimp only at al);go_simp;try with_reducible rfl)
 try simp only[Act.put]
 refine wpAnyH_take (i:=8) (v:=?_) rfl (by kernel_rfl) (by kernel_rfl) (by kernel_rfl) (fun _ _ _ h=>h) (Or.inl ⟨by rfl,?_⟩) (by assumption) ?_
 rotate_left 1
 ·(intro w al;(try dsimp only at al);go_simp;try with_reducible rfl)
 try simp only[Act.put]
 refine wpAnyH_ready (rs:=[9]) (by kernel_rfl) (by simp) ?_;refine AllReadyH.cons rfl (fun K hK=>?_) AllReadyH.nil
 go_simp
 refine (CA.o _ (HH.o.drewN 1)).mono ?_;rintro e w2 ⟨rfl,k2,aB⟩;have H2:Hid (MAt w2 mb wb fv m):=zab (by rw[aB];exact (HH.o.drewN 1).drewN k2);have F2:Hid (Fr (MB mb wb fv) w w2):=zab (by rw[aB];exact (Fr.refl _ _).drew.drewN k2);have d0:=H2.o.sat.c0;have dy:=H2.o.sat.word HY.o;clear aB;refine hK.out _ _ d0 (fun ax=>?_);clear hK K
 try simp only[Act.put,zyO,zyZ,zyW]
 refine wpAnyH_take (i:=10) (v:=?_) rfl (by kernel_rfl) (by kernel_rfl) (by kernel_rfl) (fun _ _ _ h=>h) (Or.inl ⟨by rfl,?_⟩) (by assumption) ?_
 rotate_left 1
 ·(intro w al;(try dsimp only at al);go_simp;try with_reducible rfl)
 try simp only[Act.put,zyO]
 refine wpAnyH_ready (rs:=[11]) (by kernel_rfl) (by simp) ?_;refine AllReadyH.cons rfl (fun K hK=>?_) AllReadyH.nil
 go_simp
 refine hK.out _ _ d0 (fun ax=>?_);clear hK K
 try simp only[Act.put,zyO,zyZ,zyW]
 refine wpAnyH_ready (rs:=[12]) (by kernel_rfl) (by simp) ?_;refine AllReadyH.cons rfl (fun K hK=>?_) AllReadyH.nil
 go_simp
 refine (CC.o _).mono ?_;rintro e w3 ⟨rfl,bL⟩;subst w3;refine hK.out _ _ d0 (fun ax=>?_);clear hK K
 try simp only[Act.put,zyO,zyZ,zyW]
 refine wpAnyH_ready (rs:=[13]) (by kernel_rfl) (by simp) ?_;refine AllReadyH.cons rfl (fun K hK=>?_) AllReadyH.nil
 go_simp
 refine (CN.o _ H2.o).mono ?_;rintro e w4 ⟨f4,rfl,h4⟩;have H4:=zab h4;have F4:=zab (F2.o.trans f4);have g0:w4.cell? ⟨mb,0,none⟩=some (.slice (some ⟨wb,0,none⟩) m.s.ws.length m.s.ws.length):=by rw[h4.sat.c0,pL.o]
 clear h4 f4;refine hK.out _ _ g0 (fun ax=>?_);clear hK K
 try simp only[Act.put,zyO,zyZ,zyW]
 refine wpAnyH_done (by kernel_rfl) ?_ _;clear c0 d0 dy g0;go_wp2_with fail
 refine (zaA (d:=0) H4.o.sat _ eR.o).mono ?_;rintro e w5 ⟨rfl,k5,dK⟩;have H5:Hid (MAt w5 mb wb fv m1):=zab (by rw[dK];exact H4.o.drewN k5);have F5:Hid (Fr (MB mb wb fv) w w5):=zab (by rw[dK];exact F4.o.drewN k5);clear dK;go_wp2_with fail
 refine (Sto.zbQ (c:=2) H5.o.sat kE.o).mono ?_;rintro e w6 ⟨rfl,h6,f6⟩;have H6:=zab h6;have F6:=zab f6;clear h6 f6;go_wp2_with fail
 refine (ztp H6.o vI.o).mono ?_;rintro e w7 ⟨rfl,h7,f7⟩;have H7:=zab h7;have F7:=zab (F6.o.trans f7);clear h7 f7;go_wp2_with fail
 go_region_held3 (fun _=>True) (trivial) (first
  |(go_at_call 135;refine (zcA H7.o.drew a1 y2 gE.o.1 gE.o.2.1 gE.o.2.2.1 gE.o.2.2.2).mono ?_;rintro e w8 ⟨rfl,k8,lJ⟩;have H8:Hid (SAt w8 mb wb (zeu m1.o fv) s3):=zab (by rw[lJ];exact H7.o.drew.drewN k8);have F8:Hid (Fr (M2 mb wb) w5 w8):=zab (by rw[lJ];exact F7.o.drew.drewN k8);clear lJ)
  |(go_at_call 201;refine (Sto.zel H8.o oB.o rfl gE.o.2.2.2 (fun h0=>zbT (by have:=gE.o.2.2.2;unfold cnt at h0 this;omega))).mono ?_;rintro e w9 ⟨rfl,h9,f9⟩;have H9:=zab h9;have F9:=zab (F8.o.trans f9);clear h9 f9))
 all_goals
  have e0:=H9.o.c0;have ey:=H9.o.word pO.o;have wG:=H9.o.c10;have ef:=H9.o.blk.frozen 10;go_wp2_with fail
  refine (CW.o _).mono ?_;rintro e pB ⟨rfl,tA⟩;subst pB;go_wp2_with fail
  first|go_end0|refine bodyPost_ret (results_none rfl _ _ _) rfl ?_
  have f12:Fr (M2 mb wb) w5 (w9.setCell ⟨mb,10,none⟩ (.int .i64 nx)):=F9.o.set _ _ (.inl (.inl rfl));exact ⟨F5.o.trans (f12.zc9 fv),rfl,H9.o.zgs nx,H5.o.fat.fr f12,H5.o.fl,H5.o.fuel⟩
theorem zve{r:Except Nat MSt}(h:MAt w mb wb fv m)(hb:m.call lk lf=some r):
  Calls prog 256 #[.pointer (some ⟨mb,0,none⟩),.int .i64 lk,.int .i64 lf] w fun e w'=>Ends w mb wb fv r e w':=by
 unfold MSt.call at hb;split at hb
 ·cases hb
 ·next a y ha=>
  unfold aft at hb;split at hb
  ·cases hb
  ·next k hn=>obtain rfl:=zyU hb;exact zvf h ha hn
  ·next m1 hn=>
   simp only[zyX]at hb;obtain ⟨m2,h2,rfl⟩:=hb;unfold MSt.called at h2;split at h2
   ·cases h2
   ·next a1 y1 gm=>
    split at h2
    ·cases h2
    ·next s2 jt=>
     split at h2
     ·cases h2
     ·next s3 hle=>
      split at h2
      ·cases h2
      ·next y2 kZ=>
       split at h2
       ·cases h2
       ·next aJ=>
        split at h2
        ·cases h2
        ·next s4 js=>
         split at h2
         ·cases h2
         ·next y3 ld=>
          obtain rfl:=zyU h2;by_cases hl:lf=0
          ·rw[if_pos hl]at hle;subst hl;exact zvg h ha hn gm jt (zyU hle) kZ (by omega) js ld
          ·rw[if_neg hl]at hle;exact zvh h ha hn gm jt hle kZ (by omega) js ld (by omega)
def MSt.zci (m:MSt) (c:Nat):Option MSt:=
 if 0<=m.o.below/\m.o.below+(c:Int)<=((m.s.low+m.s.half:Nat):Int)/\m.s.low+m.s.half<=m.s.ws.length/\m.s.top+c<=m.s.ws.length then
  some { m with s:={ m.s with top:=m.s.low+m.s.half-m.o.below.toNat-c,ws:=Go.splice m.s.ws (m.s.low+m.s.half-m.o.below.toNat-c) (m.s.words m.s.top c) } }
 else none
theorem zus{m':MSt}(h:MAt w mb wb fv m){c:Nat}(hs:m.zci c=some m'):
  Calls prog 139 #[.pointer (some ⟨mb,0,none⟩),.int .i64 c] w fun e w'=>Ends w mb wb fv (.ok m') e w':=by
 obtain ⟨⟨ws,hf,lo,fr,tp⟩,o,fns⟩:=m;unfold MSt.zci at hs;simp only at hs;split at hs
 ·next hg=>
  obtain rfl:=zyU hs;obtain ⟨b,hb⟩:∃ b:Nat,o.below=b:=⟨o.below.toNat,by omega⟩;rw[hb]at hg ⊢;simp only[zy2]at hg ⊢;have hlen:ws.length<=1000000:=h.sat.len;obtain ⟨i,hi⟩:∃ i,lo+hf-b-c=i:=⟨_,rfl⟩;rw[hi];have nP:lo+hf=i+c+b:=by omega
  have dk:(Sto.words ⟨ws,hf,lo,fr,tp⟩ tp c).length=c:=Sto.zcR (by simp only;omega);have lK:∀ (j:Nat) x,(Sto.words ⟨ws,hf,lo,fr,tp⟩ tp c)[j]?=some x->ws[tp+j]?=some x:=fun j x hj=>(Sto.zd7 hj).2
  generalize Sto.words ⟨ws,hf,lo,fr,tp⟩ tp c=xs at dk lK;have br:i+xs.length<=ws.length:=by omega
  have CS:=zab (zeZ h.sat c (by simp only;omega));have HH:=zab h;have uE:(lo:Int)+(hf:Int)-(b:Int)=(i:Int)+(c:Int):=by omega
  have CB:=zab (fun (W:World) (hW:MAt W mb wb fv ⟨⟨ws,hf,lo,fr,tp⟩,o,fns⟩)=>zlc hW (b:=b) hb (by omega));simp only[uE]at CB;have aA:(i:Int)<=(ws.length:Int):=by omega
  have aw:(0:Int)<=(i:Int):=by omega
  have bD:(i:Int)+(c:Int)<=1000000:=by omega
  have mD:=zab lK;have yb:0<c->cutAt ws.length tp=tp:=fun h0=>zbT (by omega)
  have HT:=zab yb;generalize cutAt ws.length tp=tq at CS yb HT;clear h hs hg hi nP uE lK yb hb;go_enter func139,ntmps139
  go_wp2_with fail
  refine CS.o.mono ?_;rintro e w1 ⟨rfl,k1,aD⟩;have H1:Hid (MAt w1 mb wb fv ⟨⟨ws,hf,lo,fr,tp⟩,o,fns⟩):=zab (by rw[aD];exact HH.o.drewN k1);have F1:Hid (Fr (M2 mb wb) w w1):=zab (by rw[aD];exact (Fr.refl _ _).drewN k1);clear aD CS;go_wp2_with fail
  refine (CB.o _ H1.o).mono ?_;rintro e w2 ⟨rfl,k2,aB⟩;have H2:Hid (MAt w2 mb wb fv ⟨⟨ws,hf,lo,fr,tp⟩,o,fns⟩):=zab (by rw[aB];exact H1.o.drewN k2);have F2:Hid (Fr (M2 mb wb) w w2):=zab (by rw[aB];exact F1.o.drewN k2);clear aB CB;have c4:=H2.o.sat.c4;have f4:=H2.o.sat.blk.frozen 4;go_wp2_with fail
  have H3:=zab (H2.o.sat.zlL i (by omega));have F3:Hid (Fr (M2 mb wb) w (w2.setCell ⟨mb,4,none⟩ (.int .i64 i))):=zab (F2.o.set _ _ (.inl (.inl rfl)));generalize w2.setCell ⟨mb,4,none⟩ (.int .i64 i)=w3 at H3 F3;have d0:=H3.o.c0;have d4:=H3.o.c4;simp only at d0 d4;have pJ:Hid (0<xs.length->∃ ad,(some (⟨wb,tq,none⟩:Addr))=some ad/\∀ (j:Nat) x,xs[j]?=some x->w3.drew.cell? (ad.add j)=some (.int .i64 x)):=zab (fun h0=>⟨_,rfl,fun j x hj=>by
   rw[zbe,HT.o (by omega)];exact H3.o.drew.word (mD.o j x hj)⟩)
  clear c4 f4 HT mD;by_cases hr:ws.length=i
  ·obtain rfl:xs=[]:=zzt (by omega);obtain rfl:c=0:=by simpa using dk.symm
   go_region_held3 (fun W=>W.cell? ⟨mb,0,none⟩=some (.slice (some ⟨wb,0,none⟩) ws.length ws.length)/\W.cell? ⟨mb,4,none⟩=some (.int .i64 i)) (first|go_keep|(refine ⟨?_,?_⟩ <;> assumption)) (first
    |(refine za6 (by rfl) _ _ (by rfl) H3.o.drew _ _ _ _ _ _ (by rfl) (by rfl) [] (by simp) (fun h=>absurd h (by simp)) (by simp) ?_;intro w5 h5 f5;have H5:=zab h5;have F5:=zab f5;have e0:=h5.c0;have e4:=h5.c4;simp only[splice,zzR,zzb,zzY,zzm,zzO]at e0 e4;clear h5 f5))
   all_goals
    go_wp2_with fail
    go_end0
    have f5:=F3.o.trans ((Fr.refl _ _).drew.trans F5.o);refine ⟨f5.zc9 fv,rfl,?_,HH.o.fat.fr f5,HH.o.fl,HH.o.fuel⟩;have:=H5.o;simpa [splice] using this
  ·have aj:i<ws.length:=by omega
   go_region_held3 (fun W=>W.cell? ⟨mb,0,none⟩=some (.slice (some ⟨wb,0,none⟩) ws.length ws.length)/\W.cell? ⟨mb,4,none⟩=some (.int .i64 i)) (first|go_keep|(refine ⟨?_,?_⟩ <;> assumption)) (first
    |(refine za6 (by rfl) _ _ (by rfl) H3.o.drew i _ _ _ _ _ (by rfl) (by rfl) xs (by rw[dk];exact (zzV (by omega)).symm) pJ.o br ?_;intro w5 h5 f5;have H5:=zab h5;have F5:=zab f5;have e0:=h5.c0;have e4:=h5.c4;simp only[zaY _ _ _ br]at e0 e4;clear h5 f5))
   all_goals
    go_wp2_with fail
    go_end0
    have f5:=F3.o.trans ((Fr.refl _ _).drew.trans F5.o);exact ⟨f5.zc9 fv,rfl,H5.o,HH.o.fat.fr f5,HH.o.fl,HH.o.fuel⟩
 ·cases hs
def ziu (k n t a:Int):Value:=.agg #[.int .i64 k,.int .i64 n,.int .i64 t,.int .i64 a]
theorem MAt.alloc{w:World}{mb wb:Nat}{fv:Value}{m:MSt}(h:MAt w mb wb fv m)(o:Obj):MAt (w.alloc o) mb wb fv m:=⟨h.sat.below (zam w o),h.fat.fr (Fr.below (zam w o)),h.fl,h.fuel⟩
theorem zmB(h:MAt w mb wb fv m)(ha:m.s.nodeAt 0=some (a,y))(h0:y%16≠0)(h1:y%16≠1):
  Calls prog 48 #[.pointer (some ⟨mb,0,none⟩)] w fun e w'=>e=.returned (ziu 3 0 0 0)/\Fr (fun _=>False) w w':=by
 obtain ⟨hx,hh⟩:=Sto.zaP ha;obtain ⟨hy,aT,bE,aU⟩:=Sto.zaU hh;have eo:(a:Int)<(m.s.ws.length:Int):=by omega
 have hlen:=h.sat.len;have CA:=zab (fun (W:World) (hW:MAt W mb wb fv m)=>zaA (d:=0) hW.sat _ hx);have CK:=zab (fun W:World=>za4 y W aT bE);have HH:=zab h;have HY:=zab hy;have dF:(y%16 == 0)=false:=by rw[beq_eq_false_iff_ne];exact h0
 have cK:(y%16 == 1)=false:=by rw[beq_eq_false_iff_ne];exact h1
 generalize y%16=k at *;clear h0 h1;clear h ha hx hy hh aT bE aU;go_enter func48,ntmps48
 go_wp2_with fail
 have HB:=zab (Blk.new w [.int .i64 0,.int .i64 0,.int .i64 0,.int .i64 0] 35);refine (CA.o _ (HH.o.alloc _)).mono ?_;rintro e w1 ⟨rfl,k1,aD⟩;have H1:Hid (MAt w1 mb wb fv m):=zab (by rw[aD];exact (HH.o.alloc _).drewN k1);have B1:Hid (Blk w1 w.heap.size [.int .i64 0,.int .i64 0,.int .i64 0,.int .i64 0] 35):=zab (by rw[aD];exact HB.o);have F1:Hid (Fr (fun _=>False) w w1):=zab (by rw[aD];exact ((Fr.refl _ _).alloc _).drewN k1);clear aD HB;have c0:=H1.o.sat.c0;have cy:=H1.o.sat.word HY.o;have iD:w.heap.size≠mb:=by have:=HH.o.sat.blk.lt;omega
 have q0:=Blk.cell B1.o 0;have q1:=Blk.cell B1.o 1;have q2:=Blk.cell B1.o 2;have q3:=Blk.cell B1.o 3;simp at q0 q1 q2 q3;have g0:=Blk.frozen B1.o 0;have g1:=Blk.frozen B1.o 1;have g2:=Blk.frozen B1.o 2;have g3:=Blk.frozen B1.o 3;go_wp2_with fail
 refine (CK.o _).mono ?_;rintro e w2 ⟨rfl,aB⟩;subst w2;go_wp2_with fail
 have cE:=(((B1.o.set 0 (.int .i64 3)).set 1 (.int .i64 0)).set 2 (.int .i64 0)).set 3 (.int .i64 0);have p0:=Blk.cell cE 0;have p1:=Blk.cell cE 1;have p2:=Blk.cell cE 2;have p3:=Blk.cell cE 3;simp at p0 p1 p2 p3;refine bodyPost_ret (by simp[results,Tryz.results48,go_sem,p0,p1,p2,p3];rfl) rfl ⟨rfl,?_⟩;exact (((F1.o.set ⟨w.heap.size,0,none⟩ _ (.inr (zyN _))).set ⟨w.heap.size,1,none⟩ _ (.inr (zyN _))).set ⟨w.heap.size,2,none⟩ _ (.inr (zyN _))).set ⟨w.heap.size,3,none⟩ _ (.inr (zyN _))
theorem zkF(h:MAt w mb wb fv m)(ha:m.s.nodeAt 0=some (a,y)){v:Int}(h0:y%16=0)(hv:m.s.ws[a+1]?=some v):
  Calls prog 48 #[.pointer (some ⟨mb,0,none⟩)] w fun e w'=>e=.returned (ziu 1 v 0 0)/\Fr (fun _=>False) w w':=by
 obtain ⟨hx,hh⟩:=Sto.zaP ha;obtain ⟨hy,aT,bE,aU⟩:=Sto.zaU hh;have eo:(a:Int)<(m.s.ws.length:Int):=by omega
 have hlen:=h.sat.len;have CA:=zab (fun (W:World) (hW:MAt W mb wb fv m)=>zaA (d:=0) hW.sat _ hx);have CK:=zab (fun W:World=>za4 y W aT bE);have HH:=zab h;have HY:=zab hy;rw[h0]at CK;have HV:=zab hv;have ji:(a:Int)+1<(m.s.ws.length:Int):=by have:=(zyL.1 hv).1;omega
 clear h0 hv;clear h ha hx hy hh aT bE aU;go_enter func48,ntmps48
 go_wp2_with fail
 have HB:=zab (Blk.new w [.int .i64 0,.int .i64 0,.int .i64 0,.int .i64 0] 35);refine (CA.o _ (HH.o.alloc _)).mono ?_;rintro e w1 ⟨rfl,k1,aD⟩;have H1:Hid (MAt w1 mb wb fv m):=zab (by rw[aD];exact (HH.o.alloc _).drewN k1);have B1:Hid (Blk w1 w.heap.size [.int .i64 0,.int .i64 0,.int .i64 0,.int .i64 0] 35):=zab (by rw[aD];exact HB.o);have F1:Hid (Fr (fun _=>False) w w1):=zab (by rw[aD];exact ((Fr.refl _ _).alloc _).drewN k1);clear aD HB;have c0:=H1.o.sat.c0;have cy:=H1.o.sat.word HY.o;have iD:w.heap.size≠mb:=by have:=HH.o.sat.blk.lt;omega
 have q0:=Blk.cell B1.o 0;have q1:=Blk.cell B1.o 1;have q2:=Blk.cell B1.o 2;have q3:=Blk.cell B1.o 3;simp at q0 q1 q2 q3;have g0:=Blk.frozen B1.o 0;have g1:=Blk.frozen B1.o 1;have g2:=Blk.frozen B1.o 2;have g3:=Blk.frozen B1.o 3;go_wp2_with fail
 refine (CK.o _).mono ?_;rintro e w2 ⟨rfl,aB⟩;subst w2;have cv:=H1.o.sat.word HV.o;go_wp2_with fail
 have cE:=(((B1.o.set 0 (.int .i64 1)).set 1 (.int .i64 v)).set 2 (.int .i64 0)).set 3 (.int .i64 0);have p0:=Blk.cell cE 0;have p1:=Blk.cell cE 1;have p2:=Blk.cell cE 2;have p3:=Blk.cell cE 3;simp at p0 p1 p2 p3;refine bodyPost_ret (by simp[results,Tryz.results48,go_sem,p0,p1,p2,p3];rfl) rfl ⟨rfl,?_⟩;exact (((F1.o.set ⟨w.heap.size,0,none⟩ _ (.inr (zyN _))).set ⟨w.heap.size,1,none⟩ _ (.inr (zyN _))).set ⟨w.heap.size,2,none⟩ _ (.inr (zyN _))).set ⟨w.heap.size,3,none⟩ _ (.inr (zyN _))
theorem zn4(h:MAt w mb wb fv m)(ha:m.s.nodeAt 0=some (a,y))(h0:y%16=1):
  Calls prog 48 #[.pointer (some ⟨mb,0,none⟩)] w fun e w'=>e=.returned (ziu 2 0 (y/65536) (y/16%4096))/\Fr (fun _=>False) w w':=by
 obtain ⟨hx,hh⟩:=Sto.zaP ha;obtain ⟨hy,aT,bE,aU⟩:=Sto.zaU hh;have eo:(a:Int)<(m.s.ws.length:Int):=by omega
 have hlen:=h.sat.len;have CA:=zab (fun (W:World) (hW:MAt W mb wb fv m)=>zaA (d:=0) hW.sat _ hx);have CK:=zab (fun W:World=>za4 y W aT bE);have HH:=zab h;have HY:=zab hy;rw[h0]at CK;have CW:=zab (fun W:World=>zbw y W aT bE);have CC:=zab (fun W:World=>za3 y W aT bE);generalize y/65536=tg at CW ⊢;generalize y/16%4096=ct at CC ⊢;clear h0;clear h ha hx hy hh aT bE aU;go_enter func48,ntmps48
 go_wp2_with fail
 have HB:=zab (Blk.new w [.int .i64 0,.int .i64 0,.int .i64 0,.int .i64 0] 35);refine (CA.o _ (HH.o.alloc _)).mono ?_;rintro e w1 ⟨rfl,k1,aD⟩;have H1:Hid (MAt w1 mb wb fv m):=zab (by rw[aD];exact (HH.o.alloc _).drewN k1);have B1:Hid (Blk w1 w.heap.size [.int .i64 0,.int .i64 0,.int .i64 0,.int .i64 0] 35):=zab (by rw[aD];exact HB.o);have F1:Hid (Fr (fun _=>False) w w1):=zab (by rw[aD];exact ((Fr.refl _ _).alloc _).drewN k1);clear aD HB;have c0:=H1.o.sat.c0;have cy:=H1.o.sat.word HY.o;have iD:w.heap.size≠mb:=by have:=HH.o.sat.blk.lt;omega
 have q0:=Blk.cell B1.o 0;have q1:=Blk.cell B1.o 1;have q2:=Blk.cell B1.o 2;have q3:=Blk.cell B1.o 3;simp at q0 q1 q2 q3;have g0:=Blk.frozen B1.o 0;have g1:=Blk.frozen B1.o 1;have g2:=Blk.frozen B1.o 2;have g3:=Blk.frozen B1.o 3;go_wp2_with fail
 refine (CK.o _).mono ?_;rintro e w2 ⟨rfl,aB⟩;subst w2;go_wp2_with fail
 refine (CW.o _).mono ?_;rintro e w3 ⟨rfl,bL⟩;subst w3;go_wp2_with fail
 refine (CC.o _).mono ?_;rintro e w3 ⟨rfl,bL⟩;subst w3;go_wp2_with fail
 have cE:=(((B1.o.set 0 (.int .i64 2)).set 1 (.int .i64 0)).set 2 (.int .i64 tg)).set 3 (.int .i64 ct);have p0:=Blk.cell cE 0;have p1:=Blk.cell cE 1;have p2:=Blk.cell cE 2;have p3:=Blk.cell cE 3;simp at p0 p1 p2 p3;refine bodyPost_ret (by simp[results,Tryz.results48,go_sem,p0,p1,p2,p3];rfl) rfl ⟨rfl,?_⟩;exact (((F1.o.set ⟨w.heap.size,0,none⟩ _ (.inr (zyN _))).set ⟨w.heap.size,1,none⟩ _ (.inr (zyN _))).set ⟨w.heap.size,2,none⟩ _ (.inr (zyN _))).set ⟨w.heap.size,3,none⟩ _ (.inr (zyN _))
def Sto.fill (s:Sto) (x:Int):Nat->Option Sto
 |0=>some s
 |k+1=>if s.free<s.ws.length then Sto.fill { s with ws:=s.ws.set s.free x,free:=s.free+1 } x k else none
def MSt.zjH (m:MSt) (hd:Int) (c:Nat):Option (Except Nat MSt):=aft (m.zdI (c+2)) fun m1=>
 m1.put ((m1.s.node hd []).bind fun s=>(s.fill m1.s.free c).bind fun q=>q.push m1.s.free)
theorem zpL{r:Except Nat MSt}(h:MAt w mb wb fv m){hd:Int}{c:Nat}(jl:c<=1000000)(hc:m.zjH hd c=some r):
  Calls prog 134 #[.pointer (some ⟨mb,0,none⟩),.int .i64 hd,.int .i64 c] w fun e w'=>Ends w mb wb fv r e w':=by
 unfold MSt.zjH aft at hc;split at hc
 ·cases hc
 ·next k hn=>
  obtain rfl:=zyU hc;have CN:=zab (zaW h hn);simp only[zzq,zzJ]at CN;clear h hn hc;go_enter func134,ntmps134
  go_wp2_with fail
  refine CN.o.mono ?_;rintro e w1 ⟨f1,rfl,h1⟩;exact ⟨rfl,f1,rfl,h1⟩
 ·next m1 hn=>
  have CN:=zab (zaW h hn);simp only[zzq,zzJ]at CN;simp only[MSt.put,zyX,zyQ]at hc;obtain ⟨s4,⟨s2,bg,s3,nN,aM⟩,rfl⟩:=hc;have HN:=zab bg;have HF:=zab nN;have pH:=zab aM;obtain ⟨x,hx⟩:∃ x,m1.s.free=x:=⟨_,rfl⟩;rw[hx]at HF pH;have HX:=zab hx;clear h hn bg nN aM hx;go_enter func134,ntmps134
  go_wp2_with fail
  refine CN.o.mono ?_;rintro e w1 ⟨f1,rfl,h1⟩;have F1:=zab f1;have H1:=zab h1;clear f1 h1 CN;have CD:=zab (Sto.zej (sp:=none) (cp:=0) H1.o.sat HN.o (fun h0=>absurd h0 (by simp)));rw[HX.o]at CD;go_wp2_with fail
  refine CD.o.mono ?_;rintro e w2 ⟨rfl,h2,f2⟩;have H2:=zab h2;have F2:=zab f2;clear h2 f2 CD;go_wp2_with fail
  go_loopg [17] c (fun gk av wr=>∃ (j:Nat) (q:Sto),av=.int .i64 j/\j+gk=c/\SAt wr mb wb (zeu m1.o fv) q/\q.fill x gk=some s3/\Fr (M2 mb wb) w1 wr)
  case atStart=>exact ⟨0,s2,rfl,by omega,H2.o,HF.o,F2.o⟩
  case round=>
   obtain ⟨j,q,rfl,hj,hq,bZ,ak⟩:=hrel;cases gk with
   |zero=>
    have HQ:Hid (SAt wr mb wb (zeu m1.o fv) s3):=zab (by rw[<-zyU bZ];exact hq);have cY:=zab ak;have sy:¬ (j:Int)<(c:Int):=by omega
    clear hq bZ ak;go_wp2_with fail
    refine (Sto.zb5 HQ.o pH.o).mono ?_;rintro e w5 ⟨rfl,h5,f5⟩;have H5:=zab h5;have F5:=zab (cY.o.trans f5);clear h5 f5;go_wp2_with fail
    first|go_end0|refine bodyPost_ret (results_none rfl _ _ _) rfl ?_
    exact ⟨F1.o.trans (F5.o.zc9 fv),rfl,H1.o.fr2 H5.o F5.o⟩
   |succ g=>
    rw[Sto.fill]at bZ;split at bZ
    ·next aj=>
     obtain ⟨ws,hf,lo,fr,tp⟩:=q;simp only at aj bZ;have sy:(j:Int)<(c:Int):=by omega
     have c0:=hq.c0;have c3:=hq.c3;have cw:=hq.zko (i:=fr) aj;have cf:=hq.zeC.frozen fr;have fP:=zcj hq.ne;simp only at c0 c3 cw;have aA:(fr:Int)<(ws.length:Int):=by omega
     have aw:(0:Int)<=(fr:Int):=by omega
     have hlen:ws.length<=1000000:=hq.len;have HQ:=zab hq;have cY:=zab ak;have pG:=zab bZ;clear hq bZ ak;go_wp2_with fail
     go_region_held3 (fun W=>W.cell? ⟨mb,0,none⟩=some (.slice (some ⟨wb,0,none⟩) ws.length ws.length)/\W.cell? ⟨mb,3,none⟩=some (.int .i64 fr)) (go_keep) (fail)
     all_goals
      have H5:=zab (HQ.o.zcB fr x).drew;have F5:Hid (Fr (M2 mb wb) w1 ((wr.setCell ⟨wb,fr,none⟩ (.int .i64 x)).drew)):=zab (cY.o.set _ _ (.inl (.inr rfl))).drew;generalize (wr.setCell ⟨wb,fr,none⟩ (.int .i64 x)).drew=w5 at H5 F5;clear c0 c3 cw cf;have d3:=H5.o.c3;have df:=H5.o.blk.frozen 3;simp only at d3;go_wp2_with fail
      go_roundg g
      case measure=>omega
      case rel=>
       refine ⟨j+1,_,by go_num,by omega,H5.o.zjP (fr+1) (by omega),pG.o,?_⟩;exact F5.o.set _ _ (.inl (.inl rfl))
    ·cases bZ
theorem zxp:(prog.info? 2).map (fun i=>(i.size,i.bytes,i.zero))=some (1,8,some (.int .i64 0)):=by kernel_rfl
theorem zyq(n:Nat):madeCells (Value.cells (.int .i64 0)) n=(zdG (List.replicate n 0)).toArray:=by
 apply Array.ext
 ·simp[madeCells,zdG]
 ·intro i h1 h2;simp[madeCells,zdG,Value.cells,Nat.mod_one]
theorem ziP{n:Nat}(hn:n<=1000000)(W:World):(Instr.makeSlice 76 (.int .i64 (n:Int)) (.int .i64 (n:Int))).run prog W=.ok (.slice (some ⟨W.heap.size,0,none⟩) n n) (W.alloc (.cells (zdG (List.replicate n 0)).toArray 2)):=by
 obtain ⟨i,hi,he⟩:=zyX.1 zxp;simp only[zzL]at he;obtain ⟨h1,h2,h3⟩:=he;have:=run_make (P:=prog) W 76 2 i (.int .i64 0) underlying76 hi h3 .i64 .i64 n n (by omega) (by omega) (by rw[h2];omega) (by omega);rw[this,h1,zy2,zAt,zyq]
theorem zih{n:Nat}(hn:n<=1000000):
  Calls prog 44 #[.int .i64 n] w fun e w'=>e=.returned (.agg #[.slice (some ⟨w.heap.size+1,0,none⟩) n n,.int .i64 ((n:Int)/2),.int .i64 0,.int .i64 0,.int .i64 ((n:Int)/2)])/\Blk w' (w.heap.size+1) (zdG (List.replicate n 0)) 2/\Fr (fun _=>False) w w':=by
 have hb:(n:Int)<=1000000:=by omega
 have kf:(0:Int)<=(n:Int):=by omega
 have HM:=ziP hn;obtain ⟨vs,gW⟩:∃ vs,zdG (List.replicate n 0)=vs:=⟨_,rfl⟩;rw[gW]at HM ⊢;clear gW;go_enter func44,ntmps44
 go_wp2_with fail
 generalize (n:Int)/2=q;have cE:=(Blk.new w [.slice (some ⟨w.heap.size+1,0,none⟩) n n,.int .i64 q,.int .i64 0,.int .i64 0,.int .i64 q] 78).alloc (.cells vs.toArray 2);have BV:=Blk.new (w.alloc (.cells #[.slice (some ⟨w.heap.size+1,0,none⟩) n n,.int .i64 q,.int .i64 0,.int .i64 0,.int .i64 q] 78)) vs 2;rw[show (w.alloc (.cells #[.slice (some ⟨w.heap.size+1,0,none⟩) n n,.int .i64 q,.int .i64 0,.int .i64 0,.int .i64 q] 78)).heap.size=w.heap.size+1 by simp]at BV;have p0:=Blk.cell cE 0;have p1:=Blk.cell cE 1;have p2:=Blk.cell cE 2;have p3:=Blk.cell cE 3;have p4:=Blk.cell cE 4;simp only[zzl,zzT]at p0 p1 p2 p3 p4;refine bodyPost_ret (by simp[results,Tryz.results44,go_sem,p0,p1,p2,p3,p4]) rfl ⟨rfl,BV,((Fr.refl _ _).alloc _).alloc _⟩
end Go.Proofs.YtgahgkddaljmkaaGreatDoor
