/- Mach32 .. Read3 -/
import Derived.Test.YtgahgkddaljmkaaGreatDoorQ3
import Derived.Lib.RuneCount
import Derived.Test.YtgahgkddaljmkaaGreatDoorQ0
set_option maxRecDepth 100000
set_option maxHeartbeats 4000000
namespace Go.Proofs.YtgahgkddaljmkaaGreatDoor
open Tryz
open Go.RowKit
attribute [local go_sem ↓] Go.wp_at_zero Go.wp_at_succ
def MSt.ziT (m:MSt) (k:Nat):Option (Except Nat MSt):=aft (m.zdI 1) fun m1=>
 match m1.slot k with
 |none=>none
 |some i=>
  match m1.s.ws[i]? with
  |none=>none
  |some x=>m1.put (m1.s.push x)
def MSt.zcW (m:MSt) (f:Nat):Option (Except Nat MSt):=aft (m.zdI 1) fun m1=>
 match m1.fns[f]? with
 |none=>none
 |some x=>m1.put (m1.s.push x)
def MSt.zcH (m:MSt) (k b:Nat):Option (Except Nat MSt):=if b<=1000000000 then aft (m.zdI 1) fun m1=>m1.put (m1.s.push (Mk k b)) else none
theorem zv2{s s':Sto}{x:Int}{i:Nat}(h:s.push x=some s')(hx:s.ws[i]?=some x):s'.ws[i]?=some x:=by
 unfold Sto.push at h;split at h
 ·obtain rfl:=zyU h;simp only;have hi:=(zyL.1 hx).1;by_cases he:s.top-1=i
  ·subst he;rw[List.getElem?_set_self hi]
  ·rw[zAo he];exact hx
 ·cases h
theorem zxF{s s':Sto}{x:Int}(h:s.push x=some s'):s'.ws.length=s.ws.length:=by
 unfold Sto.push at h;split at h
 ·obtain rfl:=zyU h;simp
 ·cases h
variable {w:World}{mb wb:Nat}{fv:Value}{m:MSt}{k:Nat}
theorem zuB{r:Except Nat MSt}(h:MAt w mb wb fv m)(hb:m.ziT k=some r):
  Calls prog 81 #[.pointer (some ⟨mb,0,none⟩),.iface 248 (.agg #[.int .i64 k])] w fun e w'=>Ends w mb wb fv r e w':=by
 have i0:=zoF;have H1:=zab (h.alloc (.cells #[.int .i64 k] 248));have B1:=zab (Blk.new w [.int .i64 k] 248);have F1:Hid (Fr (MB mb wb fv) w (w.alloc (.cells #[.int .i64 k] 248))):=zab ((Fr.refl _ _).alloc _);have bW:=zab (h.zc3 (zyN w.heap.size));clear h;go_enter func81,ntmps81
 go_wp2_with fail
 generalize w.alloc (.cells #[.int .i64 k] 248)=w1 at H1 F1 B1 ⊢;clear i0;unfold MSt.ziT at hb;have CX:=zab (fun (q:Except Nat MSt) (hq:m.zdI 1=some q)=>zaW H1.o hq);unfold aft at hb;split at hb
 ·cases hb
 ·next j hn=>
  obtain rfl:=zyU hb;refine (CX.o _ hn).mono ?_;rintro e w7 ⟨f7,rfl,h7⟩;exact ⟨rfl,F1.o.trans f7,rfl,h7⟩
 ·next m1 hn=>
  refine (CX.o _ hn).mono ?_;rintro e w2 ⟨f2,rfl,h2⟩;have H2:=zab h2;have F2:=zab (F1.o.trans f2);have B2:=zab (Fr.blk B1.o f2 bW.o);clear h2 f2 hn CX B1 H1 F1;dsimp only at hb;split at hb
  ·cases hb
  ·next i hi=>
   split at hb
   ·cases hb
   ·next x hx=>
    simp only[MSt.put,zyX]at hb;obtain ⟨s4,aM,rfl⟩:=hb;have je:=zab aM;have pN:=zab hx;have br:=(zyL.1 hx).1;have o4:(i:Int)<(m1.s.ws.length:Int):=by omega
    have CS:=zab (fun (W:World) (hW:MAt W mb wb fv m1)=>zqS hW hi);obtain ⟨L,hL⟩:∃ L,m1.s.ws.length=L:=⟨_,rfl⟩;have HL:=zab hL;rw[hL]at o4;have c0:=H2.o.sat.c0;rw[hL]at c0;have cb:=Blk.cell B2.o 0;simp at cb;have cx:=H2.o.sat.word hx;clear aM hi hx hL br;go_wp2_with fail
    go_region_held3 (fun W=>W.cell? ⟨mb,0,none⟩=some (.slice (some ⟨wb,0,none⟩) L L)/\W.cell? ⟨w.heap.size,0,none⟩=some (.int .i64 k)/\W.cell? ⟨wb,i,none⟩=some (.int .i64 x)) (first|go_keep|(refine ⟨?_,?_,?_⟩ <;> assumption)) (first
     |(go_at_call 131;refine (CS.o _ (H2.o.drewN 1)).mono ?_;rintro e w3 ⟨rfl,k3,bL⟩;have H3:Hid (MAt w3 mb wb fv m1):=zab (by rw[bL];exact (H2.o.drewN 1).drewN k3);have F3:Hid (Fr (M2 mb wb) w2 w3):=zab (by rw[bL];exact ((Fr.refl _ _).drewN 1).drewN k3);have B3:=zab (Fr.blk B2.o (F3.o.zc9 fv) bW.o);have d0:w3.cell? ⟨mb,0,none⟩=some (.slice (some ⟨wb,0,none⟩) L L):=(by rw[H3.o.sat.c0,HL.o]);have db:w3.cell? ⟨w.heap.size,0,none⟩=some (.int .i64 k):=(by simpa using Blk.cell B3.o 0);have dx:=H3.o.sat.word pN.o;clear bL)
     |(go_at_call 76;refine (Sto.zb5 H3.o.sat je.o).mono ?_;rintro e w4 ⟨rfl,h4,f4⟩;have H4:=zab h4;have F4:=zab (F3.o.trans f4);have e0:w4.cell? ⟨mb,0,none⟩=some (.slice (some ⟨wb,0,none⟩) L L):=(by rw[h4.c0,zxF je.o,HL.o]);have eb:w4.cell? ⟨w.heap.size,0,none⟩=some (.int .i64 k):=(by simpa using Blk.cell (Fr.blk B3.o (f4.zc9 fv) bW.o) 0);have ex:=h4.word (zv2 je.o pN.o);clear h4 f4))
    all_goals
     go_wp2_with fail
     first|go_end0|refine bodyPost_ret (results_none rfl _ _ _) rfl ?_
     exact ⟨F2.o.trans (F4.o.zc9 fv),rfl,H2.o.fr2 H4.o F4.o⟩
theorem zhV{f:Nat}{r:Except Nat MSt}(h:MAt w mb wb fv m)(hb:m.zcW f=some r):
  Calls prog 81 #[.pointer (some ⟨mb,0,none⟩),.iface 250 (.agg #[.int .i64 f])] w fun e w'=>Ends w mb wb fv r e w':=by
 have i0:=zfR;have i1:=zc6;have H1:=zab (h.alloc (.cells #[.int .i64 f] 250));have B1:=zab (Blk.new w [.int .i64 f] 250);have F1:Hid (Fr (MB mb wb fv) w (w.alloc (.cells #[.int .i64 f] 250))):=zab ((Fr.refl _ _).alloc _);have bW:=zab (h.zc3 (zyN w.heap.size));clear h;go_enter func81,ntmps81
 go_wp2_with fail
 generalize w.alloc (.cells #[.int .i64 f] 250)=w1 at H1 F1 B1 ⊢;clear i0 i1;unfold MSt.zcW at hb;have CX:=zab (fun (q:Except Nat MSt) (hq:m.zdI 1=some q)=>zaW H1.o hq);unfold aft at hb;split at hb
 ·cases hb
 ·next j hn=>
  obtain rfl:=zyU hb;refine (CX.o _ hn).mono ?_;rintro e w7 ⟨f7,rfl,h7⟩;exact ⟨rfl,F1.o.trans f7,rfl,h7⟩
 ·next m1 hn=>
  refine (CX.o _ hn).mono ?_;rintro e w2 ⟨f2,rfl,h2⟩;have H2:=zab h2;have F2:=zab (F1.o.trans f2);have B2:=zab (Fr.blk B1.o f2 bW.o);clear h2 f2 hn CX B1 H1 F1;dsimp only at hb;split at hb
  ·cases hb
  ·next x hx=>
   simp only[MSt.put,zyX]at hb;obtain ⟨s4,aM,rfl⟩:=hb;have je:=zab aM;have br:=(zyL.1 hx).1;rcases H2.o.fat with ⟨_,ck⟩|⟨fb,cap,sp,rfl,oV,_⟩
   ·rw[ck]at hx;cases hx
   ·have o4:(f:Int)<(m1.fns.length:Int):=by omega
    have c8:=H2.o.sat.c8;have cb:=Blk.cell B2.o 0;simp at cb;have cx:=oV.word hx;have vA:=zab oV;have Da:=zab hx;clear aM hx br oV;go_wp2_with fail
    go_region_held3 (fun W=>W.cell? ⟨mb,8,none⟩=some (.slice (some ⟨fb,0,none⟩) m1.fns.length cap)/\W.cell? ⟨w.heap.size,0,none⟩=some (.int .i64 f)/\W.cell? ⟨fb,f,none⟩=some (.int .i64 x)) (first|go_keep|(refine ⟨?_,?_,?_⟩ <;> assumption)) ((go_at_call 76;refine (Sto.zb5 H2.o.sat.drew je.o).mono ?_;rintro e w4 ⟨rfl,h4,f4⟩;have H4:=zab h4;have F4:Hid (Fr (M2 mb wb) w2 w4):=zab ((Fr.refl _ _).drew.trans f4);have e0:=h4.c8;have eb:w4.cell? ⟨w.heap.size,0,none⟩=some (.int .i64 f):=(by simpa using Blk.cell (Fr.blk B2.o (F4.o.zc9 _) bW.o) 0);have ex:=(vA.o.fr F4.o).word Da.o;clear h4 f4))
    all_goals
     go_wp2_with fail
     first|go_end0|refine bodyPost_ret (results_none rfl _ _ _) rfl ?_
     exact ⟨F2.o.trans (F4.o.zc9 _),rfl,H2.o.fr2 H4.o F4.o⟩
theorem zuC{b:Nat}{r:Except Nat MSt}(h:MAt w mb wb fv m)(hb:m.zcH 1 b=some r):
  Calls prog 81 #[.pointer (some ⟨mb,0,none⟩),.iface 263 (.agg #[.int .i64 b])] w fun e w'=>Ends w mb wb fv r e w':=by
 have i0:=zoI;have i1:=zfW;have i2:=zhr;have i3:=zoH;have i4:=zm7;have i5:=zke;have i6:=zoG;have i7:=zoJ;have H1:=zab (h.alloc (.cells #[.int .i64 b] 263));have B1:=zab (Blk.new w [.int .i64 b] 263);have F1:Hid (Fr (MB mb wb fv) w (w.alloc (.cells #[.int .i64 b] 263))):=zab ((Fr.refl _ _).alloc _);have bW:=zab (h.zc3 (zyN w.heap.size));clear h;go_enter func81,ntmps81
 go_wp2_with fail
 generalize w.alloc (.cells #[.int .i64 b] 263)=w1 at H1 F1 B1 ⊢;clear i0 i1 i2 i3 i4 i5 i6 i7;unfold MSt.zcH at hb;split at hb
 ·next iC=>
  have CX:=zab (fun (q:Except Nat MSt) (hq:m.zdI 1=some q)=>zaW H1.o hq);unfold aft at hb;split at hb
  ·cases hb
  ·next j hn=>
   obtain rfl:=zyU hb;refine (CX.o _ hn).mono ?_;rintro e w7 ⟨f7,rfl,h7⟩;exact ⟨rfl,F1.o.trans f7,rfl,h7⟩
  ·next m1 hn=>
   refine (CX.o _ hn).mono ?_;rintro e w2 ⟨f2,rfl,h2⟩;have H2:=zab h2;have F2:=zab (F1.o.trans f2);have B2:=zab (Fr.blk B1.o f2 bW.o);clear h2 f2 hn CX B1 H1 F1;dsimp only at hb;simp only[MSt.put,zyX]at hb;obtain ⟨s4,aM,rfl⟩:=hb;have CM:=zab (fun W:World=>ziQ 1 b W (by omega) iC);obtain ⟨z,hz⟩:∃ z,Mk 1 b=z:=⟨_,rfl⟩;rw[hz]at CM aM;have je:=zab aM;have cb:=Blk.cell B2.o 0;simp at cb;clear aM hz;go_wp2_with fail
   go_region_held3 (fun W=>W.cell? ⟨w.heap.size,0,none⟩=some (.int .i64 b)) (first|go_keep|assumption) (first
    |(go_at_call 138;refine (CM.o _).mono ?_;rintro e w3 ⟨rfl,bL⟩;subst w3)
    |(go_at_call 76;refine (Sto.zb5 H2.o.sat.drew je.o).mono ?_;rintro e w4 ⟨rfl,h4,f4⟩;have H4:=zab h4;have F4:Hid (Fr (M2 mb wb) w2 w4):=zab ((Fr.refl _ _).drew.trans f4);have eb:w4.cell? ⟨w.heap.size,0,none⟩=some (.int .i64 b):=(by simpa using Blk.cell (Fr.blk B2.o (F4.o.zc9 fv) bW.o) 0);clear h4 f4))
   all_goals
    go_wp2_with fail
    first|go_end0|refine bodyPost_ret (results_none rfl _ _ _) rfl ?_
    exact ⟨F2.o.trans (F4.o.zc9 fv),rfl,H2.o.fr2 H4.o F4.o⟩
 ·cases hb
theorem zhW{b:Nat}{r:Except Nat MSt}(h:MAt w mb wb fv m)(hb:m.zcH 2 b=some r):
  Calls prog 81 #[.pointer (some ⟨mb,0,none⟩),.iface 267 (.agg #[.int .i64 b])] w fun e w'=>Ends w mb wb fv r e w':=by
 have i0:=zfU;have i1:=zc7;have i2:=zdu;have i3:=zfT;have i4:=zfe;have i5:=zet;have i6:=zfS;have i7:=zfV;have i8:=zc8;have H1:=zab (h.alloc (.cells #[.int .i64 b] 267));have B1:=zab (Blk.new w [.int .i64 b] 267);have F1:Hid (Fr (MB mb wb fv) w (w.alloc (.cells #[.int .i64 b] 267))):=zab ((Fr.refl _ _).alloc _);have bW:=zab (h.zc3 (zyN w.heap.size));clear h;go_enter func81,ntmps81
 go_wp2_with fail
 generalize w.alloc (.cells #[.int .i64 b] 267)=w1 at H1 F1 B1 ⊢;clear i0 i1 i2 i3 i4 i5 i6 i7 i8;unfold MSt.zcH at hb;split at hb
 ·next iC=>
  have CX:=zab (fun (q:Except Nat MSt) (hq:m.zdI 1=some q)=>zaW H1.o hq);unfold aft at hb;split at hb
  ·cases hb
  ·next j hn=>
   obtain rfl:=zyU hb;refine (CX.o _ hn).mono ?_;rintro e w7 ⟨f7,rfl,h7⟩;exact ⟨rfl,F1.o.trans f7,rfl,h7⟩
  ·next m1 hn=>
   refine (CX.o _ hn).mono ?_;rintro e w2 ⟨f2,rfl,h2⟩;have H2:=zab h2;have F2:=zab (F1.o.trans f2);have B2:=zab (Fr.blk B1.o f2 bW.o);clear h2 f2 hn CX B1 H1 F1;dsimp only at hb;simp only[MSt.put,zyX]at hb;obtain ⟨s4,aM,rfl⟩:=hb;have CM:=zab (fun W:World=>ziQ 2 b W (by omega) iC);obtain ⟨z,hz⟩:∃ z,Mk 2 b=z:=⟨_,rfl⟩;rw[hz]at CM aM;have je:=zab aM;have cb:=Blk.cell B2.o 0;simp at cb;clear aM hz;go_wp2_with fail
   go_region_held3 (fun W=>W.cell? ⟨w.heap.size,0,none⟩=some (.int .i64 b)) (first|go_keep|assumption) (first
    |(go_at_call 138;refine (CM.o _).mono ?_;rintro e w3 ⟨rfl,bL⟩;subst w3)
    |(go_at_call 76;refine (Sto.zb5 H2.o.sat.drew je.o).mono ?_;rintro e w4 ⟨rfl,h4,f4⟩;have H4:=zab h4;have F4:Hid (Fr (M2 mb wb) w2 w4):=zab ((Fr.refl _ _).drew.trans f4);have eb:w4.cell? ⟨w.heap.size,0,none⟩=some (.int .i64 b):=(by simpa using Blk.cell (Fr.blk B2.o (F4.o.zc9 fv) bW.o) 0);clear h4 f4))
   all_goals
    go_wp2_with fail
    first|go_end0|refine bodyPost_ret (results_none rfl _ _ _) rfl ?_
    exact ⟨F2.o.trans (F4.o.zc9 fv),rfl,H2.o.fr2 H4.o F4.o⟩
 ·cases hb
def MSt.pack (m:MSt) (k t c:Nat):Option (Except Nat MSt):=if t<=1000000000/\c<4096 then m.build (Hd k t c) c else none
def MSt.hold (m:MSt) (b c:Nat):Option (Except Nat MSt):=if b<=1000000000/\c<4096 then m.zjH (Hd 2 b c) c else none
theorem zuA{t c:Nat}{r:Except Nat MSt}(h:MAt w mb wb fv m)(hb:m.pack 1 t c=some r):
  Calls prog 81 #[.pointer (some ⟨mb,0,none⟩),.iface 254 (.agg #[.int .i64 t,.int .i64 c])] w fun e w'=>Ends w mb wb fv r e w':=by
 unfold MSt.pack at hb;split at hb
 ·next hg=>
  have i0:=zoE;have i1:=zfQ;have i2:=zho;have i3:=zoD;have H1:=zab (h.alloc (.cells #[.int .i64 t,.int .i64 c] 254));have B1:=zab (Blk.new w [.int .i64 t,.int .i64 c] 254);have F1:Hid (Fr (MB mb wb fv) w (w.alloc (.cells #[.int .i64 t,.int .i64 c] 254))):=zab ((Fr.refl _ _).alloc _);have bW:=zab (h.zc3 (zyN w.heap.size));clear h;go_enter func81,ntmps81
  go_wp2_with fail
  generalize w.alloc (.cells #[.int .i64 t,.int .i64 c] 254)=w1 at H1 F1 B1 ⊢;clear i0 i1 i2 i3;have CH:=zab (fun W:World=>zbt 1 t c W (by omega) hg.2 hg.1);obtain ⟨z,hz⟩:∃ z,Hd 1 t c=z:=⟨_,rfl⟩;rw[hz]at CH hb;have CB:=zab (fun (W:World) (hW:MAt W mb wb fv m)=>zgP hW (show c<=1000000 by omega) hb);have SW:w1.drew.cell? ⟨w.heap.size,0,none⟩=some (.int .i64 t)/\w1.drew.cell? ⟨w.heap.size,1,none⟩=some (.int .i64 c):=⟨by simpa using Blk.cell B1.o.drew 0,by simpa using Blk.cell B1.o.drew 1⟩;clear hb hz hg;refine wp_region_held_drew (S:=fun W=>W.cell? ⟨w.heap.size,0,none⟩=some (.int .i64 t)/\W.cell? ⟨w.heap.size,1,none⟩=some (.int .i64 c)) (by kernel_rfl) SW (fun ax=>?_);refine wpAnyH_take (i:=0) (v:=?_) rfl (by kernel_rfl) (by kernel_rfl) (by kernel_rfl) (fun _ _ _ h=>h) (Or.inl ⟨by rfl,?_⟩) (by assumption) ?_
  rotate_left 1
  ·(intro w al;(try dsimp only at al);obtain ⟨eT,eU⟩:=al;go_simp;try with_reducible rfl)
  try simp only[Act.put,zyO]
  refine wpAnyH_take (i:=1) (v:=?_) rfl (by kernel_rfl) (by kernel_rfl) (by kernel_rfl) (fun _ _ _ h=>h) (Or.inl ⟨by rfl,?_⟩) (by assumption) ?_
  rotate_left 1
  ·(intro w al;(try dsimp only at al);obtain ⟨eT,eU⟩:=al;go_simp;try with_reducible rfl)
  try simp only[Act.put]
  refine wpAnyH_take (i:=2) (v:=?_) rfl (by kernel_rfl) (by kernel_rfl) (by kernel_rfl) (fun _ _ _ h=>h) (Or.inl ⟨by rfl,?_⟩) (by assumption) ?_
  rotate_left 1
  ·(intro w al;(try dsimp only at al);obtain ⟨eT,eU⟩:=al;go_simp;try with_reducible rfl)
  try simp only[Act.put]
  refine wpAnyH_take (i:=3) (v:=?_) rfl (by kernel_rfl) (by kernel_rfl) (by kernel_rfl) (fun _ _ _ h=>h) (Or.inl ⟨by rfl,?_⟩) (by assumption) ?_
  rotate_left 1
  ·(intro w al;(try dsimp only at al);obtain ⟨eT,eU⟩:=al;go_simp;try with_reducible rfl)
  try simp only[Act.put]
  refine wpAnyH_take (i:=4) (v:=?_) rfl (by kernel_rfl) (by kernel_rfl) (by kernel_rfl) (fun _ _ _ h=>h) (Or.inl ⟨by rfl,?_⟩) (by assumption) ?_
  rotate_left 1
  ·(intro w al;(try dsimp only at al);obtain ⟨eT,eU⟩:=al;go_simp;try with_reducible rfl)
  try simp only[Act.put]
  refine wpAnyH_take (i:=6) (v:=?_) rfl (by kernel_rfl) (by kernel_rfl) (by kernel_rfl) (fun _ _ _ h=>h) (Or.inl ⟨by rfl,?_⟩) (by assumption) ?_
  rotate_left 1
  ·(intro w al;(try dsimp only at al);obtain ⟨eT,eU⟩:=al;go_simp;try with_reducible rfl)
  try simp only[Act.put]
  refine wpAnyH_take (i:=7) (v:=?_) rfl (by kernel_rfl) (by kernel_rfl) (by kernel_rfl) (fun _ _ _ h=>h) (Or.inl ⟨by rfl,?_⟩) (by assumption) ?_
  rotate_left 1
  ·(intro w al;(try dsimp only at al);obtain ⟨eT,eU⟩:=al;go_simp;try with_reducible rfl)
  try simp only[Act.put]
  refine wpAnyH_ready (rs:=[5]) (by kernel_rfl) (by simp) ?_;refine AllReadyH.cons rfl (fun K hK=>?_) AllReadyH.nil
  go_simp
  refine (CH.o _).mono ?_;rintro e w3 ⟨rfl,bL⟩;subst w3;refine hK.out _ _ SW (fun ax=>?_);clear hK K
  try simp only[Act.put,zyO,zyZ,zyW]
  refine wpAnyH_ready (rs:=[8]) (by kernel_rfl) (by simp) ?_;refine AllReadyH.cons rfl (fun K hK=>?_) AllReadyH.nil
  go_simp
  refine (CB.o _ (H1.o.drewN 1)).mono ?_;cases r with
  |error j=>
   rintro e w7 ⟨f7,rfl,h7⟩;exact ⟨rfl,F1.o.drew.trans f7,rfl,h7⟩
  |ok m'=>
   rintro e w7 ⟨f7,rfl,h7⟩;have H7:=zab h7;have F7:=zab (F1.o.drew.trans f7);have B7:=Fr.blk B1.o.drew f7 bW.o;have S7:w7.cell? ⟨w.heap.size,0,none⟩=some (.int .i64 t)/\w7.cell? ⟨w.heap.size,1,none⟩=some (.int .i64 c):=⟨by simpa using Blk.cell B7 0,by simpa using Blk.cell B7 1⟩;clear f7 h7 B7;refine hK.out _ _ S7 (fun ax=>?_);clear hK K
   try simp only[Act.put,zyO,zyZ,zyW]
   refine wpAnyH_done (by kernel_rfl) ?_ _;clear SW S7;go_wp2_with fail
   first|go_end0|refine bodyPost_ret (results_none rfl _ _ _) rfl ?_
   exact ⟨F7.o,rfl,H7.o⟩
 ·cases hb
theorem zr3{t c:Nat}{r:Except Nat MSt}(h:MAt w mb wb fv m)(hb:m.pack 2 t c=some r):
  Calls prog 81 #[.pointer (some ⟨mb,0,none⟩),.iface 257 (.agg #[.int .i64 t,.int .i64 c])] w fun e w'=>Ends w mb wb fv r e w':=by
 unfold MSt.pack at hb;split at hb
 ·next hg=>
  have i0:=zmU;have i1:=ze5;have i2:=zgx;have i3:=zmT;have i4:=zkV;have H1:=zab (h.alloc (.cells #[.int .i64 t,.int .i64 c] 257));have B1:=zab (Blk.new w [.int .i64 t,.int .i64 c] 257);have F1:Hid (Fr (MB mb wb fv) w (w.alloc (.cells #[.int .i64 t,.int .i64 c] 257))):=zab ((Fr.refl _ _).alloc _);have bW:=zab (h.zc3 (zyN w.heap.size));clear h;go_enter func81,ntmps81
  go_wp2_with fail
  generalize w.alloc (.cells #[.int .i64 t,.int .i64 c] 257)=w1 at H1 F1 B1 ⊢;clear i0 i1 i2 i3 i4;have CH:=zab (fun W:World=>zbt 2 t c W (by omega) hg.2 hg.1);obtain ⟨z,hz⟩:∃ z,Hd 2 t c=z:=⟨_,rfl⟩;rw[hz]at CH hb;have CB:=zab (fun (W:World) (hW:MAt W mb wb fv m)=>zgP hW (show c<=1000000 by omega) hb);have SW:w1.drew.cell? ⟨w.heap.size,0,none⟩=some (.int .i64 t)/\w1.drew.cell? ⟨w.heap.size,1,none⟩=some (.int .i64 c):=⟨by simpa using Blk.cell B1.o.drew 0,by simpa using Blk.cell B1.o.drew 1⟩;clear hb hz hg;refine wp_region_held_drew (S:=fun W=>W.cell? ⟨w.heap.size,0,none⟩=some (.int .i64 t)/\W.cell? ⟨w.heap.size,1,none⟩=some (.int .i64 c)) (by kernel_rfl) SW (fun ax=>?_);refine wpAnyH_take (i:=0) (v:=?_) rfl (by kernel_rfl) (by kernel_rfl) (by kernel_rfl) (fun _ _ _ h=>h) (Or.inl ⟨by rfl,?_⟩) (by assumption) ?_
  rotate_left 1
  ·(intro w al;(try dsimp only at al);obtain ⟨eT,eU⟩:=al;go_simp;try with_reducible rfl)
  try simp only[Act.put,zyO]
  refine wpAnyH_take (i:=1) (v:=?_) rfl (by kernel_rfl) (by kernel_rfl) (by kernel_rfl) (fun _ _ _ h=>h) (Or.inl ⟨by rfl,?_⟩) (by assumption) ?_
  rotate_left 1
  ·(intro w al;(try dsimp only at al);obtain ⟨eT,eU⟩:=al;go_simp;try with_reducible rfl)
  try simp only[Act.put]
  refine wpAnyH_take (i:=2) (v:=?_) rfl (by kernel_rfl) (by kernel_rfl) (by kernel_rfl) (fun _ _ _ h=>h) (Or.inl ⟨by rfl,?_⟩) (by assumption) ?_
  rotate_left 1
  ·(intro w al;(try dsimp only at al);obtain ⟨eT,eU⟩:=al;go_simp;try with_reducible rfl)
  try simp only[Act.put]
  refine wpAnyH_take (i:=3) (v:=?_) rfl (by kernel_rfl) (by kernel_rfl) (by kernel_rfl) (fun _ _ _ h=>h) (Or.inl ⟨by rfl,?_⟩) (by assumption) ?_
  rotate_left 1
  ·(intro w al;(try dsimp only at al);obtain ⟨eT,eU⟩:=al;go_simp;try with_reducible rfl)
  try simp only[Act.put]
  refine wpAnyH_take (i:=4) (v:=?_) rfl (by kernel_rfl) (by kernel_rfl) (by kernel_rfl) (fun _ _ _ h=>h) (Or.inl ⟨by rfl,?_⟩) (by assumption) ?_
  rotate_left 1
  ·(intro w al;(try dsimp only at al);obtain ⟨eT,eU⟩:=al;go_simp;try with_reducible rfl)
  try simp only[Act.put]
  refine wpAnyH_take (i:=6) (v:=?_) rfl (by kernel_rfl) (by kernel_rfl) (by kernel_rfl) (fun _ _ _ h=>h) (Or.inl ⟨by rfl,?_⟩) (by assumption) ?_
  rotate_left 1
  ·(intro w al;(try dsimp only at al);obtain ⟨eT,eU⟩:=al;go_simp;try with_reducible rfl)
  try simp only[Act.put]
  refine wpAnyH_take (i:=7) (v:=?_) rfl (by kernel_rfl) (by kernel_rfl) (by kernel_rfl) (fun _ _ _ h=>h) (Or.inl ⟨by rfl,?_⟩) (by assumption) ?_
  rotate_left 1
  ·(intro w al;(try dsimp only at al);obtain ⟨eT,eU⟩:=al;go_simp;try with_reducible rfl)
  try simp only[Act.put]
  refine wpAnyH_ready (rs:=[5]) (by kernel_rfl) (by simp) ?_;refine AllReadyH.cons rfl (fun K hK=>?_) AllReadyH.nil
  go_simp
  refine (CH.o _).mono ?_;rintro e w3 ⟨rfl,bL⟩;subst w3;refine hK.out _ _ SW (fun ax=>?_);clear hK K
  try simp only[Act.put,zyO,zyZ,zyW]
  refine wpAnyH_ready (rs:=[8]) (by kernel_rfl) (by simp) ?_;refine AllReadyH.cons rfl (fun K hK=>?_) AllReadyH.nil
  go_simp
  refine (CB.o _ (H1.o.drewN 1)).mono ?_;cases r with
  |error j=>
   rintro e w7 ⟨f7,rfl,h7⟩;exact ⟨rfl,F1.o.drew.trans f7,rfl,h7⟩
  |ok m'=>
   rintro e w7 ⟨f7,rfl,h7⟩;have H7:=zab h7;have F7:=zab (F1.o.drew.trans f7);have B7:=Fr.blk B1.o.drew f7 bW.o;have S7:w7.cell? ⟨w.heap.size,0,none⟩=some (.int .i64 t)/\w7.cell? ⟨w.heap.size,1,none⟩=some (.int .i64 c):=⟨by simpa using Blk.cell B7 0,by simpa using Blk.cell B7 1⟩;clear f7 h7 B7;refine hK.out _ _ S7 (fun ax=>?_);clear hK K
   try simp only[Act.put,zyO,zyZ,zyW]
   refine wpAnyH_done (by kernel_rfl) ?_ _;clear SW S7;go_wp2_with fail
   first|go_end0|refine bodyPost_ret (results_none rfl _ _ _) rfl ?_
   exact ⟨F7.o,rfl,H7.o⟩
 ·cases hb
theorem zop{t c:Nat}{r:Except Nat MSt}(h:MAt w mb wb fv m)(hb:m.hold t c=some r):
  Calls prog 81 #[.pointer (some ⟨mb,0,none⟩),.iface 258 (.agg #[.int .i64 t,.int .i64 c])] w fun e w'=>Ends w mb wb fv r e w':=by
 unfold MSt.hold at hb;split at hb
 ·next hg=>
  have i0:=zkd;have i1:=zes;have i2:=zfb;have i3:=zkc;have i4:=ziG;have i5:=zhq;have H1:=zab (h.alloc (.cells #[.int .i64 t,.int .i64 c] 258));have B1:=zab (Blk.new w [.int .i64 t,.int .i64 c] 258);have F1:Hid (Fr (MB mb wb fv) w (w.alloc (.cells #[.int .i64 t,.int .i64 c] 258))):=zab ((Fr.refl _ _).alloc _);have bW:=zab (h.zc3 (zyN w.heap.size));clear h;go_enter func81,ntmps81
  go_wp2_with fail
  generalize w.alloc (.cells #[.int .i64 t,.int .i64 c] 258)=w1 at H1 F1 B1 ⊢;clear i0 i1 i2 i3 i4 i5;have CH:=zab (fun W:World=>zbt 2 t c W (by omega) hg.2 hg.1);obtain ⟨z,hz⟩:∃ z,Hd 2 t c=z:=⟨_,rfl⟩;rw[hz]at CH hb;have CB:=zab (fun (W:World) (hW:MAt W mb wb fv m)=>zpL hW (show c<=1000000 by omega) hb);have SW:w1.drew.cell? ⟨w.heap.size,0,none⟩=some (.int .i64 t)/\w1.drew.cell? ⟨w.heap.size,1,none⟩=some (.int .i64 c):=⟨by simpa using Blk.cell B1.o.drew 0,by simpa using Blk.cell B1.o.drew 1⟩;clear hb hz hg;refine wp_region_held_drew (S:=fun W=>W.cell? ⟨w.heap.size,0,none⟩=some (.int .i64 t)/\W.cell? ⟨w.heap.size,1,none⟩=some (.int .i64 c)) (by kernel_rfl) SW (fun ax=>?_);refine wpAnyH_take (i:=0) (v:=?_) rfl (by kernel_rfl) (by kernel_rfl) (by kernel_rfl) (fun _ _ _ h=>h) (Or.inl ⟨by rfl,?_⟩) (by assumption) ?_
  rotate_left 1
  ·(intro w al;(try dsimp only at al);obtain ⟨eT,eU⟩:=al;go_simp;try with_reducible rfl)
  try simp only[Act.put,zyO]
  refine wpAnyH_take (i:=1) (v:=?_) rfl (by kernel_rfl) (by kernel_rfl) (by kernel_rfl) (fun _ _ _ h=>h) (Or.inl ⟨by rfl,?_⟩) (by assumption) ?_
  rotate_left 1
  ·(intro w al;(try dsimp only at al);obtain ⟨eT,eU⟩:=al;go_simp;try with_reducible rfl)
  try simp only[Act.put]
  refine wpAnyH_take (i:=2) (v:=?_) rfl (by kernel_rfl) (by kernel_rfl) (by kernel_rfl) (fun _ _ _ h=>h) (Or.inl ⟨by rfl,?_⟩) (by assumption) ?_
  rotate_left 1
  ·(intro w al;(try dsimp only at al);obtain ⟨eT,eU⟩:=al;go_simp;try with_reducible rfl)
  try simp only[Act.put]
  refine wpAnyH_take (i:=3) (v:=?_) rfl (by kernel_rfl) (by kernel_rfl) (by kernel_rfl) (fun _ _ _ h=>h) (Or.inl ⟨by rfl,?_⟩) (by assumption) ?_
  rotate_left 1
  ·(intro w al;(try dsimp only at al);obtain ⟨eT,eU⟩:=al;go_simp;try with_reducible rfl)
  try simp only[Act.put]
  refine wpAnyH_take (i:=4) (v:=?_) rfl (by kernel_rfl) (by kernel_rfl) (by kernel_rfl) (fun _ _ _ h=>h) (Or.inl ⟨by rfl,?_⟩) (by assumption) ?_
  rotate_left 1
  ·(intro w al;(try dsimp only at al);obtain ⟨eT,eU⟩:=al;go_simp;try with_reducible rfl)
  try simp only[Act.put]
  refine wpAnyH_take (i:=6) (v:=?_) rfl (by kernel_rfl) (by kernel_rfl) (by kernel_rfl) (fun _ _ _ h=>h) (Or.inl ⟨by rfl,?_⟩) (by assumption) ?_
  rotate_left 1
  ·(intro w al;(try dsimp only at al);obtain ⟨eT,eU⟩:=al;go_simp;try with_reducible rfl)
  try simp only[Act.put]
  refine wpAnyH_take (i:=7) (v:=?_) rfl (by kernel_rfl) (by kernel_rfl) (by kernel_rfl) (fun _ _ _ h=>h) (Or.inl ⟨by rfl,?_⟩) (by assumption) ?_
  rotate_left 1
  ·(intro w al;(try dsimp only at al);obtain ⟨eT,eU⟩:=al;go_simp;try with_reducible rfl)
  try simp only[Act.put]
  refine wpAnyH_ready (rs:=[5]) (by kernel_rfl) (by simp) ?_;refine AllReadyH.cons rfl (fun K hK=>?_) AllReadyH.nil
  go_simp
  refine (CH.o _).mono ?_;rintro e w3 ⟨rfl,bL⟩;subst w3;refine hK.out _ _ SW (fun ax=>?_);clear hK K
  try simp only[Act.put,zyO,zyZ,zyW]
  refine wpAnyH_ready (rs:=[8]) (by kernel_rfl) (by simp) ?_;refine AllReadyH.cons rfl (fun K hK=>?_) AllReadyH.nil
  go_simp
  refine (CB.o _ (H1.o.drewN 1)).mono ?_;cases r with
  |error j=>
   rintro e w7 ⟨f7,rfl,h7⟩;exact ⟨rfl,F1.o.drew.trans f7,rfl,h7⟩
  |ok m'=>
   rintro e w7 ⟨f7,rfl,h7⟩;have H7:=zab h7;have F7:=zab (F1.o.drew.trans f7);have B7:=Fr.blk B1.o.drew f7 bW.o;have S7:w7.cell? ⟨w.heap.size,0,none⟩=some (.int .i64 t)/\w7.cell? ⟨w.heap.size,1,none⟩=some (.int .i64 c):=⟨by simpa using Blk.cell B7 0,by simpa using Blk.cell B7 1⟩;clear f7 h7 B7;refine hK.out _ _ S7 (fun ax=>?_);clear hK K
   try simp only[Act.put,zyO,zyZ,zyW]
   refine wpAnyH_done (by kernel_rfl) ?_ _;clear SW S7;go_wp2_with fail
   first|go_end0|refine bodyPost_ret (results_none rfl _ _ _) rfl ?_
   exact ⟨F7.o,rfl,H7.o⟩
 ·cases hb
def MSt.zln (m:MSt) (k c:Nat):Option (Except Nat MSt):=
 match m.slot k with
 |none=>none
 |some i=>
  match m.s.ws[i]? with
  |none=>none
  |some x=>if x<0 then none else
   match m.s.head x.toNat with
   |none=>none
   |some y=>if cnt y=c/\x.toNat+1+c<=m.s.ws.length/\m.s.top+c<=m.s.ws.length/\(i<x.toNat+1\/x.toNat+1+c<=i) then
     m.put (Sto.pop { m.s with ws:=Go.splice m.s.ws (x.toNat+1) (m.s.words m.s.top c) } c)
    else none
theorem zr0{ws xs:List Int}{o i:Nat}(h:o+xs.length<=ws.length)(hi:i<o\/o+xs.length<=i):(Go.splice ws o xs)[i]?=ws[i]?:=by
 unfold Go.splice;rcases hi with hi|hi
 ·rw[zzc (by rw[zzf];omega),List.getElem?_take_of_lt hi]
 ·rw[zy3 (by rw[zzf];omega),zzf,zzV (by omega),zy3 (by omega),zzx];congr 1;omega
theorem zuy{c:Nat}{r:Except Nat MSt}(h:MAt w mb wb fv m)(hb:m.zln k c=some r):
  Calls prog 81 #[.pointer (some ⟨mb,0,none⟩),.iface 260 (.agg #[.int .i64 k,.int .i64 c])] w fun e w'=>Ends w mb wb fv r e w':=by
 unfold MSt.zln at hb;split at hb
 ·cases hb
 ·next i hi=>
  split at hb
  ·cases hb
  ·next x hx=>
   split at hb
   ·cases hb
   ·next cX=>
    split at hb
    ·cases hb
    ·next y hh=>
     split at hb
     ·next hg=>
      simp only[MSt.put,zyX]at hb;obtain ⟨s4,dW,rfl⟩:=hb;obtain ⟨a,rfl⟩:∃ a:Nat,x=a:=⟨x.toNat,by omega⟩;simp only[zy2]at hh hg dW;obtain ⟨hy,aT,bE,aU⟩:=Sto.zaU hh;obtain ⟨bw,aF,aS,bM⟩:=hg;have br:=(zyL.1 hx).1;have jj:(c:Int)<4096:=by have:=zf2 y;omega
      have hlen:=h.sat.len;have i0:=zox;have i1:=zfN;have i2:=zhh;have i3:=zow;have i4:=zmZ;have i5:=zj9;have i6:=zov;have H1:=zab (h.alloc (.cells #[.int .i64 k,.int .i64 c] 260));have B1:=zab (Blk.new w [.int .i64 k,.int .i64 c] 260);have F1:Hid (Fr (MB mb wb fv) w (w.alloc (.cells #[.int .i64 k,.int .i64 c] 260))):=zab ((Fr.refl _ _).alloc _);have bW:=zab (h.zc3 (zyN w.heap.size));clear h;go_enter func81,ntmps81
      go_wp2_with fail
      generalize w.alloc (.cells #[.int .i64 k,.int .i64 c] 260)=w1 at H1 F1 B1 ⊢;clear i0 i1 i2 i3 i4 i5 i6;have HC:=zab (H1.o.drewN 1);have FC:Hid (Fr (M2 mb wb) w1 (w1.drewN 1)):=zab ((Fr.refl _ _).drewN 1);have CS:=zab (fun (W:World) (hW:MAt W mb wb fv m)=>zqS hW hi);have CF:=zab (fun (W:World) (hW:MAt W mb wb fv m)=>zcA hW.sat a y hy aT bE (show a+1+cnt y<=m.s.ws.length by omega));have CT:=zab (fun (W:World) (hW:MAt W mb wb fv m)=>zeZ hW.sat c aS);rw[show (y/16%4096).toNat=c from bw]at CF;have pN:=zab hx;have dk:(m.s.words m.s.top c).length=c:=Sto.zcR aS;have mD:Hid (∀ (j:Nat) x,(m.s.words m.s.top c)[j]?=some x->m.s.ws[m.s.top+j]?=some x):=zab (fun j x hj=>(Sto.zd7 hj).2);have ug:Hid (0<c->cutAt m.s.ws.length (a+1)=a+1):=zab (fun h0=>zbT (by omega));have mA:Hid (0<c->cutAt m.s.ws.length m.s.top=m.s.top):=zab (fun h0=>zbT (by omega));have uh:Hid (cutAt m.s.ws.length (a+1)+c<=m.s.ws.length):=zab (by unfold cutAt;split <;> omega);obtain ⟨L,hL⟩:∃ L,m.s.ws.length=L:=⟨_,rfl⟩;have o4:(i:Int)<(L:Int):=by omega
      have HL:=zab hL;have c0:=H1.o.sat.c0;rw[hL]at c0 ug mA uh CF CT;generalize cutAt L (a+1)=o1 at ug uh CF;generalize cutAt L m.s.top=o2 at mA CT;generalize L-(a+1)=q1 at CF;generalize L-m.s.top=q2 at CT;generalize m.s.words m.s.top c=xs at dk mD dW;have kE:Hid (Sto.pop { m.s with ws:=Go.splice m.s.ws o1 xs } c=some s4):=zab (by
       by_cases h0:c=0
       ·have cX:xs=[]:=zzt (by omega);rw[cX]at dW ⊢;simpa [Go.splice] using dW
       ·rw[ug.o (by omega)];exact dW)
      have CY:Hid ((Go.splice m.s.ws o1 xs)[i]?=some (a:Int)):=zab (by
       by_cases h0:c=0
       ·have cX:xs=[]:=zzt (by omega);rw[cX];simpa [Go.splice] using hx
       ·rw[zr0 (by rw[dk,hL];exact uh.o) (by rw[ug.o (by omega),dk];exact bM)];exact hx)
      have cb:w1.cell? ⟨w.heap.size,0,none⟩=some (.int .i64 k):=by simpa using Blk.cell B1.o 0
      have cc:w1.cell? ⟨w.heap.size,1,none⟩=some (.int .i64 c):=by simpa using Blk.cell B1.o 1
      have cx:=H1.o.sat.word hx;have fZ:Hid (o1+xs.length<=m.s.ws.length):=zab (by rw[dk,hL];exact uh.o);have FY:=zab (And.intro aF aS);clear hi hx hh bw aF aS bM hy aT bE aU br hL dW hlen cX
      go_region_held3 (fun W=>W.cell? ⟨mb,0,none⟩=some (.slice (some ⟨wb,0,none⟩) L L)/\W.cell? ⟨w.heap.size,0,none⟩=some (.int .i64 k)/\W.cell? ⟨w.heap.size,1,none⟩=some (.int .i64 c)/\W.cell? ⟨wb,i,none⟩=some (.int .i64 a)) (first|go_keep|(refine ⟨?_,?_,?_,?_⟩ <;> assumption)) (first
       |(go_at_call 131;refine (CS.o _ HC.o).mono ?_;rintro e w3 ⟨rfl,k3,bL⟩;have nw:Hid (MAt w3 mb wb fv m):=zab (by rw[bL];exact HC.o.drewN k3);have nr:Hid (Fr (M2 mb wb) w1 w3):=zab (by rw[bL];exact FC.o.drewN k3);clear HC FC bL;have HC:=nw;have FC:=nr;clear nw nr;have d0:w3.cell? ⟨mb,0,none⟩=some (.slice (some ⟨wb,0,none⟩) L L):=(by rw[HC.o.sat.c0,HL.o]);have db:w3.cell? ⟨w.heap.size,0,none⟩=some (.int .i64 k):=(by simpa using Blk.cell (Fr.blk B1.o (FC.o.zc9 fv) bW.o) 0);have dc:w3.cell? ⟨w.heap.size,1,none⟩=some (.int .i64 c):=(by simpa using Blk.cell (Fr.blk B1.o (FC.o.zc9 fv) bW.o) 1);have dx:=HC.o.sat.word pN.o)
       |(go_at_call 135;refine (CF.o _ HC.o).mono ?_;rintro e w3 ⟨rfl,k3,bL⟩;have nw:Hid (MAt w3 mb wb fv m):=zab (by rw[bL];exact HC.o.drewN k3);have nr:Hid (Fr (M2 mb wb) w1 w3):=zab (by rw[bL];exact FC.o.drewN k3);clear HC FC bL;have HC:=nw;have FC:=nr;clear nw nr;have d0:w3.cell? ⟨mb,0,none⟩=some (.slice (some ⟨wb,0,none⟩) L L):=(by rw[HC.o.sat.c0,HL.o]);have db:w3.cell? ⟨w.heap.size,0,none⟩=some (.int .i64 k):=(by simpa using Blk.cell (Fr.blk B1.o (FC.o.zc9 fv) bW.o) 0);have dc:w3.cell? ⟨w.heap.size,1,none⟩=some (.int .i64 c):=(by simpa using Blk.cell (Fr.blk B1.o (FC.o.zc9 fv) bW.o) 1);have dx:=HC.o.sat.word pN.o)
       |(go_at_call 136;refine (CT.o _ HC.o).mono ?_;rintro e w3 ⟨rfl,k3,bL⟩;have nw:Hid (MAt w3 mb wb fv m):=zab (by rw[bL];exact HC.o.drewN k3);have nr:Hid (Fr (M2 mb wb) w1 w3):=zab (by rw[bL];exact FC.o.drewN k3);clear HC FC bL;have HC:=nw;have FC:=nr;clear nw nr;have d0:w3.cell? ⟨mb,0,none⟩=some (.slice (some ⟨wb,0,none⟩) L L):=(by rw[HC.o.sat.c0,HL.o]);have db:w3.cell? ⟨w.heap.size,0,none⟩=some (.int .i64 k):=(by simpa using Blk.cell (Fr.blk B1.o (FC.o.zc9 fv) bW.o) 0);have dc:w3.cell? ⟨w.heap.size,1,none⟩=some (.int .i64 c):=(by simpa using Blk.cell (Fr.blk B1.o (FC.o.zc9 fv) bW.o) 1);have dx:=HC.o.sat.word pN.o)
       |(refine za6 (by rfl) _ _ (by rfl) HC.o.sat o1 _ _ _ _ _ (by rfl) (by rfl) xs (by rw[dk];exact (Nat.min_self c).symm) (fun h0=>⟨_,rfl,fun j x hj=>by rw[zbe,mA.o (by omega)];exact HC.o.sat.word (mD.o j x hj)⟩) fZ.o ?_;intro w8 h8 f8;have H8:=zab h8;have F8:=zab (FC.o.trans f8);have e0:w8.cell? ⟨mb,0,none⟩=some (.slice (some ⟨wb,0,none⟩) L L):=(by rw[h8.c0];simp only;rw[zaY _ _ _ fZ.o,HL.o]);have eb:w8.cell? ⟨w.heap.size,0,none⟩=some (.int .i64 k):=(by simpa using Blk.cell (Fr.blk B1.o (F8.o.zc9 fv) bW.o) 0);have ec:w8.cell? ⟨w.heap.size,1,none⟩=some (.int .i64 c):=(by simpa using Blk.cell (Fr.blk B1.o (F8.o.zc9 fv) bW.o) 1);have ex:=h8.word CY.o;clear h8 f8))
      all_goals
       clear c0 cb cc cx d0 db dc dx e0 eb ex;go_wp2_with fail
       go_region_held3 (fun W=>W.cell? ⟨w.heap.size,1,none⟩=some (.int .i64 c)) (first|go_keep|assumption) ((go_at_call 137;refine (Sto.zbQ H8.o.drew kE.o).mono ?_;rintro e w9 ⟨rfl,h9,f9⟩;have H9:=zab h9;have F9:=zab (F8.o.drew.trans f9);have eb:w9.cell? ⟨w.heap.size,1,none⟩=some (.int .i64 c):=(by simpa using Blk.cell (Fr.blk B1.o (F9.o.zc9 fv) bW.o) 1);clear h9 f9))
       all_goals
        go_wp2_with fail
        first|go_end0|refine bodyPost_ret (results_none rfl _ _ _) rfl ?_
        exact ⟨F1.o.trans (F9.o.zc9 fv),rfl,H1.o.fr2 H9.o F9.o⟩
     ·cases hb
end Go.Proofs.YtgahgkddaljmkaaGreatDoor
namespace Go.Proofs.YtgahgkddaljmkaaGreatDoor
open Tryz
open Go.RowKit
inductive Ins where
 |push (k:Nat)
 |zcW (f:Nat)
 |num (v:Int)
 |pack (t c:Nat)
 |close (b c:Nat)
 |hold (b c:Nat)
 |fill (k c:Nat)
 |wait (b:Nat)
 |zbF (c:Nat)
 |zci (c:Nat)
 |zbX
 |comp (sg:ByteArray)
 |enter
 |jump (b:Nat)
 |choose (zao:List (Nat × Nat × Nat))
def IAt (w:World) (mb wb:Nat) (fv:Value) (v:Value):Ins->Prop
 |.push k=>v=.iface 248 (.agg #[.int .i64 k])
 |.zcW f=>v=.iface 250 (.agg #[.int .i64 f])
 |.num x=>v=.iface 252 (.agg #[.int .i64 x])
 |.pack t c=>v=.iface 254 (.agg #[.int .i64 t,.int .i64 c])
 |.close b c=>v=.iface 257 (.agg #[.int .i64 b,.int .i64 c])
 |.hold b c=>v=.iface 258 (.agg #[.int .i64 b,.int .i64 c])
 |.fill k c=>v=.iface 260 (.agg #[.int .i64 k,.int .i64 c])
 |.wait b=>v=.iface 263 (.agg #[.int .i64 b])
 |.zbF c=>v=.iface 267 (.agg #[.int .i64 c])
 |.zci c=>v=.iface 268 (.agg #[.int .i64 c])
 |.zbX=>v=.iface 269 (.agg #[])
 |.comp sg=>v=.iface 272 (.agg #[.string sg])
 |.enter=>v=.iface 185 (.agg #[])
 |.jump b=>v=.iface 273 (.agg #[.int .i64 b])
 |.choose zao=>∃ av,v=.iface 276 (.agg #[av])/\zgI w mb wb fv av zao
theorem IAt.fr{w w':World}{mb wb:Nat}{fv v:Value}{i:Ins}(h:IAt w mb wb fv v i)(f:Fr (MB mb wb fv) w w'):IAt w' mb wb fv v i:=by
 cases i <;> first|exact h|(obtain ⟨av,h1,h2⟩:=h;exact ⟨av,h1,h2.fr f⟩)
def MSt.step (m:MSt) (sl:List Nat):Ins->Option (Except Nat MSt)
 |.push k=>m.ziT k
 |.zcW f=>m.zcW f
 |.num x=>m.zau x
 |.pack t c=>m.pack 1 t c
 |.close b c=>m.pack 2 b c
 |.hold b c=>m.hold b c
 |.fill k c=>m.zln k c
 |.wait b=>m.zcH 1 b
 |.zbF c=>m.zcH 2 c
 |.zci c=>(m.zci c).map .ok
 |.zbX=>(m.numberAt 0).map fun q=>q.map fun _=>m
 |.comp sg=>m.compute sg
 |.enter=>m.enter sl
 |.jump b=>some (.ok { m with o:={ m.o with next:=b } })
 |.choose zao=>m.choose zao
variable {w:World}{mb wb:Nat}{fv v:Value}{m:MSt}
theorem zwn{sl:List Nat}{i:Ins}{r:Except Nat MSt}(h:MAt w mb wb fv m)(hB:BAt w mb wb fv m.o.pb sl)(hi:IAt w mb wb fv v i)(hb:m.step sl i=some r):
  Calls prog 81 #[.pointer (some ⟨mb,0,none⟩),v] w fun e w'=>Ends w mb wb fv r e w':=by
 cases i with
 |push k=>obtain rfl:=hi;exact zuB h hb
 |zcW f=>obtain rfl:=hi;exact zhV h hb
 |num x=>obtain rfl:=hi;exact zjX h hb
 |pack t c=>obtain rfl:=hi;exact zuA h hb
 |close b c=>obtain rfl:=hi;exact zr3 h hb
 |hold b c=>obtain rfl:=hi;exact zop h hb
 |fill k c=>obtain rfl:=hi;exact zuy h hb
 |wait b=>obtain rfl:=hi;exact zuC h hb
 |zbF c=>obtain rfl:=hi;exact zhW h hb
 |zci c=>
  obtain rfl:=hi;simp only[MSt.step,zyX]at hb;obtain ⟨m2,h2,rfl⟩:=hb;exact zr5 h h2 rfl
 |zbX=>
  obtain rfl:=hi;simp only[MSt.step,zyX]at hb;obtain ⟨q,h2,rfl⟩:=hb;exact zjW h h2 rfl
 |comp sg=>obtain rfl:=hi;exact zoo h hb
 |enter=>obtain rfl:=hi;exact zr4 h hB hb
 |jump b=>obtain rfl:=hi;exact zuz h (zyU hb).symm
 |choose zao=>obtain ⟨av,rfl,hA⟩:=hi;exact zpW h hA hb
def zjL (r:Int):Bool:=r == 32||r == 10
def zdl (r:Int):Bool:=decide (97<=r) && decide (r<=122)
def zem (r:Int):Bool:=decide (48<=r) && decide (r<=57)
def zjM (r:Int):Bool:=zdl r||zem r
theorem zgo(r:Int)(w:World):
  Calls prog 189 #[.int .i32 r] w fun e w'=>e=.returned (.bool (zjL r))/\w'=w:=by
 by_cases h:(r == 32)=true
 ·go_enter func189,ntmps189
  go_wp2
  go_ret
  exact ⟨by simp[zjL,h],rfl⟩
 ·have h:(r == 32)=false:=by simpa using h
  go_enter func189,ntmps189
  go_wp2
  go_ret
  exact ⟨by simp[zjL,h],rfl⟩
theorem zdz(r:Int)(w:World):
  Calls prog 242 #[.int .i32 r] w fun e w'=>e=.returned (.bool (zdl r))/\w'=w:=by
 by_cases h:97<=r
 ·go_enter func242,ntmps242
  go_wp2
  go_ret
  exact ⟨by simp[zdl,h],rfl⟩
 ·have hd:decide (97<=r)=false:=by simpa using h
  go_enter func242,ntmps242
  go_wp2
  go_ret
  exact ⟨by simp[zdl,hd],rfl⟩
theorem zeh(r:Int)(w:World):
  Calls prog 245 #[.int .i32 r] w fun e w'=>e=.returned (.bool (zem r))/\w'=w:=by
 by_cases h:48<=r
 ·go_enter func245,ntmps245
  go_wp2
  go_ret
  exact ⟨by simp[zem,h],rfl⟩
 ·have hd:decide (48<=r)=false:=by simpa using h
  go_enter func245,ntmps245
  go_wp2
  go_ret
  exact ⟨by simp[zem,hd],rfl⟩
theorem zmr(r:Int)(w:World):
  Calls prog 244 #[.int .i32 r] w fun e w'=>e=.returned (.bool (zjM r))/\w'=w:=by
 cases h:zdl r
 ·go_enter func244,ntmps244
  go_wp2_with fail
  refine (zdz r _).mono ?_;rintro e w' ⟨rfl,rfl⟩;rw[h];go_wp2_with fail
  refine (zeh r _).mono ?_;rintro e w' ⟨rfl,rfl⟩;go_wp2_with fail
  go_ret
  exact ⟨by simp[zjM,h],rfl⟩
 ·go_enter func244,ntmps244
  go_wp2_with fail
  refine (zdz r _).mono ?_;rintro e w' ⟨rfl,rfl⟩;rw[h];go_wp2_with fail
  go_ret
  exact ⟨by simp[zjM,h],rfl⟩
theorem zgg{q:UInt8->Bool}:∀ (l:List UInt8) (k:Nat),k<=l.length->(∀ j (h:j<l.length),j<k->q l[j]=true) ->
  (∀ (h:k<l.length),q l[k]=false)->(l.takeWhile q).length=k
 |[],k,hk,_,_=>by simp at hk;simp[hk]
 |c::l,0,_,_,h2=>by
  have:=h2 (by simp);simp at this;simp[this]
 |c::l,k+1,hk,h1,h2=>by
  have a:=h1 0 (by simp) (by omega);simp at a;have ih:=zgg l k (by simpa using hk) (fun j h hj=>by have:=h1 (j+1) (by simpa using h) (by omega);simpa using this)
   (fun h=>by have:=h2 (by simpa using h);simpa using this)
  simp[a,ih]
theorem zyj(c:UInt8)(_h:c.toNat<128):Th.zda c=zjL c.toNat:=by
 unfold Th.zda zjL;rw[zAa];simp[<-UInt8.toNat_inj];omega
theorem zw8(c:UInt8)(h:128<=c.toNat):Th.zda c=false:=by
 unfold Th.zda;simp[<-UInt8.toNat_inj];omega
theorem zw9(r:Int)(h:128<=r):zjL r=false:=by
 unfold zjL;simp;omega
theorem zsS(c:UInt8)(_h:c.toNat<128):Th.zba c=zem c.toNat:=by
 unfold Th.zba zem;rw[zAa];simp;omega
theorem zvo(c:UInt8)(h:128<=c.toNat):Th.zba c=false:=by
 unfold Th.zba;simp;omega
theorem zvp(r:Int)(h:128<=r):zem r=false:=by
 unfold zem;simp;omega
theorem zxx(c:UInt8)(_h:c.toNat<128):Th.isLet c=zdl c.toNat:=by
 unfold Th.isLet zdl;rw[zAa];simp;omega
theorem zyH(c:UInt8)(h:c.toNat<128):Th.zlx c=zjM c.toNat:=by
 unfold Th.zlx zjM;rw[zsS c h,zxx c h]
theorem zx4(c:UInt8)(h:128<=c.toNat):Th.zlx c=false:=by
 unfold Th.zlx Th.isLet Th.zba;simp;omega
theorem zx5(r:Int)(h:128<=r):zjM r=false:=by
 unfold zjM zdl zem;simp;omega
theorem zxR(s:ByteArray)(w:World)(_hs:s.size<9223372036854775807):
  Calls prog 188 #[.string s,.func (.func 189) #[] #[]] w fun e w'=>e=.returned (.int .i64 (s.data.toList.takeWhile Th.zda).length)/\∃ pos,w'=w.alloc (.stringIter s pos):=by
 go_enter func188,ntmps188
 go_wp2_with fail
 go_loopw [5] (fun _ w'=>∃ pos:Nat,w'=w.iter s pos/\pos<=s.size/\Hid (∀ j (h:j<s.size),j<pos->Th.zda s[j]=true)) (fun _ w'=>s.size-w'.iterPos w.heap.size)
 case atStart=>exact ⟨0,rfl,zy5 _,zab (fun _ _ h=>by omega)⟩
 case round=>
  obtain ⟨pos,rfl,hp,hall⟩:=hrel;by_cases aj:pos<s.size
  ·by_cases hb:(s[pos]'aj).toNat<128
   ·have gx:∀ ty,(Instr.next (.pointer (some ⟨w.heap.size,0,none⟩)) true ty).run prog (w.iter s pos)=_:=fun ty=>run_next_ascii w s pos ty aj hb
    have nV:=zab (zyj (s[pos]'aj) hb);clear hb;cases hv:Th.zda s[pos]
    ·have dZ:=zab hv;clear hv;go_wp2_with fail
     refine (zgo _ _).mono ?_;rintro e w' ⟨rfl,rfl⟩;rw[<-nV.o,dZ.o];go_wp2_with fail
     go_ret
     refine ⟨?_,_,rfl⟩;rw[zgg s.data.toList pos (by simp;omega) (fun j h hj=>hall.o j (by simpa using h) hj) (fun h=>dZ.o)];rfl
    ·have dZ:=zab hv;clear hv;go_wp2_with fail
     refine (zgo _ _).mono ?_;rintro e w' ⟨rfl,rfl⟩;rw[<-nV.o,dZ.o];go_wp2_with fail
     go_roundw
     case rel=>
      refine ⟨pos+1,rfl,by omega,zab fun j h hj=>?_⟩;by_cases e:j=pos
      ·subst e;exact dZ.o
      ·exact hall.o j h (by omega)
     case measure=>
      simp;omega
   ·have gx:∀ ty,(Instr.next (.pointer (some ⟨w.heap.size,0,none⟩)) true ty).run prog (w.iter s pos)=_:=fun ty=>run_next_any w s pos ty aj
    have dZ:=zab (zw8 _ (by omega:128<=(s[pos]'aj).toNat));have hd:=(decode_high s pos aj (by omega)).1;have tz:=zab (zw9 ((Utf8.decode s pos).1:Int) (by omega));clear hb hd;go_wp2_with fail
    refine (zgo _ _).mono ?_;rintro e w' ⟨rfl,rfl⟩;rw[tz.o];go_wp2_with fail
    go_ret
    refine ⟨?_,_,rfl⟩;rw[zgg s.data.toList pos (by simp;omega) (fun j h hj=>hall.o j (by simpa using h) hj) (fun h=>dZ.o)];rfl
  ·have gx:∀ ty,(Instr.next (.pointer (some ⟨w.heap.size,0,none⟩)) true ty).run prog (w.iter s pos)=_:=fun ty=>run_next_end w s pos ty aj
   go_wp2_with fail
   go_ret
   refine ⟨?_,_,rfl⟩;rw[zgg s.data.toList s.size (by simp) (fun j h hj=>hall.o j (by simpa using h) (by omega)) (fun h=>by simp at h)];rfl
theorem zxS(s:ByteArray)(w:World)(_hs:s.size<9223372036854775807):
  Calls prog 188 #[.string s,.func (.func 244) #[] #[]] w fun e w'=>e=.returned (.int .i64 (s.data.toList.takeWhile Th.zlx).length)/\∃ pos,w'=w.alloc (.stringIter s pos):=by
 go_enter func188,ntmps188
 go_wp2_with fail
 go_loopw [5] (fun _ w'=>∃ pos:Nat,w'=w.iter s pos/\pos<=s.size/\Hid (∀ j (h:j<s.size),j<pos->Th.zlx s[j]=true)) (fun _ w'=>s.size-w'.iterPos w.heap.size)
 case atStart=>exact ⟨0,rfl,zy5 _,zab (fun _ _ h=>by omega)⟩
 case round=>
  obtain ⟨pos,rfl,hp,hall⟩:=hrel;by_cases aj:pos<s.size
  ·by_cases hb:(s[pos]'aj).toNat<128
   ·have gx:∀ ty,(Instr.next (.pointer (some ⟨w.heap.size,0,none⟩)) true ty).run prog (w.iter s pos)=_:=fun ty=>run_next_ascii w s pos ty aj hb
    have nV:=zab (zyH (s[pos]'aj) hb);clear hb;cases hv:Th.zlx s[pos]
    ·have dZ:=zab hv;clear hv;go_wp2_with fail
     refine (zmr _ _).mono ?_;rintro e w' ⟨rfl,rfl⟩;rw[<-nV.o,dZ.o];go_wp2_with fail
     go_ret
     refine ⟨?_,_,rfl⟩;rw[zgg s.data.toList pos (by simp;omega) (fun j h hj=>hall.o j (by simpa using h) hj) (fun h=>dZ.o)];rfl
    ·have dZ:=zab hv;clear hv;go_wp2_with fail
     refine (zmr _ _).mono ?_;rintro e w' ⟨rfl,rfl⟩;rw[<-nV.o,dZ.o];go_wp2_with fail
     go_roundw
     case rel=>
      refine ⟨pos+1,rfl,by omega,zab fun j h hj=>?_⟩;by_cases e:j=pos
      ·subst e;exact dZ.o
      ·exact hall.o j h (by omega)
     case measure=>
      simp;omega
   ·have gx:∀ ty,(Instr.next (.pointer (some ⟨w.heap.size,0,none⟩)) true ty).run prog (w.iter s pos)=_:=fun ty=>run_next_any w s pos ty aj
    have dZ:=zab (zx4 _ (by omega:128<=(s[pos]'aj).toNat));have hd:=(decode_high s pos aj (by omega)).1;have tz:=zab (zx5 ((Utf8.decode s pos).1:Int) (by omega));clear hb hd;go_wp2_with fail
    refine (zmr _ _).mono ?_;rintro e w' ⟨rfl,rfl⟩;rw[tz.o];go_wp2_with fail
    go_ret
    refine ⟨?_,_,rfl⟩;rw[zgg s.data.toList pos (by simp;omega) (fun j h hj=>hall.o j (by simpa using h) hj) (fun h=>dZ.o)];rfl
  ·have gx:∀ ty,(Instr.next (.pointer (some ⟨w.heap.size,0,none⟩)) true ty).run prog (w.iter s pos)=_:=fun ty=>run_next_end w s pos ty aj
   go_wp2_with fail
   go_ret
   refine ⟨?_,_,rfl⟩;rw[zgg s.data.toList s.size (by simp) (fun j h hj=>hall.o j (by simpa using h) (by omega)) (fun h=>by simp at h)];rfl
theorem zwj(s:ByteArray)(w:World)(_hs:s.size<9223372036854775807):
  Calls prog 188 #[.string s,.func (.func 245) #[] #[]] w fun e w'=>e=.returned (.int .i64 (s.data.toList.takeWhile Th.zba).length)/\∃ pos,w'=w.alloc (.stringIter s pos):=by
 go_enter func188,ntmps188
 go_wp2_with fail
 go_loopw [5] (fun _ w'=>∃ pos:Nat,w'=w.iter s pos/\pos<=s.size/\Hid (∀ j (h:j<s.size),j<pos->Th.zba s[j]=true)) (fun _ w'=>s.size-w'.iterPos w.heap.size)
 case atStart=>exact ⟨0,rfl,zy5 _,zab (fun _ _ h=>by omega)⟩
 case round=>
  obtain ⟨pos,rfl,hp,hall⟩:=hrel;by_cases aj:pos<s.size
  ·by_cases hb:(s[pos]'aj).toNat<128
   ·have gx:∀ ty,(Instr.next (.pointer (some ⟨w.heap.size,0,none⟩)) true ty).run prog (w.iter s pos)=_:=fun ty=>run_next_ascii w s pos ty aj hb
    have nV:=zab (zsS (s[pos]'aj) hb);clear hb;cases hv:Th.zba s[pos]
    ·have dZ:=zab hv;clear hv;go_wp2_with fail
     refine (zeh _ _).mono ?_;rintro e w' ⟨rfl,rfl⟩;rw[<-nV.o,dZ.o];go_wp2_with fail
     go_ret
     refine ⟨?_,_,rfl⟩;rw[zgg s.data.toList pos (by simp;omega) (fun j h hj=>hall.o j (by simpa using h) hj) (fun h=>dZ.o)];rfl
    ·have dZ:=zab hv;clear hv;go_wp2_with fail
     refine (zeh _ _).mono ?_;rintro e w' ⟨rfl,rfl⟩;rw[<-nV.o,dZ.o];go_wp2_with fail
     go_roundw
     case rel=>
      refine ⟨pos+1,rfl,by omega,zab fun j h hj=>?_⟩;by_cases e:j=pos
      ·subst e;exact dZ.o
      ·exact hall.o j h (by omega)
     case measure=>
      simp;omega
   ·have gx:∀ ty,(Instr.next (.pointer (some ⟨w.heap.size,0,none⟩)) true ty).run prog (w.iter s pos)=_:=fun ty=>run_next_any w s pos ty aj
    have dZ:=zab (zvo _ (by omega:128<=(s[pos]'aj).toNat));have hd:=(decode_high s pos aj (by omega)).1;have tz:=zab (zvp ((Utf8.decode s pos).1:Int) (by omega));clear hb hd;go_wp2_with fail
    refine (zeh _ _).mono ?_;rintro e w' ⟨rfl,rfl⟩;rw[tz.o];go_wp2_with fail
    go_ret
    refine ⟨?_,_,rfl⟩;rw[zgg s.data.toList pos (by simp;omega) (fun j h hj=>hall.o j (by simpa using h) hj) (fun h=>dZ.o)];rfl
  ·have gx:∀ ty,(Instr.next (.pointer (some ⟨w.heap.size,0,none⟩)) true ty).run prog (w.iter s pos)=_:=fun ty=>run_next_end w s pos ty aj
   go_wp2_with fail
   go_ret
   refine ⟨?_,_,rfl⟩;rw[zgg s.data.toList s.size (by simp) (fun j h hj=>hall.o j (by simpa using h) (by omega)) (fun h=>by simp at h)];rfl
abbrev zsb (k:Nat) (s:List UInt8) (p:Int):Value:=.agg #[.int .i64 k,.string ⟨s.toArray⟩,.int .i64 p]
theorem sz(s:ByteArray):s.data.toList.length=s.size:=by simp
theorem znp(s:ByteArray):(⟨s.data.toList.toArray⟩:ByteArray)=s:=by cases s;simp
theorem zrL(s:ByteArray)(w:World)(_hs:s.size<9223372036854775807):
  Calls prog 246 #[.string s] w fun e w'=>e=.returned (zsb (Th.zo7 s.data.toList).1 (Th.zo7 s.data.toList).2 0)/\Below w.heap.size w w':=by
 by_cases h:9<s.size
 ·have e:Th.zo7 s.data.toList=(1,[]):=by simp[Th.zo7,h]
  rw[e];clear e;go_enter func246,ntmps246
  go_wp2_with fail
  go_returns
  exact ⟨rfl,zam _ _⟩
 ·have e:Th.zo7 s.data.toList=(3,s.data.toList):=by simp[Th.zo7,h]
  rw[e];clear e;go_enter func246,ntmps246
  go_wp2_with fail
  go_returns
  exact ⟨by rw[zsb,znp];rfl,zam _ _⟩
theorem zwF(s:ByteArray)(w:World):
  Calls prog 243 #[.string s] w fun e w'=>e=.returned (zsb (Th.word s.data.toList).1 (Th.word s.data.toList).2 0)/\Below w.heap.size w w':=by
 cases h0:s.toList == [108,101,116]
 case true=>
  have e:Th.word s.data.toList=(4,s.data.toList):=by
   rw[<-ByteArray.toList_eq];simp only[Th.word,Th.zxv,Th.zqP,Th.zo8,Th.sIn,Th.zjO,Th.sOf,h0,zAv,if_true]
  rw[e];clear e;go_enter func243,ntmps243
  go_wp2_with fail
  go_returns
  exact ⟨by rw[zsb,znp];rfl,zam _ _⟩
 cases h1:s.toList == [114,101,99]
 case true=>
  have e:Th.word s.data.toList=(4,s.data.toList):=by
   rw[<-ByteArray.toList_eq];simp only[Th.word,Th.zxv,Th.zqP,Th.zo8,Th.sIn,Th.zjO,Th.sOf,h0,h1,zAu,zAv,if_true]
  rw[e];clear e;go_enter func243,ntmps243
  go_wp2_with fail
  go_returns
  exact ⟨by rw[zsb,znp];rfl,zam _ _⟩
 cases h2:s.toList == [105,110]
 case true=>
  have e:Th.word s.data.toList=(4,s.data.toList):=by
   rw[<-ByteArray.toList_eq];simp only[Th.word,Th.zxv,Th.zqP,Th.zo8,Th.sIn,Th.zjO,Th.sOf,h0,h1,h2,zAu,zAv,zAm,if_true]
  rw[e];clear e;go_enter func243,ntmps243
  go_wp2_with fail
  go_returns
  exact ⟨by rw[zsb,znp];rfl,zam _ _⟩
 cases h3:s.toList == [99,97,115,101]
 case true=>
  have e:Th.word s.data.toList=(4,s.data.toList):=by
   rw[<-ByteArray.toList_eq];simp only[Th.word,Th.zxv,Th.zqP,Th.zo8,Th.sIn,Th.zjO,Th.sOf,h0,h1,h2,h3,zAu,zAv,zAm,if_true]
  rw[e];clear e;go_enter func243,ntmps243
  go_wp2_with fail
  go_returns
  exact ⟨by rw[zsb,znp];rfl,zam _ _⟩
 cases h4:s.toList == [111,102]
 case true=>
  have e:Th.word s.data.toList=(4,s.data.toList):=by
   rw[<-ByteArray.toList_eq];simp only[Th.word,Th.zxv,Th.zqP,Th.zo8,Th.sIn,Th.zjO,Th.sOf,h0,h1,h2,h3,h4,zAu,zAm,if_true]
  rw[e];clear e;go_enter func243,ntmps243
  go_wp2_with fail
  go_returns
  exact ⟨by rw[zsb,znp];rfl,zam _ _⟩
 have e:Th.word s.data.toList=(2,s.data.toList):=by
  rw[<-ByteArray.toList_eq];simp only[Th.word,Th.zxv,Th.zqP,Th.zo8,Th.sIn,Th.zjO,Th.sOf,h0,h1,h2,h3,h4,zAm];rfl
 rw[e];clear e;go_enter func243,ntmps243
 go_wp2_with fail
 go_returns
 exact ⟨by rw[zsb,znp];rfl,zam _ _⟩
theorem zyu(s:List UInt8)(a b:UInt8):Lib.hasPrefix s [a,b]=(s.take 2 == [a,b]):=by
 cases s with
 |nil=>rfl
 |cons c s=>cases s with
  |nil=>simp[Lib.hasPrefix,List.isPrefixOf]
  |cons d s=>
   rw[zAa];simp[Lib.hasPrefix,List.isPrefixOf];constructor
   ·rintro ⟨rfl,rfl⟩;exact ⟨rfl,rfl⟩
   ·rintro ⟨rfl,rfl⟩;exact ⟨rfl,rfl⟩
theorem zjl(l:List UInt8)(c:UInt8):0<=Lib.indexByte l c↔c∈l:=by
 induction l with
 |nil=>simp[Lib.indexByte]
 |cons b l ih=>
  have hg:=Lib.indexByte_ge l c;simp only[Lib.indexByte];by_cases h:b=c
  ·simp[h]
  ·have h':¬ c=b:=fun e=>h e.symm
   simp only[beq_iff_eq,h,if_false,zzo,h',false_or,<-ih];split <;> omega
variable {l:List UInt8}
theorem zjS(h:(l.take 2 == [45,62]||l.take 2 == [61,61])=true):Th.zbH l=2:=by
 simp only[Th.zbH,h,if_true]
variable {c:UInt8}
theorem zpO{r:List UInt8}(e:l=c::r)(h:(l.take 2 == [45,62]||l.take 2 == [61,61])=false)(h1:0<=Lib.indexByte Th.zpP c):Th.zbH l=1:=by
 subst e;have hc:Th.zpP.contains c=true:=by simpa using (zjl _ _).1 h1
 simp only[Th.zbH,h,zzw,if_false,hc,if_true]
theorem zrW{r:List UInt8}(e:l=c::r)(h:(l.take 2 == [45,62]||l.take 2 == [61,61])=false)(h1:¬ 0<=Lib.indexByte Th.zpP c):Th.zbH l=0:=by
 subst e;have hc:Th.zpP.contains c=false:=by rw[<-Bool.not_eq_true];intro hc;exact h1 ((zjl _ _).2 (by simpa using hc))
 simp only[Th.zbH,h,zzw,if_false,hc]
theorem zpe(s:ByteArray)(h:0<s.size):∃ r,s.data.toList=s[0]::r:=by
 cases s with
 |mk d=>cases d with
  |mk l=>cases l with
   |nil=>exact absurd h (by decide)
   |cons c r=>exact ⟨r,rfl⟩
theorem zkJ(s:ByteArray)(w:World)(h0:0<s.size):
  Calls prog 247 #[.string s] w fun e w'=>e=.returned (.int .i64 (Th.zbH s.data.toList))/\w'=w:=by
 obtain ⟨r,hr⟩:=zpe s h0;have Hr:=zab hr;clear hr;cases h1:s.data.toList.take 2 == [45,62]
 ·have H1:=zab h1;clear h1;cases h2:s.data.toList.take 2 == [61,61]
  ·have H2:=zab h2;clear h2;have H0:=zab (show (s.data.toList.take 2 == [45,62]||s.data.toList.take 2 == [61,61])=false by rw[H1.o,H2.o];rfl);go_enter func247,ntmps247
   go_wp2_with fail
   refine (Tryz.strings_HasPrefix _ _ _).mono ?_;rintro e w' ⟨rfl,rfl⟩;rw[show Lib.hasPrefix s.data.toList (ByteArray.mk #[45,62]).data.toList=false from (zyu _ _ _).trans H1.o];go_wp2_with fail
   refine (Tryz.strings_HasPrefix _ _ _).mono ?_;rintro e w' ⟨rfl,rfl⟩;rw[show Lib.hasPrefix s.data.toList (ByteArray.mk #[61,61]).data.toList=false from (zyu _ _ _).trans H2.o];go_wp2_with fail
   refine (Tryz.strings_IndexByte _ _ _).mono ?_;rintro e w' ⟨rfl,rfl⟩;go_wp2_with fail
   ·have hw:0<=Lib.indexByte [61,59,40,41,123,125,44,60,62,46,92,43,45,42,47] s[0]:=by assumption
    go_ret
    exact ⟨by rw[zpO Hr.o H0.o hw];rfl,rfl⟩
   ·have hw:Lib.indexByte [61,59,40,41,123,125,44,60,62,46,92,43,45,42,47] s[0]<0:=by assumption
    go_ret
    exact ⟨by rw[zrW Hr.o H0.o (by show ¬ 0<=Lib.indexByte [61,59,40,41,123,125,44,60,62,46,92,43,45,42,47] s[0];omega)];rfl,rfl⟩
  ·have H2:=zab h2;clear h2;have H0:=zab (show (s.data.toList.take 2 == [45,62]||s.data.toList.take 2 == [61,61])=true by rw[H1.o,H2.o];rfl);go_enter func247,ntmps247
   go_wp2_with fail
   refine (Tryz.strings_HasPrefix _ _ _).mono ?_;rintro e w' ⟨rfl,rfl⟩;rw[show Lib.hasPrefix s.data.toList (ByteArray.mk #[45,62]).data.toList=false from (zyu _ _ _).trans H1.o];go_wp2_with fail
   refine (Tryz.strings_HasPrefix _ _ _).mono ?_;rintro e w' ⟨rfl,rfl⟩;rw[show Lib.hasPrefix s.data.toList (ByteArray.mk #[61,61]).data.toList=true from (zyu _ _ _).trans H2.o];go_wp2_with fail
   go_ret
   exact ⟨by rw[zjS H0.o];rfl,rfl⟩
 ·have H1:=zab h1;clear h1;have H0:=zab (show (s.data.toList.take 2 == [45,62]||s.data.toList.take 2 == [61,61])=true by rw[H1.o];rfl);go_enter func247,ntmps247
  go_wp2_with fail
  refine (Tryz.strings_HasPrefix _ _ _).mono ?_;rintro e w' ⟨rfl,rfl⟩;rw[show Lib.hasPrefix s.data.toList (ByteArray.mk #[45,62]).data.toList=true from (zyu _ _ _).trans H1.o];go_wp2_with fail
  go_ret
  exact ⟨by rw[zjS H0.o];rfl,rfl⟩
theorem zwU(c:UInt8):Th.isLet c=zdl c.toNat:=by
 unfold Th.isLet zdl;rw[zAa];simp;omega
theorem zxV(q:UInt8->Bool)(l:List UInt8):l.take (l.takeWhile q).length=l.takeWhile q:=by
 induction l with
 |nil=>rfl
 |cons c l ih=>by_cases h:q c <;> simp[h,ih]
theorem zwS(q:UInt8->Bool)(s:ByteArray):(s.extract 0 (s.data.toList.takeWhile q).length).data.toList=s.data.toList.takeWhile q:=by
 rw[Lib.extract_data];simp only[zzY,zAl,zxV]
theorem zuI(q:UInt8->Bool)(l:List UInt8):(l.takeWhile q).length<=l.length:=(List.takeWhile_prefix q).length_le
theorem zta{r:List UInt8}(e:l=c::r)(h:Th.isLet c=true):Th.first l=Th.word (l.takeWhile Th.zlx):=by
 subst e;simp only[Th.first,h,if_true]
theorem zs9{r:List UInt8}(e:l=c::r)(h:Th.isLet c=false)(h1:0<(l.takeWhile Th.zba).length):Th.first l=Th.zo7 (l.takeWhile Th.zba):=by
 subst e;have hd:Th.zba c=true:=by
  rw[<-Bool.not_eq_false];intro hc;simp[hc]at h1
 simp only[Th.first,h,hd,if_true,zzw,if_false]
theorem zwR{r:List UInt8}(h1:¬ 0<((c::r).takeWhile Th.zba).length):Th.zba c=false:=by
 rw[<-Bool.not_eq_true];intro hc;simp[hc]at h1
theorem zru{r:List UInt8}(e:l=c::r)(h:Th.isLet c=false)(h1:¬ 0<(l.takeWhile Th.zba).length)(h2:0<Th.zbH l):Th.first l=(4,l.take (Th.zbH l)):=by
 subst e;simp only[Th.first,h,zwR h1,zzw,if_false];rw[if_neg (by omega)]
theorem zs8{r:List UInt8}(e:l=c::r)(h:Th.isLet c=false)(h1:¬ 0<(l.takeWhile Th.zba).length)(h2:¬ 0<Th.zbH l):Th.first l=(1,[]):=by
 subst e;simp only[Th.first,h,zwR h1,zzw,if_false];rw[if_pos (by omega)]
theorem zlP(l:List UInt8):Th.zbH l<=l.length:=by
 unfold Th.zbH;split
 ·next h=>
  match l,h with
  |[],h=>simp at h
  |[c],h=>simp at h
  |c::d::r,_=>simp
 ·cases l with
  |nil=>simp
  |cons c r=>simp only;split <;> simp
theorem ba_ne(s:ByteArray)(h:0<s.size):s.toList.isEmpty=false:=by
 obtain ⟨r,hr⟩:=zpe s h;rw[ByteArray.toList_eq,hr];rfl
theorem zuY(c:UInt8):wrap32 (c.toNat:Int)=c.toNat:=by
 have:=c.toNat_lt;unfold wrap32;omega
theorem zs7(s:ByteArray)(w:World)(hs:s.size<9223372036854775807):
  Calls prog 190 #[.string s] w fun e w'=>e=.returned (zsb (Th.first s.data.toList).1 (Th.first s.data.toList).2 0)/\Below w.heap.size w w':=by
 by_cases h0:0<s.size
 ·have he:s.toList.isEmpty=false:=ba_ne s h0;obtain ⟨r,hr⟩:=zpe s h0;have Hr:=zab hr;clear hr;have hw:=zuY s[0];cases h1:zdl (wrap32 s[0].toNat)
  ·have H1:=zab h1;clear h1;have H2:Hid (Th.isLet s[0]=false):=zab (by rw[zwU,<-hw];exact H1.o);clear hw;have hle:(s.data.toList.takeWhile Th.zba).length<=s.size:=by have:=zuI Th.zba s.data.toList;simpa using this
   have xH:Th.zbH s.data.toList<=s.size:=by have:=zlP s.data.toList;simpa using this
   obtain ⟨n,hn⟩:∃ n,(s.data.toList.takeWhile Th.zba).length=n:=⟨_,rfl⟩;obtain ⟨m,hm⟩:∃ m,Th.zbH s.data.toList=m:=⟨_,rfl⟩;rw[hn]at hle;rw[hm]at xH;have Hn:=zab hn;clear hn;have Hm:=zab hm;clear hm;go_enter func190,ntmps190
   go_wp2_with fail
   refine (zdz _ _).mono ?_;rintro e w' ⟨rfl,rfl⟩;rw[H1.o];go_wp2_with fail
   refine (zwj _ _ hs).mono ?_;rintro e w' ⟨rfl,pos,rfl⟩;rw[Hn.o];by_cases hd:0<n
   ·go_wp2_with fail
    refine (zrL _ _ (by rw[ByteArray.size_extract];omega)).mono ?_;rintro e w1 ⟨rfl,hb⟩;rw[show (s.extract 0 n).data.toList=s.data.toList.takeWhile Th.zba from by rw[<-Hn.o];exact zwS _ _];obtain ⟨⟨k,t⟩,jI⟩:∃ x,Th.zo7 (s.data.toList.takeWhile Th.zba)=x:=⟨_,rfl⟩;rw[jI];have Hk:Hid (Th.first s.data.toList=(k,t)):=zab ((zs9 Hr.o H2.o (by rw[Hn.o];exact hd)).trans jI);clear jI;have B:=(((Blk.new w [.int .i64 0,.string ⟨#[]⟩,.int .i64 0] 135).alloc (.stringIter s pos))).below hb (by simp;omega);have c0:=B.cell 0;have c1:=B.cell 1;have c2:=B.cell 2;have f0:=B.frozen 0;have f1:=B.frozen 1;have f2:=B.frozen 2;simp at c0 c1 c2;have B3:=zab (((B.set 0 (.int .i64 k)).set 1 (.string ⟨t.toArray⟩)).set 2 (.int .i64 0));clear B;go_wp2_with fail
    have q0:=B3.o.cell 0;have q1:=B3.o.cell 1;have q2:=B3.o.cell 2;simp at q0 q1 q2;refine bodyPost_ret (v:=zsb k t 0) (by simp[results,Tryz.results190,go_sem,q0,q1,q2]) rfl ⟨by rw[Hk.o],?_⟩;exact zbk (zap (zap (zap (zad (zad (zag w _ none) (zag _ _ none)) (zaf none hb)) _ _ (zyN _)) _ _ (zyN _)) _ _ (zyN _))
   ·go_wp2_with fail
    refine (zkJ _ _ h0).mono ?_;rintro e w1 ⟨rfl,rfl⟩;rw[Hm.o];by_cases Ag:0<m
    ·go_wp2_with fail
     go_returns
     refine ⟨?_,zbk (zad (zag w _ none) (zag _ _ none))⟩;rw[zru Hr.o H2.o (by rw[Hn.o];exact hd) (by rw[Hm.o];exact Ag),Hm.o];rw[zsb,show (⟨(s.data.toList.take m).toArray⟩:ByteArray)=s.extract 0 m from by rw[<-znp (s.extract 0 m),Lib.extract_data];simp];rfl
    ·go_wp2_with fail
     go_returns
     refine ⟨?_,zbk (zad (zag w _ none) (zag _ _ none))⟩;rw[zs8 Hr.o H2.o (by rw[Hn.o];exact hd) (by rw[Hm.o];exact Ag)];rfl
  ·have H1:=zab h1;clear h1;have H2:Hid (Th.isLet s[0]=true):=zab (by rw[zwU,<-hw];exact H1.o);clear hw;have hle:(s.data.toList.takeWhile Th.zlx).length<=s.size:=by have:=zuI Th.zlx s.data.toList;simpa using this
   obtain ⟨n,hn⟩:∃ n,(s.data.toList.takeWhile Th.zlx).length=n:=⟨_,rfl⟩;rw[hn]at hle;have Hn:=zab hn;clear hn;go_enter func190,ntmps190
   go_wp2_with fail
   refine (zdz _ _).mono ?_;rintro e w' ⟨rfl,rfl⟩;rw[H1.o];go_wp2_with fail
   refine (zxS _ _ hs).mono ?_;rintro e w' ⟨rfl,pos,rfl⟩;rw[Hn.o];go_wp2_with fail
   refine (zwF _ _).mono ?_;rintro e w1 ⟨rfl,hb⟩;rw[show (s.extract 0 n).data.toList=s.data.toList.takeWhile Th.zlx from by rw[<-Hn.o];exact zwS _ _];obtain ⟨⟨k,t⟩,jI⟩:∃ x,Th.word (s.data.toList.takeWhile Th.zlx)=x:=⟨_,rfl⟩;rw[jI];have Hk:Hid (Th.first s.data.toList=(k,t)):=zab ((zta Hr.o H2.o).trans jI);clear jI;have B:=(((Blk.new w [.int .i64 0,.string ⟨#[]⟩,.int .i64 0] 135).alloc (.stringIter s pos))).below hb (by simp;omega);have c0:=B.cell 0;have c1:=B.cell 1;have c2:=B.cell 2;have f0:=B.frozen 0;have f1:=B.frozen 1;have f2:=B.frozen 2;simp at c0 c1 c2;have B3:=zab (((B.set 0 (.int .i64 k)).set 1 (.string ⟨t.toArray⟩)).set 2 (.int .i64 0));clear B;go_wp2_with fail
   have q0:=B3.o.cell 0;have q1:=B3.o.cell 1;have q2:=B3.o.cell 2;simp at q0 q1 q2;refine bodyPost_ret (v:=zsb k t 0) (by simp[results,Tryz.results190,go_sem,q0,q1,q2]) rfl ⟨by rw[Hk.o],?_⟩;exact zbk (zap (zap (zap (zad (zad (zag w _ none) (zag _ _ none)) (zaf none hb)) _ _ (zyN _)) _ _ (zyN _)) _ _ (zyN _))
 ·have he:s.toList.isEmpty=true:=by rw[ByteArray.toList_eq,List.isEmpty_iff,<-zzn,sz];omega
  go_enter func190,ntmps190
  go_wp2_with fail
  go_returns
  refine ⟨?_,zam _ _⟩;rw[List.isEmpty_iff,ByteArray.toList_eq]at he;rw[he];rfl
end Go.Proofs.YtgahgkddaljmkaaGreatDoor
namespace Go.Proofs.YtgahgkddaljmkaaGreatDoor
open Tryz
open Go.RowKit
attribute [local go_sem] zcZ zc0 zc1
def zno (w:World) (tb:Nat) (T:List Th.Tok):Prop:=
 ∀ i t,T[i]?=some t->w.cell? ⟨tb,i*3,none⟩=some (.int .i64 t.k)/\w.cell? ⟨tb,i*3+1,none⟩=some (.string ⟨t.s.toArray⟩)/\w.cell? ⟨tb,i*3+2,none⟩=some (.int .i64 t.at_)
structure Good (T:List Th.Tok):Prop where
 len:T.length<=100000
 last:∀ i t,T[i]?=some t->(t.k<=1↔i+1=T.length)
 text:∀ t∈T,(t.k<=1->t.s=[])/\(2<=t.k->t.s≠[])/\t.k<=4/\t.at_<=100000/\t.s.length<=100000
 num:∀ t∈T,t.k=3->t.s.length<=9/\∀ c∈t.s,Th.zba c=true
structure RI (w:World) (r tb cap:Nat) (T:List Th.Tok) (n:Nat) (f:Bool) (p:Nat):Prop where
 blk:Blk w r [.slice (some ⟨tb,0,none⟩) T.length cap,.int .i64 n,.bool f,.int .i64 p] 132
 zdN:zno w tb T
 ne:tb≠r
 lt:n<T.length
 zct:Good T
 end_:f=true->n+1=T.length
 cap_:T.length<=cap
def zby (T:List Th.Tok) (n:Nat) (f:Bool) (p:Nat):Th.St:=if f then ⟨[],some p⟩ else ⟨T.drop n,none⟩
variable {w:World}{r tb cap:Nat}{T:List Th.Tok}{n:Nat}{t:Th.Tok}
theorem zoL(c0:w.cell? ⟨r,0,none⟩=some (.slice (some ⟨tb,0,none⟩) T.length cap))(c1:w.cell? ⟨r,1,none⟩=some (.int .i64 n))(hk:zno w tb T)(hn:n<T.length)(_hg:T.length<=100000)(ht:T[n]?=some t):
  Calls prog 67 #[.pointer (some ⟨r,0,none⟩)] w fun e w'=>e=.returned (.agg #[.int .i64 t.k,.string ⟨t.s.toArray⟩,.int .i64 t.at_])/\Below w.heap.size w w':=by
 have hl:=zeK c0;obtain ⟨d0,d1,d2⟩:=hk n t ht;have hb:=zeK d0;clear hk ht;go_enter func67,ntmps67
 go_wp2_with fail
 go_region
 go_wp2_with fail
 go_returns
 exact ⟨rfl,(zam _ _).drew⟩
variable {f:Bool}{p:Nat}
theorem zdm(h:RI w r tb cap T n f p)(ht:T[n]?=some t):
  Calls prog 67 #[.pointer (some ⟨r,0,none⟩)] w fun e w'=>e=.returned (.agg #[.int .i64 t.k,.string ⟨t.s.toArray⟩,.int .i64 t.at_])/\Below w.heap.size w w':=
 zoL (cap:=cap) (by simpa using h.blk.cell 0) (by simpa using h.blk.cell 1) h.zdN h.lt h.zct.len ht
variable {w':World}{row:Option Nat}
theorem zno.gb(h:zno w tb T)(hg:w.grownBy w' row)(hr:some tb≠row):zno w' tb T:=
 fun i t ht=>⟨zma hg (h i t ht).1 hr,zma hg (h i t ht).2.1 hr,zma hg (h i t ht).2.2 hr⟩
theorem RI.gb{w w':World}{r tb cap:Nat}{T:List Th.Tok}{n:Nat}{f:Bool}{p:Nat}(h:RI w r tb cap T n f p){row:Option Nat}(hg:w.grownBy w' row)(hr:some r≠row)(ht:some tb≠row):RI w' r tb cap T n f p:=
 ⟨h.blk.grown hg hr,h.zdN.gb hg ht,h.ne,h.lt,h.zct,h.end_,h.cap_⟩
theorem RI.below(h:RI w r tb cap T n f p)(hb:Below w.heap.size w w'):RI w' r tb cap T n f p:=
 h.gb (zaf none hb) (by simp) (by simp)
def RS (w:World) (r tb:Nat) (T:List Th.Tok) (st:Th.St):Prop:=∃ cap n f p,RI w r tb cap T n f p/\st=zby T n f p
theorem RS.below{w w':World}{r tb:Nat}{T:List Th.Tok}{st:Th.St}(h:RS w r tb T st)(hb:Below w.heap.size w w'):RS w' r tb T st:=by
 obtain ⟨cap,n,f,p,h,e⟩:=h;exact ⟨cap,n,f,p,h.below hb,e⟩
theorem RS.gb{w w':World}{r tb:Nat}{T:List Th.Tok}{st:Th.St}(h:RS w r tb T st){row:Option Nat}(hg:w.grownBy w' row)(hr:some r≠row)(ht:some tb≠row):RS w' r tb T st:=by
 obtain ⟨cap,n,f,p,h,e⟩:=h;exact ⟨cap,n,f,p,h.gb hg hr ht,e⟩
variable {st:Th.St}
theorem RS.tlt(h:RS w r tb T st):tb<w.heap.size:=by
 obtain ⟨cap,n,f,p,h,e⟩:=h;exact zeK (h.zdN n (T[n]'h.lt) (zyM h.lt)).1
theorem RS.ne{w:World}{r tb:Nat}{T:List Th.Tok}{st:Th.St}(h:RS w r tb T st):tb≠r:=by
 obtain ⟨cap,n,f,p,h,e⟩:=h;exact h.ne
theorem RS.set(h:RS w r tb T st)(b o:Nat)(v:Value)(hr:r≠b)(ht:tb≠b):RS (w.setCell ⟨b,o,none⟩ v) r tb T st:=
 h.gb (zaT w b o v) (by simp;exact hr) (by simp;exact ht)
theorem RS.alloc{w:World}{r tb:Nat}{T:List Th.Tok}{st:Th.St}(h:RS w r tb T st)(o:Obj):RS (w.alloc o) r tb T st:=h.below (zam w o)
theorem RS.zct{w:World}{r tb:Nat}{T:List Th.Tok}{st:Th.St}(h:RS w r tb T st):Good T:=by
 obtain ⟨cap,n,f,p,h,e⟩:=h;exact h.zct
theorem RS.lt{w:World}{r tb:Nat}{T:List Th.Tok}{st:Th.St}(h:RS w r tb T st):r<w.heap.size:=by
 obtain ⟨cap,n,f,p,h,e⟩:=h;exact h.blk.lt
theorem RI.tok(h:RI w r tb cap T n f p):∃ t,T[n]?=some t:=
 ⟨T[n]'h.lt,zyM h.lt⟩
theorem zst(h:RI w r tb cap T n f p)(ht:T[n]?=some t)(x:List UInt8)(hx:x≠[]):
  (zby T n f p).is x=(t.s == x):=by
 cases f with
 |false=>simp[zby,Th.St.is,Th.St.hd,ht]
 |true=>
  have e:=h.end_ rfl;have hk:=(h.zct.last n t ht).2 e;have hs:=(h.zct.text t (zy1 ht)).1 hk;rw[hs];simp[zby,Th.St.is];exact hx
theorem zl3(h:RI w r tb cap T n f p)(ht:T[n]?=some t)(k:Nat)(hk:2<=k):
  (zby T n f p).kind k=(t.k == k):=by
 cases f with
 |false=>simp[zby,Th.St.kind,Th.St.hd,ht]
 |true=>
  have e:=h.end_ rfl;have h1:=(h.zct.last n t ht).2 e;simp[zby,Th.St.kind];omega
theorem RI.fail{w w':World}{r tb cap:Nat}{T:List Th.Tok}{n:Nat}{p:Nat}(h:RI w r tb cap T n false p){t:Th.Tok}(ht:T[n]?=some t)(hb:Blk w' r [.slice (some ⟨tb,0,none⟩) T.length cap,.int .i64 (T.length-1:Nat),.bool true,.int .i64 t.at_] 132)(hg:w.grownBy w' (some r)):RS w' r tb T (zby T n false p).fail:=by
 have hl:=h.lt;refine ⟨cap,T.length-1,true,t.at_,⟨hb,h.zdN.gb hg (by simp;exact h.ne),h.ne,by omega,h.zct,fun _=>by omega,h.cap_⟩,?_⟩;simp[zby,Th.St.fail,Th.St.hd,ht]
theorem RI.failed(h:RI w r tb cap T n true p)(hb:Blk w' r [.slice (some ⟨tb,0,none⟩) T.length cap,.int .i64 (T.length-1:Nat),.bool true,.int .i64 p] 132)(hg:w.grownBy w' (some r)):RS w' r tb T (zby T n true p).fail:=by
 have hl:=h.lt;refine ⟨cap,T.length-1,true,p,⟨hb,h.zdN.gb hg (by simp;exact h.ne),h.ne,by omega,h.zct,fun _=>by omega,h.cap_⟩,?_⟩;simp[zby,Th.St.fail]
theorem RI.adv{w w':World}{r tb cap:Nat}{T:List Th.Tok}{n:Nat}{f:Bool}{p:Nat}(h:RI w r tb cap T n f p){t:Th.Tok}(ht:T[n]?=some t)(hk:2<=t.k)(hb:Blk w' r [.slice (some ⟨tb,0,none⟩) T.length cap,.int .i64 (n+1:Nat),.bool f,.int .i64 p] 132)(hg:w.grownBy w' (some r)):RS w' r tb T (zby T n f p).adv:=by
 have hl:=h.lt;have h1:=h.zct.last n t ht;have h2:¬ (n+1=T.length):=fun e=>by have:=h1.2 e;omega
 cases f with
 |true=>exact absurd (h.end_ rfl) h2
 |false=>
  refine ⟨cap,n+1,false,p,⟨hb,h.zdN.gb hg (by simp;exact h.ne),h.ne,by omega,h.zct,(fun e=>by cases e),h.cap_⟩,?_⟩;simp[zby,Th.St.adv]
theorem zbV(h:RS w r tb T st)(x:ByteArray)(hx:x.data.toList≠[]):
  Calls prog 248 #[.pointer (some ⟨r,0,none⟩),.string x] w fun e w'=>e=.returned (.bool (st.is x.data.toList))/\Below w.heap.size w w':=by
 obtain ⟨cap,n,f,p,h,rfl⟩:=h;obtain ⟨t,ht⟩:=h.tok;have H:Hid (_=_):=zab (zst h ht x.data.toList hx);go_enter func248,ntmps248
 go_wp2_with fail
 refine (zdm h ht).mono ?_;rintro e w1 ⟨rfl,hb⟩;clear h ht hx;go_wp2_with fail
 go_ret
 refine ⟨?_,hb⟩;rw[H.o,<-ByteArray.toList_eq];rfl
theorem zfv(h:RS w r tb T st):
  Calls prog 191 #[.pointer (some ⟨r,0,none⟩)] w fun e w'=>e=.returned (.tuple #[])/\RS w' r tb T st.fail/\w.grownBy w' (some r):=by
 obtain ⟨cap,n,f,p,h,rfl⟩:=h;obtain ⟨t,ht⟩:=h.tok;have hl:=h.lt;have hg:=h.zct.len;have H:=zab h;cases f with
 |true=>
  have B:=h.blk;have c0:=B.cell 0;have c1:=B.cell 1;have c2:=B.cell 2;have c3:=B.cell 3;have f1:=B.frozen 1;have BB:=zab B;simp at c0 c1 c2 c3;clear h ht B;go_enter func191,ntmps191
  go_wp2_with fail
  go_end0
  rw[show ((T.length:Int)-1)=((T.length-1:Nat):Int) by omega];have B2:=BB.o.set 1 (.int .i64 ((T.length-1:Nat):Int));exact ⟨rfl,H.o.failed B2 (zaT _ _ _ _),zaT _ _ _ _⟩
 |false=>
  have B:=h.blk;have c0:=B.cell 0;have c1:=B.cell 1;have c2:=B.cell 2;have c3:=B.cell 3;have f2:=B.frozen 2;have hb:=zab B;have Ht:=zab ht;simp at c0 c1 c2 c3;clear h ht B;go_enter func191,ntmps191
  go_wp2_with fail
  have B1:=hb.o.set 2 (.bool true);refine (zoL (cap:=cap) (by simpa using B1.cell 0) (by simpa using B1.cell 1) (H.o.zdN.gb (zaT _ _ _ _) (by simp;exact H.o.ne)) hl hg Ht.o).mono ?_;rintro e w1 ⟨rfl,hw⟩;have B2:=B1.below hw B1.lt;clear c0 c1 c2 c3 f2;have c0:=B2.cell 0;have c1:=B2.cell 1;have c2:=B2.cell 2;have c3:=B2.cell 3;have f3:=B2.frozen 3;have f1:=B2.frozen 1;simp at c0 c1 c2 c3;have jh:=zab B2;clear B1 B2;go_wp2_with fail
  go_end0
  rw[show ((T.length:Int)-1)=((T.length-1:Nat):Int) by omega];have B3:=(jh.o.set 3 (.int .i64 (t.at_:Int))).set 1 (.int .i64 ((T.length-1:Nat):Int));have hG:=zad (zad (zad (zaT w r 2 (.bool true)) (zaf (some r) hw)) (zaT _ _ 3 (.int .i64 (t.at_:Int)))) (zaT _ _ 1 (.int .i64 ((T.length-1:Nat):Int)));exact ⟨rfl,H.o.fail Ht.o B3 hG,hG⟩
theorem zlb(h:RI w r tb cap T n f p)(ht:T[n]?=some t)(x:List UInt8)(hx:x≠[])(hi:(zby T n f p).is x=true):2<=t.k:=by
 rw[zst h ht x hx]at hi;rcases zAw t.k 2 with hk|hk
 ·have:=(h.zct.text t (zy1 ht)).1 (by omega);rw[this]at hi;simp at hi;exact absurd hi hx
 ·exact hk
theorem RI.step{w1:World}(h:RI w r tb cap T n f p)(ht:T[n]?=some t)(hk:2<=t.k)(hw:Below w.heap.size w w1):RS (w1.setCell ⟨r,1,none⟩ (.int .i64 ((n:Int)+1))) r tb T (zby T n f p).adv/\w.grownBy (w1.setCell ⟨r,1,none⟩ (.int .i64 ((n:Int)+1))) (some r):=by
 have hG:=zad (zaf (some r) hw) (zaT w1 r 1 (.int .i64 ((n:Int)+1)));exact ⟨h.adv ht hk (by have:=(h.blk.below hw h.blk.lt).set 1 (.int .i64 ((n:Int)+1));simpa using this) hG,hG⟩
theorem zbG(h:RS w r tb T st)(x:ByteArray)(hx:x.data.toList≠[]):
  Calls prog 192 #[.pointer (some ⟨r,0,none⟩),.string x] w fun e w'=>e=.returned (.bool (st.is x.data.toList))/\RS w' r tb T (if st.is x.data.toList then st.adv else st)/\w.grownBy w' (some r):=by
 have H:=zab h;cases hi:st.is x.data.toList
 ·have Hi:=zab hi;clear hi;go_enter func192,ntmps192
  go_wp2_with fail
  refine (zbV h x hx).mono ?_;rintro e w1 ⟨rfl,hb⟩;rw[Hi.o];clear h hx;go_wp2_with fail
  go_ret
  exact ⟨rfl,H.o.below hb,zaf _ hb⟩
 ·have Hi:=zab hi;have h0:=h;obtain ⟨cap,n,f,p,bJ,rfl⟩:=h0;obtain ⟨t,ht⟩:=bJ.tok;have hk:=zab (zlb bJ ht _ hx hi);have hn:=bJ.lt;have hg:=bJ.zct.len;have HR:=zab bJ;have Ht:=zab ht;clear hi bJ ht;go_enter func192,ntmps192
  go_wp2_with fail
  refine (zbV h x hx).mono ?_;rintro e w1 ⟨rfl,hb⟩;rw[Hi.o];have B:=HR.o.blk.below hb HR.o.blk.lt;have c1:=B.cell 1;have f1:=B.frozen 1;simp at c1;have hS:=zab (HR.o.step Ht.o hk.o hb);clear h hx B;go_wp2_with fail
  go_ret
  exact ⟨rfl,hS.o.1,hS.o.2⟩
theorem zaX(h:RS w r tb T st)(x:ByteArray)(hx:x.data.toList≠[]):
  Calls prog 117 #[.pointer (some ⟨r,0,none⟩),.string x] w fun e w'=>e=.returned (.tuple #[])/\RS w' r tb T (Th.want x.data.toList st)/\w.grownBy w' (some r):=by
 have H:=zab h;cases hi:st.is x.data.toList
 ·have Hi:=zab hi;have Hw:Hid (Th.want x.data.toList st=st.fail):=zab (by simp[Th.want,hi]);clear hi;go_enter func117,ntmps117
  go_wp2_with fail
  refine (zbG h x hx).mono ?_;rintro e w1 ⟨rfl,hs,hg⟩;rw[Hi.o]at hs ⊢;have Hs:Hid (RS w1 r tb T st):=zab (by simpa using hs);have Hg:=zab hg;clear h hx hs hg;go_wp2_with fail
  refine (zfv Hs.o).mono ?_;rintro e w2 ⟨rfl,aI,aF⟩;have eS:=zab aI;have ix:=zab aF;clear aI aF;go_wp2_with fail
  go_end0
  exact ⟨rfl,by rw[Hw.o];exact eS.o,zad Hg.o ix.o⟩
 ·have Hi:=zab hi;have Hw:Hid (Th.want x.data.toList st=st.adv):=zab (by simp[Th.want,hi]);clear hi;go_enter func117,ntmps117
  go_wp2_with fail
  refine (zbG h x hx).mono ?_;rintro e w1 ⟨rfl,hs,hg⟩;rw[Hi.o]at hs ⊢;have Hs:Hid (RS w1 r tb T st.adv):=zab (by simpa using hs);have Hg:=zab hg;clear h hx hs hg;go_wp2_with fail
  go_end0
  exact ⟨rfl,by rw[Hw.o];exact Hs.o,Hg.o⟩
theorem zg4(h:RS w r tb T st):
  Calls prog 115 #[.pointer (some ⟨r,0,none⟩)] w fun e w'=>e=.returned (.agg #[.string ⟨(Th.zaL st).1.s.toArray⟩,.int .i64 (Th.zaL st).1.at_])/\RS w' r tb T (Th.zaL st).2/\w.grownBy w' (some r):=by
 have bd:=h.lt;have cu:=h.tlt;obtain ⟨cap,n,f,p,bJ,rfl⟩:=h;obtain ⟨t,ht⟩:=bJ.tok;have hn:=bJ.lt;have hg:=bJ.zct.len;have HR:=zab bJ;have Ht:=zab ht;have iI:=zl3 bJ ht 2 (by omega);have h0:=bJ.below (zam w (.cells #[.string ⟨#[]⟩,.int .i64 0] 88));cases hk:(t.k == 2)
 ·have e:Th.zaL (zby T n f p)=(Th.znj,(zby T n f p).fail):=by rw[Th.zaL,iI,hk];rfl
  rw[e];have fy:((t.k:Int) == 2)=false:=by simp at hk ⊢;omega
  clear bJ iI e hk;go_enter func115,ntmps115
  go_wp2_with fail
  refine (zdm h0 ht).mono ?_;rintro e w1 ⟨rfl,hb⟩;have h1:=zab (h0.below hb);clear h0 ht;have B:=(Blk.new w [.string ⟨#[]⟩,.int .i64 0] 88).below hb (by simp);have q0:=B.cell 0;have q1:=B.cell 1;have g0:=B.frozen 0;have g1:=B.frozen 1;have HB:=zab B;have dd:=B.lt;simp at q0 q1;clear B;go_wp2_with fail
  have h2:RS _ r tb T (zby T n f p):=⟨cap,n,f,p,h1.o.below (zam w1 (.cells #[.int .i64 t.k,.string ⟨t.s.toArray⟩,.int .i64 t.at_] 135)),rfl⟩;refine (zfv h2).mono ?_;rintro e w2 ⟨rfl,hs,aF⟩;clear h2;have B2:=(HB.o.alloc (.cells #[.int .i64 t.k,.string ⟨t.s.toArray⟩,.int .i64 t.at_] 135)).grown aF (by simp;omega);clear q0 q1 g0 g1;have q0:=B2.cell 0;have q1:=B2.cell 1;have g0:=B2.frozen 0;have g1:=B2.frozen 1;simp at q0 q1;have Hs:=zab hs;have HG:=zab (zad (zad (zad (zag w _ (some r)) (zaf (some r) hb)) (zag w1 _ (some r))) aF);have gA:=zab B2;clear hs aF B2 hb dd;go_wp2_with fail
  have B3:=(gA.o.set 0 (.string ⟨#[]⟩)).set 1 (.int .i64 0);have p0:=B3.cell 0;have p1:=B3.cell 1;simp at p0 p1;refine bodyPost_ret (v:=.agg #[.string ⟨#[]⟩,.int .i64 0]) (by simp[results,Tryz.results115,go_sem,p0,p1]) rfl ⟨rfl,?_,?_⟩
  ·exact (Hs.o.set _ _ _ (by omega) (by omega)).set _ _ _ (by omega) (by omega)
  ·exact zap (zap HG.o _ _ (zyN _)) _ _ (zyN _)
 ·have e:Th.zaL (zby T n f p)=(t,(zby T n f p).adv):=by
   rw[Th.zaL,iI,hk];cases f with
   |false=>simp[zby,Th.St.hd,ht]
   |true=>
    have e1:=(bJ.zct.last n t ht).2 (bJ.end_ rfl);simp at hk;omega
  rw[e];have aG:2<=t.k:=by simp at hk;omega
  have fy:((t.k:Int) == 2)=true:=by simp at hk ⊢;omega
  clear bJ iI e hk;go_enter func115,ntmps115
  go_wp2_with fail
  refine (zdm h0 ht).mono ?_;rintro e w1 ⟨rfl,hb⟩;have e8:=h0.below hb;have hS:=zab (HR.o.step Ht.o aG (w1:=w1) (((zam w _).trans (hb.mono (by simp)))));have c1:=e8.blk.cell 1;have f1:=e8.blk.frozen 1;simp at c1;clear h0 ht e8;have B:=(Blk.new w [.string ⟨#[]⟩,.int .i64 0] 88).below hb (by simp);have q0:=B.cell 0;have q1:=B.cell 1;have g0:=B.frozen 0;have g1:=B.frozen 1;have HB:=zab B;have dd:=B.lt;have cg:r<w1.heap.size:=by omega
  simp at q0 q1;clear B;go_wp2_with fail
  have B3:=(((HB.o.other ⟨r,1,none⟩ (.int .i64 ((n:Int)+1)) (by simp;omega)).set 0 (.string ⟨t.s.toArray⟩)).set 1 (.int .i64 t.at_)).alloc (.cells #[.int .i64 t.k,.string ⟨t.s.toArray⟩,.int .i64 t.at_] 135);have p0:=B3.cell 0;have p1:=B3.cell 1;simp at p0 p1;refine bodyPost_ret (v:=.agg #[.string ⟨t.s.toArray⟩,.int .i64 t.at_]) (by simp[results,Tryz.results115,go_sem,p0,p1]) rfl ⟨rfl,?_,?_⟩
  ·exact ((hS.o.1.set _ _ _ (by omega) (by omega)).set _ _ _ (by omega) (by omega)).alloc _
  ·exact zad (zap (zap hS.o.2 _ _ (zyN _)) _ _ (zyN _)) (zag _ _ _)
theorem zhs(h:RS w r tb T st):
  ∃ t:Th.Tok,(∀ k,2<=k->st.kind k=(t.k == k))/\(∀ x,x≠[]->st.is x=(t.s == x))/\(st.bad=none->st.hd=t)/\t∈T /\
   Calls prog 67 #[.pointer (some ⟨r,0,none⟩)] w fun e w'=>e=.returned (.agg #[.int .i64 t.k,.string ⟨t.s.toArray⟩,.int .i64 t.at_])/\Below w.heap.size w w':=by
 obtain ⟨cap,n,f,p,h,rfl⟩:=h;obtain ⟨t,ht⟩:=h.tok;refine ⟨t,fun k hk=>zl3 h ht k hk,fun x hx=>zst h ht x hx,?_,zy1 ht,zdm h ht⟩;intro hb;cases f with
 |true=>simp[zby]at hb
 |false=>simp[zby,Th.St.hd,ht]
def zbP (t:Th.Tok):List Value:=[.string ⟨t.s.toArray⟩,.int .i64 t.at_]
def zaj (l:List Th.Tok):List Value:=l.flatMap zbP
theorem zjt(l:List Th.Tok)(t:Th.Tok):zaj (l++[t])=zaj l++zbP t:=by simp[zaj]
theorem zrM(h:st.kind 2=true):Th.zax st=(st.hd::(Th.zax st.adv).1,(Th.zax st.adv).2):=by
 obtain ⟨rest,bad⟩:=st;cases bad with
 |some p=>simp[Th.St.kind]at h
 |none=>
  cases rest with
  |nil=>simp[Th.St.kind,Th.St.hd,Th.znj]at h
  |cons t r=>
   simp[Th.St.kind,Th.St.hd]at h;simp[Th.zax,Th.St.hd,Th.St.adv,h]
theorem ztR(h:st.kind 2=false):Th.zax st=([],st):=by
 obtain ⟨rest,bad⟩:=st;cases bad with
 |some p=>rfl
 |none=>
  cases rest with
  |nil=>rfl
  |cons t r=>
   simp[Th.St.kind,Th.St.hd]at h;simp[Th.zax,h]
variable {k:Nat}
theorem zvK(h:st.kind k=true):st.bad=none:=by
 obtain ⟨rest,bad⟩:=st;cases bad with
 |some p=>simp[Th.St.kind]at h
 |none=>rfl
theorem zfw(hk:2<=k)(h:st.kind k=true):st.adv.rest.length<st.rest.length:=by
 obtain ⟨rest,bad⟩:=st;cases rest with
 |nil=>simp[Th.St.kind,Th.St.hd,Th.znj]at h;omega
 |cons t r=>simp[Th.St.adv]
theorem zqz:(prog.info? 88).map (fun i=>(i.zero,i.size,i.bytes))=some (some (.agg #[.string ⟨#[]⟩,.int .i64 0]),2,24):=by kernel_rfl
theorem ztW(h:RS w r tb T st):st.rest.length<=100000:=by
 obtain ⟨cap,n,f,p,h,rfl⟩:=h;have:=h.zct.len;cases f <;> simp[zby]
 omega
theorem zfy(v:Value):v.ownBlock=none\/v.ownBlock≠none:=by
 cases v.ownBlock with
 |none=>exact .inl rfl
 |some k=>exact .inr (by simp)
variable {e:TypeId}{size:Nat}{v:Value}{xs:List Value}
theorem zdi{base:Nat}(h:w.ownsRow base e size v n xs)(hr:r<base):v.ownBlock=none\/v.ownBlock≠some r:=by
 cases hv:v.ownBlock with
 |none=>exact .inl rfl
 |some k=>exact .inr (by have:=(h.lt k hv).1;simp;omega)
theorem zpG{base:Nat}(h:w.ownsRow base e size v n xs)(hr:r<base):some r≠v.ownBlock:=by
 intro e;have:=(h.lt r e.symm).1;omega
theorem zjh{a b c:World}{r:Option Nat}(h:a.grownBy b r)(ho:b.ownsRow a.heap.size e size v n xs)(hg:b.grownBy c v.ownBlock):a.grownBy c r:=
 ⟨hg.os.trans h.os,hg.tape.trans h.tape,hg.output.trans h.output,zyR h.size hg.size,
  fun k hk hr=>(hg.block k (zyS hk h.size) (zpG ho hk)).trans (h.block k hk hr)⟩
theorem zlH(h:RS w r tb T st):
  Calls prog 116 #[.pointer (some ⟨r,0,none⟩)] w fun e w'=>∃ v,e=.returned v/\((Th.zax st).1=[]->v=.slice none 0 0)/\w'.ownsRow w.heap.size 88 2 v (Th.zax st).1.length (zaj (Th.zax st).1) /\
   RS w' r tb T (Th.zax st).2/\w.grownBy w' (some r):=by
 have bd:=h.lt;have cu:=h.tlt;have aH:=h.ne;have hlen:=ztW h;obtain ⟨i0,hi,bq,aP,bF⟩:=info_parts zqz;have HI:=zab hi;clear hi;have HZ:=zab (And.intro bq (And.intro aP bF));clear bq aP bF;have H:=zab h;clear h;go_enter func116,ntmps116
 go_wp2_with fail
 go_loopg [3] st.rest.length (fun k v wr=>∃ (l:List Th.Tok) (s1:Th.St),RS wr r tb T s1/\s1.rest.length<=k/\l.length+s1.rest.length<=100000/\wr.ownsRow w.heap.size 88 2 v l.length (zaj l)/\w.grownBy wr (some r)/\(l=[]->v=.slice none 0 0)/\Th.zax st=(l++(Th.zax s1).1,(Th.zax s1).2))
 case atStart=>exact ⟨[],st,H.o,zyN _,by simpa using hlen,World.ownsRow_nil _ _ _ _,zcT _ _,fun _=>rfl,by simp⟩
 case round=>
  obtain ⟨l,s1,hs,hk,hl,ai,hg,ck,he⟩:=hrel;have vZ:=zab ck;clear ck;obtain ⟨t,tk,ti,th,tm,tc⟩:=zhs hs;have Hs:=zab hs;have He:=zab he;have Hg:=zab hg;have Ho:=zab ai;cases hv:s1.kind 2
  ·have fy:((t.k:Int) == 2)=false:=by rw[tk 2 (by omega)]at hv;simp at hv ⊢;omega
   have Hv:=zab hv;clear hs he hg ai tk ti th tm hv;go_wp2_with fail
   refine tc.mono ?_;rintro e w1 ⟨rfl,hb⟩;clear tc;have Hb:=zab hb;clear hb;go_wp2_with fail
   go_ret
   have e:=He.o;rw[ztR Hv.o]at e;rw[e];simp only[zzS];exact ⟨_,rfl,vZ.o,Ho.o.kept (zaf none Hb.o) (zfy _),Hs.o.below Hb.o,zad Hg.o (zaf _ Hb.o)⟩
  ·have fy:((t.k:Int) == 2)=true:=by rw[tk 2 (by omega)]at hv;simp at hv ⊢;omega
   have Hv:=zab hv;clear hs he hg ai tk ti th tm hv;go_wp2_with fail
   refine tc.mono ?_;rintro e w1 ⟨rfl,hb⟩;clear tc;have Hb:=zab hb;have aW:=Hs.o.below hb;clear hb;go_wp2_with fail
   refine (zg4 aW).mono ?_;rintro e w2 ⟨rfl,aI,aF⟩;have e2:Th.zaL s1=(s1.hd,s1.adv):=by simp[Th.zaL,Hv.o]
   rw[e2]at aI ⊢;have Df:Hid (Th.zax st=((l++[s1.hd])++(Th.zax s1.adv).1,(Th.zax s1.adv).2)):=zab (by rw[He.o,zrM Hv.o];simp);have aC:=zfw (by omega) Hv.o;have bB:=(Ho.o.kept (zaf none Hb.o) (zfy _)).kept aF (zdi Ho.o bd);have aS:=zad (zad Hg.o (zaf _ Hb.o)) aF;have cT:=aS.size;have eS:=zab aI;have ej:=zab aS;clear aW aI aF e2 aS;generalize s1.hd=x at *;generalize s1.adv=s2 at *;have eL:=bB.alloc (.cells #[.string ⟨x.s.toArray⟩,.int .i64 x.at_] 88);go_wp2_with (at_builtin;go_loud (refine wpList_append_own _ rfl _ _ 89 rfl w.heap.size 88 i0 _ 2 24 underlying89 HI.o HZ.o.1 HZ.o.2.1 HZ.o.2.2 rfl (by decide) _ _ _ rfl eL ⟨w2.heap.size,0,none⟩ 1 1 (zbP x) rfl rfl (cell_two_new _ _ _ _) (by simp[Value.oneCell',zbP]) (by unfold maxLen;omega) (by omega) (by simp;omega) ?_);intro v' w3 dR ah _)
   go_roundg s2.rest.length
   case measure=>omega
   case rel=>
    refine ⟨l++[x],s2,(eS.o.alloc _).gb ah (zpG eL bd) (zpG eL cu),zyN _,by simp;omega,?_,zjh (zad ej.o (zag _ _ _)) eL ah,fun e=>by simp at e,Df.o⟩;rw[zjt,zyT];exact dR
theorem zn3(h:RS w r tb T st):
  Calls prog 116 #[.pointer (some ⟨r,0,none⟩)] w fun e w'=>∃ v,e=.returned v/\w'.ownsRow w.heap.size 88 2 v (Th.zax st).1.length (zaj (Th.zax st).1) /\
   RS w' r tb T (Th.zax st).2/\w.grownBy w' (some r):=
 (zlH h).mono fun _ _ ⟨v,h1,_,h3⟩=>⟨v,h1,h3⟩
end Go.Proofs.YtgahgkddaljmkaaGreatDoor
