/- Mach33 .. Scan2 -/
import Derived.Test.YtgahgkddaljmkaaGreatDoorW7
import Derived.Lib.RuneCount
set_option maxRecDepth 100000
set_option maxHeartbeats 4000000
namespace Go.Proofs.YtgahgkddaljmkaaGreatDoor
open Tryz
open Go.RowKit
attribute [local go_sem ↓] Go.wp_at_zero Go.wp_at_succ
def MSt.pack (m:MSt) (k t c:Nat):Option (Except Nat MSt):=if t<=1000000000/\c<4096 then m.build (Hd k t c) c else none
def MSt.hold (m:MSt) (b c:Nat):Option (Except Nat MSt):=if b<=1000000000/\c<4096 then m.zjH (Hd 2 b c) c else none
variable {w:World}
variable {mb wb:Nat}
variable {fv:Value}
variable {m:MSt}
variable {t c:Nat}
variable {r:Except Nat MSt}
theorem zuA(h:MAt w mb wb fv m)(hb:m.pack 1 t c=some r):
  Calls prog 81 #[.pointer (some ⟨mb,0,none⟩),.iface 254 (.agg #[.int .i64 t,.int .i64 c])] w fun e w'=>Ends w mb wb fv r e w':=by
 unfold MSt.pack at hb;split at hb
 ·next hg=>
  have i0:=zoE;have i1:=zfQ;have i2:=zho;have i3:=zoD;have H1:=zab (h.alloc (.cells #[.int .i64 t,.int .i64 c] 254));have B1:=zab (Blk.new w [.int .i64 t,.int .i64 c] 254);have F1:Hid (Fr (MB mb wb fv) w (w.alloc (.cells #[.int .i64 t,.int .i64 c] 254))):=zab ((Fr.refl _ _).alloc _);have bW:=zab (h.zc3 (zyN w.heap.size));clear h;go_enter func81,ntmps81
  go_wp2_with fail
  generalize w.alloc (.cells #[.int .i64 t,.int .i64 c] 254)=w1 at H1 F1 B1 ⊢;clear i0 i1 i2 i3;have CH:=zab (fun W:World=>zbt 1 t c W (by omega) hg.2 hg.1);obtain ⟨z,hz⟩:∃ z,Hd 1 t c=z:=⟨_,rfl⟩;rw[hz]at CH hb;have CB:=zab (fun (W:World) (hW:MAt W mb wb fv m)=>zgP hW (show c<=1000000 by omega) hb);have SW:w1.drew.cell? ⟨w.heap.size,0,none⟩=some (.int .i64 t)/\w1.drew.cell? ⟨w.heap.size,1,none⟩=some (.int .i64 c):=⟨by simpa using Blk.cell B1.o.drew 0,by simpa using Blk.cell B1.o.drew 1⟩;clear hb hz hg;refine wp_region_held_drew (S:=fun W=>W.cell? ⟨w.heap.size,0,none⟩=some (.int .i64 t)/\W.cell? ⟨w.heap.size,1,none⟩=some (.int .i64 c)) (by kernel_rfl) SW (fun ax=>?_);refine wpAnyH_take (i:=0) (v:=?_) rfl (by kernel_rfl) (by kernel_rfl) (by kernel_rfl) (fun _ _ _ h=>h) (Or.inl ⟨by rfl,?_⟩) (by assumption) ?_
  rotate_left 1
  ·(intro w al;(try dsimp only at al);obtain ⟨eT,eU⟩:=al;go_simp;try with_reducible rfl)
  try simp only[Act.put,zyO]
  refine wpAnyH_take (i:=1) (v:=?_) rfl (by kernel_rfl) (by kernel_rfl) (by kernel_rfl) (fun _ _ _ h=>h) (Or.inl ⟨by rfl,?_⟩) (by assumption) ?_
  rotate_left 1
  ·(intro w al;(try dsimp only at al);obtain ⟨eT,eU⟩:=al;go_simp;try with_reducible rfl)
  try simp only[Act.put]
  refine wpAnyH_take (i:=2) (v:=?_) rfl (by kernel_rfl) (by kernel_rfl) (by kernel_rfl) (fun _ _ _ h=>h) (Or.inl ⟨by rfl,?_⟩) (by assumption) ?_
  rotate_left 1
  ·(intro w al;(try dsimp only at al);obtain ⟨eT,eU⟩:=al;go_simp;try with_reducible rfl)
  try simp only[Act.put]
  refine wpAnyH_take (i:=3) (v:=?_) rfl (by kernel_rfl) (by kernel_rfl) (by kernel_rfl) (fun _ _ _ h=>h) (Or.inl ⟨by rfl,?_⟩) (by assumption) ?_
  rotate_left 1
  ·(intro w al;(try dsimp only at al);obtain ⟨eT,eU⟩:=al;go_simp;try with_reducible rfl)
  try simp only[Act.put]
  refine wpAnyH_take (i:=4) (v:=?_) rfl (by kernel_rfl) (by kernel_rfl) (by kernel_rfl) (fun _ _ _ h=>h) (Or.inl ⟨by rfl,?_⟩) (by assumption) ?_
  rotate_left 1
  ·(intro w al;(try dsimp only at al);obtain ⟨eT,eU⟩:=al;go_simp;try with_reducible rfl)
  try simp only[Act.put]
  refine wpAnyH_take (i:=6) (v:=?_) rfl (by kernel_rfl) (by kernel_rfl) (by kernel_rfl) (fun _ _ _ h=>h) (Or.inl ⟨by rfl,?_⟩) (by assumption) ?_
  rotate_left 1
  ·(intro w al;(try dsimp only at al);obtain ⟨eT,eU⟩:=al;go_simp;try with_reducible rfl)
  try simp only[Act.put]
  refine wpAnyH_take (i:=7) (v:=?_) rfl (by kernel_rfl) (by kernel_rfl) (by kernel_rfl) (fun _ _ _ h=>h) (Or.inl ⟨by rfl,?_⟩) (by assumption) ?_
  rotate_left 1
  ·(intro w al;(try dsimp only at al);obtain ⟨eT,eU⟩:=al;go_simp;try with_reducible rfl)
  try simp only[Act.put]
  refine wpAnyH_ready (rs:=[5]) (by kernel_rfl) (by simp) ?_;refine AllReadyH.cons rfl (fun K hK=>?_) AllReadyH.nil
  go_simp
  refine (CH.o _).mono ?_;rintro e w3 ⟨rfl,bL⟩;subst w3;refine hK.out _ _ SW (fun ax=>?_);clear hK K
  try simp only[Act.put,zyO,zyZ,zyW]
  refine wpAnyH_ready (rs:=[8]) (by kernel_rfl) (by simp) ?_;refine AllReadyH.cons rfl (fun K hK=>?_) AllReadyH.nil
  go_simp
  refine (CB.o _ (H1.o.drewN 1)).mono ?_;cases r with
  |error j=>
   rintro e w7 ⟨f7,rfl,h7⟩;exact ⟨rfl,F1.o.drew.trans f7,rfl,h7⟩
  |ok m'=>
   rintro e w7 ⟨f7,rfl,h7⟩;have H7:=zab h7;have F7:=zab (F1.o.drew.trans f7);have B7:=Fr.blk B1.o.drew f7 bW.o;have S7:w7.cell? ⟨w.heap.size,0,none⟩=some (.int .i64 t)/\w7.cell? ⟨w.heap.size,1,none⟩=some (.int .i64 c):=⟨by simpa using Blk.cell B7 0,by simpa using Blk.cell B7 1⟩;clear f7 h7 B7;refine hK.out _ _ S7 (fun ax=>?_);clear hK K
   try simp only[Act.put,zyO,zyZ,zyW]
   refine wpAnyH_done (by kernel_rfl) ?_ _;clear SW S7;go_wp2_with fail
   first|go_end0|refine bodyPost_ret (results_none rfl _ _ _) rfl ?_
   exact ⟨F7.o,rfl,H7.o⟩
 ·cases hb
theorem zr3(h:MAt w mb wb fv m)(hb:m.pack 2 t c=some r):
  Calls prog 81 #[.pointer (some ⟨mb,0,none⟩),.iface 257 (.agg #[.int .i64 t,.int .i64 c])] w fun e w'=>Ends w mb wb fv r e w':=by
 unfold MSt.pack at hb;split at hb
 ·next hg=>
  have i0:=zmU;have i1:=ze5;have i2:=zgx;have i3:=zmT;have i4:=zkV;have H1:=zab (h.alloc (.cells #[.int .i64 t,.int .i64 c] 257));have B1:=zab (Blk.new w [.int .i64 t,.int .i64 c] 257);have F1:Hid (Fr (MB mb wb fv) w (w.alloc (.cells #[.int .i64 t,.int .i64 c] 257))):=zab ((Fr.refl _ _).alloc _);have bW:=zab (h.zc3 (zyN w.heap.size));clear h;go_enter func81,ntmps81
  go_wp2_with fail
  generalize w.alloc (.cells #[.int .i64 t,.int .i64 c] 257)=w1 at H1 F1 B1 ⊢;clear i0 i1 i2 i3 i4;have CH:=zab (fun W:World=>zbt 2 t c W (by omega) hg.2 hg.1);obtain ⟨z,hz⟩:∃ z,Hd 2 t c=z:=⟨_,rfl⟩;rw[hz]at CH hb;have CB:=zab (fun (W:World) (hW:MAt W mb wb fv m)=>zgP hW (show c<=1000000 by omega) hb);have SW:w1.drew.cell? ⟨w.heap.size,0,none⟩=some (.int .i64 t)/\w1.drew.cell? ⟨w.heap.size,1,none⟩=some (.int .i64 c):=⟨by simpa using Blk.cell B1.o.drew 0,by simpa using Blk.cell B1.o.drew 1⟩;clear hb hz hg;refine wp_region_held_drew (S:=fun W=>W.cell? ⟨w.heap.size,0,none⟩=some (.int .i64 t)/\W.cell? ⟨w.heap.size,1,none⟩=some (.int .i64 c)) (by kernel_rfl) SW (fun ax=>?_);refine wpAnyH_take (i:=0) (v:=?_) rfl (by kernel_rfl) (by kernel_rfl) (by kernel_rfl) (fun _ _ _ h=>h) (Or.inl ⟨by rfl,?_⟩) (by assumption) ?_
  rotate_left 1
  ·(intro w al;(try dsimp only at al);obtain ⟨eT,eU⟩:=al;go_simp;try with_reducible rfl)
  try simp only[Act.put,zyO]
  refine wpAnyH_take (i:=1) (v:=?_) rfl (by kernel_rfl) (by kernel_rfl) (by kernel_rfl) (fun _ _ _ h=>h) (Or.inl ⟨by rfl,?_⟩) (by assumption) ?_
  rotate_left 1
  ·(intro w al;(try dsimp only at al);obtain ⟨eT,eU⟩:=al;go_simp;try with_reducible rfl)
  try simp only[Act.put]
  refine wpAnyH_take (i:=2) (v:=?_) rfl (by kernel_rfl) (by kernel_rfl) (by kernel_rfl) (fun _ _ _ h=>h) (Or.inl ⟨by rfl,?_⟩) (by assumption) ?_
  rotate_left 1
  ·(intro w al;(try dsimp only at al);obtain ⟨eT,eU⟩:=al;go_simp;try with_reducible rfl)
  try simp only[Act.put]
  refine wpAnyH_take (i:=3) (v:=?_) rfl (by kernel_rfl) (by kernel_rfl) (by kernel_rfl) (fun _ _ _ h=>h) (Or.inl ⟨by rfl,?_⟩) (by assumption) ?_
  rotate_left 1
  ·(intro w al;(try dsimp only at al);obtain ⟨eT,eU⟩:=al;go_simp;try with_reducible rfl)
  try simp only[Act.put]
  refine wpAnyH_take (i:=4) (v:=?_) rfl (by kernel_rfl) (by kernel_rfl) (by kernel_rfl) (fun _ _ _ h=>h) (Or.inl ⟨by rfl,?_⟩) (by assumption) ?_
  rotate_left 1
  ·(intro w al;(try dsimp only at al);obtain ⟨eT,eU⟩:=al;go_simp;try with_reducible rfl)
  try simp only[Act.put]
  refine wpAnyH_take (i:=6) (v:=?_) rfl (by kernel_rfl) (by kernel_rfl) (by kernel_rfl) (fun _ _ _ h=>h) (Or.inl ⟨by rfl,?_⟩) (by assumption) ?_
  rotate_left 1
  ·(intro w al;(try dsimp only at al);obtain ⟨eT,eU⟩:=al;go_simp;try with_reducible rfl)
  try simp only[Act.put]
  refine wpAnyH_take (i:=7) (v:=?_) rfl (by kernel_rfl) (by kernel_rfl) (by kernel_rfl) (fun _ _ _ h=>h) (Or.inl ⟨by rfl,?_⟩) (by assumption) ?_
  rotate_left 1
  ·(intro w al;(try dsimp only at al);obtain ⟨eT,eU⟩:=al;go_simp;try with_reducible rfl)
  try simp only[Act.put]
  refine wpAnyH_ready (rs:=[5]) (by kernel_rfl) (by simp) ?_;refine AllReadyH.cons rfl (fun K hK=>?_) AllReadyH.nil
  go_simp
  refine (CH.o _).mono ?_;rintro e w3 ⟨rfl,bL⟩;subst w3;refine hK.out _ _ SW (fun ax=>?_);clear hK K
  try simp only[Act.put,zyO,zyZ,zyW]
  refine wpAnyH_ready (rs:=[8]) (by kernel_rfl) (by simp) ?_;refine AllReadyH.cons rfl (fun K hK=>?_) AllReadyH.nil
  go_simp
  refine (CB.o _ (H1.o.drewN 1)).mono ?_;cases r with
  |error j=>
   rintro e w7 ⟨f7,rfl,h7⟩;exact ⟨rfl,F1.o.drew.trans f7,rfl,h7⟩
  |ok m'=>
   rintro e w7 ⟨f7,rfl,h7⟩;have H7:=zab h7;have F7:=zab (F1.o.drew.trans f7);have B7:=Fr.blk B1.o.drew f7 bW.o;have S7:w7.cell? ⟨w.heap.size,0,none⟩=some (.int .i64 t)/\w7.cell? ⟨w.heap.size,1,none⟩=some (.int .i64 c):=⟨by simpa using Blk.cell B7 0,by simpa using Blk.cell B7 1⟩;clear f7 h7 B7;refine hK.out _ _ S7 (fun ax=>?_);clear hK K
   try simp only[Act.put,zyO,zyZ,zyW]
   refine wpAnyH_done (by kernel_rfl) ?_ _;clear SW S7;go_wp2_with fail
   first|go_end0|refine bodyPost_ret (results_none rfl _ _ _) rfl ?_
   exact ⟨F7.o,rfl,H7.o⟩
 ·cases hb
theorem zop(h:MAt w mb wb fv m)(hb:m.hold t c=some r):
  Calls prog 81 #[.pointer (some ⟨mb,0,none⟩),.iface 258 (.agg #[.int .i64 t,.int .i64 c])] w fun e w'=>Ends w mb wb fv r e w':=by
 unfold MSt.hold at hb;split at hb
 ·next hg=>
  have i0:=zkd;have i1:=zes;have i2:=zfb;have i3:=zkc;have i4:=ziG;have i5:=zhq;have H1:=zab (h.alloc (.cells #[.int .i64 t,.int .i64 c] 258));have B1:=zab (Blk.new w [.int .i64 t,.int .i64 c] 258);have F1:Hid (Fr (MB mb wb fv) w (w.alloc (.cells #[.int .i64 t,.int .i64 c] 258))):=zab ((Fr.refl _ _).alloc _);have bW:=zab (h.zc3 (zyN w.heap.size));clear h;go_enter func81,ntmps81
  go_wp2_with fail
  generalize w.alloc (.cells #[.int .i64 t,.int .i64 c] 258)=w1 at H1 F1 B1 ⊢;clear i0 i1 i2 i3 i4 i5;have CH:=zab (fun W:World=>zbt 2 t c W (by omega) hg.2 hg.1);obtain ⟨z,hz⟩:∃ z,Hd 2 t c=z:=⟨_,rfl⟩;rw[hz]at CH hb;have CB:=zab (fun (W:World) (hW:MAt W mb wb fv m)=>zpL hW (show c<=1000000 by omega) hb);have SW:w1.drew.cell? ⟨w.heap.size,0,none⟩=some (.int .i64 t)/\w1.drew.cell? ⟨w.heap.size,1,none⟩=some (.int .i64 c):=⟨by simpa using Blk.cell B1.o.drew 0,by simpa using Blk.cell B1.o.drew 1⟩;clear hb hz hg;refine wp_region_held_drew (S:=fun W=>W.cell? ⟨w.heap.size,0,none⟩=some (.int .i64 t)/\W.cell? ⟨w.heap.size,1,none⟩=some (.int .i64 c)) (by kernel_rfl) SW (fun ax=>?_);refine wpAnyH_take (i:=0) (v:=?_) rfl (by kernel_rfl) (by kernel_rfl) (by kernel_rfl) (fun _ _ _ h=>h) (Or.inl ⟨by rfl,?_⟩) (by assumption) ?_
  rotate_left 1
  ·(intro w al;(try dsimp only at al);obtain ⟨eT,eU⟩:=al;go_simp;try with_reducible rfl)
  try simp only[Act.put,zyO]
  refine wpAnyH_take (i:=1) (v:=?_) rfl (by kernel_rfl) (by kernel_rfl) (by kernel_rfl) (fun _ _ _ h=>h) (Or.inl ⟨by rfl,?_⟩) (by assumption) ?_
  rotate_left 1
  ·(intro w al;(try dsimp only at al);obtain ⟨eT,eU⟩:=al;go_simp;try with_reducible rfl)
  try simp only[Act.put]
  refine wpAnyH_take (i:=2) (v:=?_) rfl (by kernel_rfl) (by kernel_rfl) (by kernel_rfl) (fun _ _ _ h=>h) (Or.inl ⟨by rfl,?_⟩) (by assumption) ?_
  rotate_left 1
  ·(intro w al;(try dsimp only at al);obtain ⟨eT,eU⟩:=al;go_simp;try with_reducible rfl)
  try simp only[Act.put]
  refine wpAnyH_take (i:=3) (v:=?_) rfl (by kernel_rfl) (by kernel_rfl) (by kernel_rfl) (fun _ _ _ h=>h) (Or.inl ⟨by rfl,?_⟩) (by assumption) ?_
  rotate_left 1
  ·(intro w al;(try dsimp only at al);obtain ⟨eT,eU⟩:=al;go_simp;try with_reducible rfl)
  try simp only[Act.put]
  refine wpAnyH_take (i:=4) (v:=?_) rfl (by kernel_rfl) (by kernel_rfl) (by kernel_rfl) (fun _ _ _ h=>h) (Or.inl ⟨by rfl,?_⟩) (by assumption) ?_
  rotate_left 1
  ·(intro w al;(try dsimp only at al);obtain ⟨eT,eU⟩:=al;go_simp;try with_reducible rfl)
  try simp only[Act.put]
  refine wpAnyH_take (i:=6) (v:=?_) rfl (by kernel_rfl) (by kernel_rfl) (by kernel_rfl) (fun _ _ _ h=>h) (Or.inl ⟨by rfl,?_⟩) (by assumption) ?_
  rotate_left 1
  ·(intro w al;(try dsimp only at al);obtain ⟨eT,eU⟩:=al;go_simp;try with_reducible rfl)
  try simp only[Act.put]
  refine wpAnyH_take (i:=7) (v:=?_) rfl (by kernel_rfl) (by kernel_rfl) (by kernel_rfl) (fun _ _ _ h=>h) (Or.inl ⟨by rfl,?_⟩) (by assumption) ?_
  rotate_left 1
  ·(intro w al;(try dsimp only at al);obtain ⟨eT,eU⟩:=al;go_simp;try with_reducible rfl)
  try simp only[Act.put]
  refine wpAnyH_ready (rs:=[5]) (by kernel_rfl) (by simp) ?_;refine AllReadyH.cons rfl (fun K hK=>?_) AllReadyH.nil
  go_simp
  refine (CH.o _).mono ?_;rintro e w3 ⟨rfl,bL⟩;subst w3;refine hK.out _ _ SW (fun ax=>?_);clear hK K
  try simp only[Act.put,zyO,zyZ,zyW]
  refine wpAnyH_ready (rs:=[8]) (by kernel_rfl) (by simp) ?_;refine AllReadyH.cons rfl (fun K hK=>?_) AllReadyH.nil
  go_simp
  refine (CB.o _ (H1.o.drewN 1)).mono ?_;cases r with
  |error j=>
   rintro e w7 ⟨f7,rfl,h7⟩;exact ⟨rfl,F1.o.drew.trans f7,rfl,h7⟩
  |ok m'=>
   rintro e w7 ⟨f7,rfl,h7⟩;have H7:=zab h7;have F7:=zab (F1.o.drew.trans f7);have B7:=Fr.blk B1.o.drew f7 bW.o;have S7:w7.cell? ⟨w.heap.size,0,none⟩=some (.int .i64 t)/\w7.cell? ⟨w.heap.size,1,none⟩=some (.int .i64 c):=⟨by simpa using Blk.cell B7 0,by simpa using Blk.cell B7 1⟩;clear f7 h7 B7;refine hK.out _ _ S7 (fun ax=>?_);clear hK K
   try simp only[Act.put,zyO,zyZ,zyW]
   refine wpAnyH_done (by kernel_rfl) ?_ _;clear SW S7;go_wp2_with fail
   first|go_end0|refine bodyPost_ret (results_none rfl _ _ _) rfl ?_
   exact ⟨F7.o,rfl,H7.o⟩
 ·cases hb
def MSt.zln (m:MSt) (k c:Nat):Option (Except Nat MSt):=
 match m.slot k with
 |none=>none
 |some i=>
  match m.s.ws[i]? with
  |none=>none
  |some x=>if x<0 then none else
   match m.s.head x.toNat with
   |none=>none
   |some y=>if cnt y=c/\x.toNat+1+c<=m.s.ws.length/\m.s.top+c<=m.s.ws.length/\(i<x.toNat+1\/x.toNat+1+c<=i) then
     m.put (Sto.pop { m.s with ws:=Go.splice m.s.ws (x.toNat+1) (m.s.words m.s.top c) } c)
    else none
theorem zr0{ws xs:List Int}{o i:Nat}(h:o+xs.length<=ws.length)(hi:i<o\/o+xs.length<=i):(Go.splice ws o xs)[i]?=ws[i]?:=by
 unfold Go.splice;rcases hi with hi|hi
 ·rw[zzc (by rw[zzf];omega),List.getElem?_take_of_lt hi]
 ·rw[zy3 (by rw[zzf];omega),zzf,zzV (by omega),zy3 (by omega),zzx];congr 1;omega
theorem zuy{k:Nat}(h:MAt w mb wb fv m)(hb:m.zln k c=some r):
  Calls prog 81 #[.pointer (some ⟨mb,0,none⟩),.iface 260 (.agg #[.int .i64 k,.int .i64 c])] w fun e w'=>Ends w mb wb fv r e w':=by
 unfold MSt.zln at hb;split at hb
 ·cases hb
 ·next i hi=>
  split at hb
  ·cases hb
  ·next x hx=>
   split at hb
   ·cases hb
   ·next cX=>
    split at hb
    ·cases hb
    ·next y hh=>
     split at hb
     ·next hg=>
      simp only[MSt.put,zyX]at hb;obtain ⟨s4,dW,rfl⟩:=hb;obtain ⟨a,rfl⟩:∃ a:Nat,x=a:=⟨x.toNat,by omega⟩;simp only[zy2]at hh hg dW;obtain ⟨hy,aT,bE,aU⟩:=Sto.zaU hh;obtain ⟨bw,aF,aS,bM⟩:=hg;have br:=(zyL.1 hx).1;have jj:(c:Int)<4096:=by have:=zf2 y;omega
      have hlen:=h.sat.len;have i0:=zox;have i1:=zfN;have i2:=zhh;have i3:=zow;have i4:=zmZ;have i5:=zj9;have i6:=zov;have H1:=zab (h.alloc (.cells #[.int .i64 k,.int .i64 c] 260));have B1:=zab (Blk.new w [.int .i64 k,.int .i64 c] 260);have F1:Hid (Fr (MB mb wb fv) w (w.alloc (.cells #[.int .i64 k,.int .i64 c] 260))):=zab ((Fr.refl _ _).alloc _);have bW:=zab (h.zc3 (zyN w.heap.size));clear h;go_enter func81,ntmps81
      go_wp2_with fail
      generalize w.alloc (.cells #[.int .i64 k,.int .i64 c] 260)=w1 at H1 F1 B1 ⊢;clear i0 i1 i2 i3 i4 i5 i6;have HC:=zab (H1.o.drewN 1);have FC:Hid (Fr (M2 mb wb) w1 (w1.drewN 1)):=zab ((Fr.refl _ _).drewN 1);have CS:=zab (fun (W:World) (hW:MAt W mb wb fv m)=>zqS hW hi);have CF:=zab (fun (W:World) (hW:MAt W mb wb fv m)=>zcA hW.sat a y hy aT bE (show a+1+cnt y<=m.s.ws.length by omega));have CT:=zab (fun (W:World) (hW:MAt W mb wb fv m)=>zeZ hW.sat c aS);rw[show (y/16%4096).toNat=c from bw]at CF;have pN:=zab hx;have dk:(m.s.words m.s.top c).length=c:=Sto.zcR aS;have mD:Hid (∀ (j:Nat) x,(m.s.words m.s.top c)[j]?=some x->m.s.ws[m.s.top+j]?=some x):=zab (fun j x hj=>(Sto.zd7 hj).2);have ug:Hid (0<c->cutAt m.s.ws.length (a+1)=a+1):=zab (fun h0=>zbT (by omega));have mA:Hid (0<c->cutAt m.s.ws.length m.s.top=m.s.top):=zab (fun h0=>zbT (by omega));have uh:Hid (cutAt m.s.ws.length (a+1)+c<=m.s.ws.length):=zab (by unfold cutAt;split <;> omega);obtain ⟨L,hL⟩:∃ L,m.s.ws.length=L:=⟨_,rfl⟩;have o4:(i:Int)<(L:Int):=by omega
      have HL:=zab hL;have c0:=H1.o.sat.c0;rw[hL]at c0 ug mA uh CF CT;generalize cutAt L (a+1)=o1 at ug uh CF;generalize cutAt L m.s.top=o2 at mA CT;generalize L-(a+1)=q1 at CF;generalize L-m.s.top=q2 at CT;generalize m.s.words m.s.top c=xs at dk mD dW;have kE:Hid (Sto.pop { m.s with ws:=Go.splice m.s.ws o1 xs } c=some s4):=zab (by
       by_cases h0:c=0
       ·have cX:xs=[]:=zzt (by omega);rw[cX]at dW ⊢;simpa [Go.splice] using dW
       ·rw[ug.o (by omega)];exact dW)
      have CY:Hid ((Go.splice m.s.ws o1 xs)[i]?=some (a:Int)):=zab (by
       by_cases h0:c=0
       ·have cX:xs=[]:=zzt (by omega);rw[cX];simpa [Go.splice] using hx
       ·rw[zr0 (by rw[dk,hL];exact uh.o) (by rw[ug.o (by omega),dk];exact bM)];exact hx)
      have cb:w1.cell? ⟨w.heap.size,0,none⟩=some (.int .i64 k):=by simpa using Blk.cell B1.o 0
      have cc:w1.cell? ⟨w.heap.size,1,none⟩=some (.int .i64 c):=by simpa using Blk.cell B1.o 1
      have cx:=H1.o.sat.word hx;have fZ:Hid (o1+xs.length<=m.s.ws.length):=zab (by rw[dk,hL];exact uh.o);have FY:=zab (And.intro aF aS);clear hi hx hh bw aF aS bM hy aT bE aU br hL dW hlen cX
      go_region_held3 (fun W=>W.cell? ⟨mb,0,none⟩=some (.slice (some ⟨wb,0,none⟩) L L)/\W.cell? ⟨w.heap.size,0,none⟩=some (.int .i64 k)/\W.cell? ⟨w.heap.size,1,none⟩=some (.int .i64 c)/\W.cell? ⟨wb,i,none⟩=some (.int .i64 a)) (first|go_keep|(refine ⟨?_,?_,?_,?_⟩ <;> assumption)) (first
       |(go_at_call 131;refine (CS.o _ HC.o).mono ?_;rintro e w3 ⟨rfl,k3,bL⟩;have nw:Hid (MAt w3 mb wb fv m):=zab (by rw[bL];exact HC.o.drewN k3);have nr:Hid (Fr (M2 mb wb) w1 w3):=zab (by rw[bL];exact FC.o.drewN k3);clear HC FC bL;have HC:=nw;have FC:=nr;clear nw nr;have d0:w3.cell? ⟨mb,0,none⟩=some (.slice (some ⟨wb,0,none⟩) L L):=(by rw[HC.o.sat.c0,HL.o]);have db:w3.cell? ⟨w.heap.size,0,none⟩=some (.int .i64 k):=(by simpa using Blk.cell (Fr.blk B1.o (FC.o.zc9 fv) bW.o) 0);have dc:w3.cell? ⟨w.heap.size,1,none⟩=some (.int .i64 c):=(by simpa using Blk.cell (Fr.blk B1.o (FC.o.zc9 fv) bW.o) 1);have dx:=HC.o.sat.word pN.o)
       |(go_at_call 135;refine (CF.o _ HC.o).mono ?_;rintro e w3 ⟨rfl,k3,bL⟩;have nw:Hid (MAt w3 mb wb fv m):=zab (by rw[bL];exact HC.o.drewN k3);have nr:Hid (Fr (M2 mb wb) w1 w3):=zab (by rw[bL];exact FC.o.drewN k3);clear HC FC bL;have HC:=nw;have FC:=nr;clear nw nr;have d0:w3.cell? ⟨mb,0,none⟩=some (.slice (some ⟨wb,0,none⟩) L L):=(by rw[HC.o.sat.c0,HL.o]);have db:w3.cell? ⟨w.heap.size,0,none⟩=some (.int .i64 k):=(by simpa using Blk.cell (Fr.blk B1.o (FC.o.zc9 fv) bW.o) 0);have dc:w3.cell? ⟨w.heap.size,1,none⟩=some (.int .i64 c):=(by simpa using Blk.cell (Fr.blk B1.o (FC.o.zc9 fv) bW.o) 1);have dx:=HC.o.sat.word pN.o)
       |(go_at_call 136;refine (CT.o _ HC.o).mono ?_;rintro e w3 ⟨rfl,k3,bL⟩;have nw:Hid (MAt w3 mb wb fv m):=zab (by rw[bL];exact HC.o.drewN k3);have nr:Hid (Fr (M2 mb wb) w1 w3):=zab (by rw[bL];exact FC.o.drewN k3);clear HC FC bL;have HC:=nw;have FC:=nr;clear nw nr;have d0:w3.cell? ⟨mb,0,none⟩=some (.slice (some ⟨wb,0,none⟩) L L):=(by rw[HC.o.sat.c0,HL.o]);have db:w3.cell? ⟨w.heap.size,0,none⟩=some (.int .i64 k):=(by simpa using Blk.cell (Fr.blk B1.o (FC.o.zc9 fv) bW.o) 0);have dc:w3.cell? ⟨w.heap.size,1,none⟩=some (.int .i64 c):=(by simpa using Blk.cell (Fr.blk B1.o (FC.o.zc9 fv) bW.o) 1);have dx:=HC.o.sat.word pN.o)
       |(refine za6 (by rfl) _ _ (by rfl) HC.o.sat o1 _ _ _ _ _ (by rfl) (by rfl) xs (by rw[dk];exact (Nat.min_self c).symm) (fun h0=>⟨_,rfl,fun j x hj=>by rw[zbe,mA.o (by omega)];exact HC.o.sat.word (mD.o j x hj)⟩) fZ.o ?_;intro w8 h8 f8;have H8:=zab h8;have F8:=zab (FC.o.trans f8);have e0:w8.cell? ⟨mb,0,none⟩=some (.slice (some ⟨wb,0,none⟩) L L):=(by rw[h8.c0];simp only;rw[zaY _ _ _ fZ.o,HL.o]);have eb:w8.cell? ⟨w.heap.size,0,none⟩=some (.int .i64 k):=(by simpa using Blk.cell (Fr.blk B1.o (F8.o.zc9 fv) bW.o) 0);have ec:w8.cell? ⟨w.heap.size,1,none⟩=some (.int .i64 c):=(by simpa using Blk.cell (Fr.blk B1.o (F8.o.zc9 fv) bW.o) 1);have ex:=h8.word CY.o;clear h8 f8))
      all_goals
       clear c0 cb cc cx d0 db dc dx e0 eb ex;go_wp2_with fail
       go_region_held3 (fun W=>W.cell? ⟨w.heap.size,1,none⟩=some (.int .i64 c)) (first|go_keep|assumption) ((go_at_call 137;refine (Sto.zbQ H8.o.drew kE.o).mono ?_;rintro e w9 ⟨rfl,h9,f9⟩;have H9:=zab h9;have F9:=zab (F8.o.drew.trans f9);have eb:w9.cell? ⟨w.heap.size,1,none⟩=some (.int .i64 c):=(by simpa using Blk.cell (Fr.blk B1.o (F9.o.zc9 fv) bW.o) 1);clear h9 f9))
       all_goals
        go_wp2_with fail
        first|go_end0|refine bodyPost_ret (results_none rfl _ _ _) rfl ?_
        exact ⟨F1.o.trans (F9.o.zc9 fv),rfl,H1.o.fr2 H9.o F9.o⟩
     ·cases hb
end Go.Proofs.YtgahgkddaljmkaaGreatDoor
namespace Go.Proofs.YtgahgkddaljmkaaGreatDoor
open Tryz
open Go.RowKit
inductive Ins where
 |push (k:Nat)
 |zcW (f:Nat)
 |num (v:Int)
 |pack (t c:Nat)
 |close (b c:Nat)
 |hold (b c:Nat)
 |fill (k c:Nat)
 |wait (b:Nat)
 |zbF (c:Nat)
 |zci (c:Nat)
 |zbX
 |comp (sg:ByteArray)
 |enter
 |jump (b:Nat)
 |choose (zao:List (Nat × Nat × Nat))
def IAt (w:World) (mb wb:Nat) (fv:Value) (v:Value):Ins->Prop
 |.push k=>v=.iface 248 (.agg #[.int .i64 k])
 |.zcW f=>v=.iface 250 (.agg #[.int .i64 f])
 |.num x=>v=.iface 252 (.agg #[.int .i64 x])
 |.pack t c=>v=.iface 254 (.agg #[.int .i64 t,.int .i64 c])
 |.close b c=>v=.iface 257 (.agg #[.int .i64 b,.int .i64 c])
 |.hold b c=>v=.iface 258 (.agg #[.int .i64 b,.int .i64 c])
 |.fill k c=>v=.iface 260 (.agg #[.int .i64 k,.int .i64 c])
 |.wait b=>v=.iface 263 (.agg #[.int .i64 b])
 |.zbF c=>v=.iface 267 (.agg #[.int .i64 c])
 |.zci c=>v=.iface 268 (.agg #[.int .i64 c])
 |.zbX=>v=.iface 269 (.agg #[])
 |.comp sg=>v=.iface 272 (.agg #[.string sg])
 |.enter=>v=.iface 185 (.agg #[])
 |.jump b=>v=.iface 273 (.agg #[.int .i64 b])
 |.choose zao=>∃ av,v=.iface 276 (.agg #[av])/\zgI w mb wb fv av zao
theorem IAt.fr{w w':World}{mb wb:Nat}{fv v:Value}{i:Ins}(h:IAt w mb wb fv v i)(f:Fr (MB mb wb fv) w w'):IAt w' mb wb fv v i:=by
 cases i <;> first|exact h|(obtain ⟨av,h1,h2⟩:=h;exact ⟨av,h1,h2.fr f⟩)
def MSt.step (m:MSt) (sl:List Nat):Ins->Option (Except Nat MSt)
 |.push k=>m.ziT k
 |.zcW f=>m.zcW f
 |.num x=>m.zau x
 |.pack t c=>m.pack 1 t c
 |.close b c=>m.pack 2 b c
 |.hold b c=>m.hold b c
 |.fill k c=>m.zln k c
 |.wait b=>m.zcH 1 b
 |.zbF c=>m.zcH 2 c
 |.zci c=>(m.zci c).map .ok
 |.zbX=>(m.numberAt 0).map fun q=>q.map fun _=>m
 |.comp sg=>m.compute sg
 |.enter=>m.enter sl
 |.jump b=>some (.ok { m with o:={ m.o with next:=b } })
 |.choose zao=>m.choose zao
variable {w:World}
variable {mb wb:Nat}
variable {fv:Value}
variable {m:MSt}
variable {r:Except Nat MSt}
theorem zwn{v:Value}{sl:List Nat}{i:Ins}(h:MAt w mb wb fv m)(hB:BAt w mb wb fv m.o.pb sl)(hi:IAt w mb wb fv v i)(hb:m.step sl i=some r):
  Calls prog 81 #[.pointer (some ⟨mb,0,none⟩),v] w fun e w'=>Ends w mb wb fv r e w':=by
 cases i with
 |push k=>obtain rfl:=hi;exact zuB h hb
 |zcW f=>obtain rfl:=hi;exact zhV h hb
 |num x=>obtain rfl:=hi;exact zjX h hb
 |pack t c=>obtain rfl:=hi;exact zuA h hb
 |close b c=>obtain rfl:=hi;exact zr3 h hb
 |hold b c=>obtain rfl:=hi;exact zop h hb
 |fill k c=>obtain rfl:=hi;exact zuy h hb
 |wait b=>obtain rfl:=hi;exact zuC h hb
 |zbF c=>obtain rfl:=hi;exact zhW h hb
 |zci c=>
  obtain rfl:=hi;simp only[MSt.step,zyX]at hb;obtain ⟨m2,h2,rfl⟩:=hb;exact zr5 h h2 rfl
 |zbX=>
  obtain rfl:=hi;simp only[MSt.step,zyX]at hb;obtain ⟨q,h2,rfl⟩:=hb;exact zjW h h2 rfl
 |comp sg=>obtain rfl:=hi;exact zoo h hb
 |enter=>obtain rfl:=hi;exact zr4 h hB hb
 |jump b=>obtain rfl:=hi;exact zuz h (zyU hb).symm
 |choose zao=>obtain ⟨av,rfl,hA⟩:=hi;exact zpW h hA hb
def zjL (r:Int):Bool:=r == 32||r == 10
def zdl (r:Int):Bool:=decide (97<=r) && decide (r<=122)
def zem (r:Int):Bool:=decide (48<=r) && decide (r<=57)
def zjM (r:Int):Bool:=zdl r||zem r
theorem zgo(r:Int)(w:World):
  Calls prog 189 #[.int .i32 r] w fun e w'=>e=.returned (.bool (zjL r))/\w'=w:=by
 by_cases h:(r == 32)=true
 ·go_enter func189,ntmps189
  go_wp2
  go_ret
  exact ⟨by simp[zjL,h],rfl⟩
 ·have h:(r == 32)=false:=by simpa using h
  go_enter func189,ntmps189
  go_wp2
  go_ret
  exact ⟨by simp[zjL,h],rfl⟩
theorem zdz(r:Int)(w:World):
  Calls prog 242 #[.int .i32 r] w fun e w'=>e=.returned (.bool (zdl r))/\w'=w:=by
 by_cases h:97<=r
 ·go_enter func242,ntmps242
  go_wp2
  go_ret
  exact ⟨by simp[zdl,h],rfl⟩
 ·have hd:decide (97<=r)=false:=by simpa using h
  go_enter func242,ntmps242
  go_wp2
  go_ret
  exact ⟨by simp[zdl,hd],rfl⟩
theorem zeh(r:Int)(w:World):
  Calls prog 245 #[.int .i32 r] w fun e w'=>e=.returned (.bool (zem r))/\w'=w:=by
 by_cases h:48<=r
 ·go_enter func245,ntmps245
  go_wp2
  go_ret
  exact ⟨by simp[zem,h],rfl⟩
 ·have hd:decide (48<=r)=false:=by simpa using h
  go_enter func245,ntmps245
  go_wp2
  go_ret
  exact ⟨by simp[zem,hd],rfl⟩
theorem zmr(r:Int)(w:World):
  Calls prog 244 #[.int .i32 r] w fun e w'=>e=.returned (.bool (zjM r))/\w'=w:=by
 cases h:zdl r
 ·go_enter func244,ntmps244
  go_wp2_with fail
  refine (zdz r _).mono ?_;rintro e w' ⟨rfl,rfl⟩;rw[h];go_wp2_with fail
  refine (zeh r _).mono ?_;rintro e w' ⟨rfl,rfl⟩;go_wp2_with fail
  go_ret
  exact ⟨by simp[zjM,h],rfl⟩
 ·go_enter func244,ntmps244
  go_wp2_with fail
  refine (zdz r _).mono ?_;rintro e w' ⟨rfl,rfl⟩;rw[h];go_wp2_with fail
  go_ret
  exact ⟨by simp[zjM,h],rfl⟩
theorem zgg{q:UInt8->Bool}:∀ (l:List UInt8) (k:Nat),k<=l.length->(∀ j (h:j<l.length),j<k->q l[j]=true) ->
  (∀ (h:k<l.length),q l[k]=false)->(l.takeWhile q).length=k
 |[],k,hk,_,_=>by simp at hk;simp[hk]
 |c::l,0,_,_,h2=>by
  have:=h2 (by simp);simp at this;simp[this]
 |c::l,k+1,hk,h1,h2=>by
  have a:=h1 0 (by simp) (by omega);simp at a;have ih:=zgg l k (by simpa using hk) (fun j h hj=>by have:=h1 (j+1) (by simpa using h) (by omega);simpa using this)
   (fun h=>by have:=h2 (by simpa using h);simpa using this)
  simp[a,ih]
theorem zyj(c:UInt8)(_h:c.toNat<128):Th.zda c=zjL c.toNat:=by
 unfold Th.zda zjL;rw[zAa];simp[<-UInt8.toNat_inj];omega
theorem zw8(c:UInt8)(h:128<=c.toNat):Th.zda c=false:=by
 unfold Th.zda;simp[<-UInt8.toNat_inj];omega
theorem zw9(r:Int)(h:128<=r):zjL r=false:=by
 unfold zjL;simp;omega
theorem zsS(c:UInt8)(_h:c.toNat<128):Th.zba c=zem c.toNat:=by
 unfold Th.zba zem;rw[zAa];simp;omega
theorem zvo(c:UInt8)(h:128<=c.toNat):Th.zba c=false:=by
 unfold Th.zba;simp;omega
theorem zvp(r:Int)(h:128<=r):zem r=false:=by
 unfold zem;simp;omega
theorem zxx(c:UInt8)(_h:c.toNat<128):Th.isLet c=zdl c.toNat:=by
 unfold Th.isLet zdl;rw[zAa];simp;omega
theorem zyH(c:UInt8)(h:c.toNat<128):Th.zlx c=zjM c.toNat:=by
 unfold Th.zlx zjM;rw[zsS c h,zxx c h]
theorem zx4(c:UInt8)(h:128<=c.toNat):Th.zlx c=false:=by
 unfold Th.zlx Th.isLet Th.zba;simp;omega
theorem zx5(r:Int)(h:128<=r):zjM r=false:=by
 unfold zjM zdl zem;simp;omega
theorem zxR(s:ByteArray)(w:World)(_hs:s.size<9223372036854775807):
  Calls prog 188 #[.string s,.func (.func 189) #[] #[]] w fun e w'=>e=.returned (.int .i64 (s.data.toList.takeWhile Th.zda).length)/\∃ pos,w'=w.alloc (.stringIter s pos):=by
 go_enter func188,ntmps188
 go_wp2_with fail
 go_loopw [5] (fun _ w'=>∃ pos:Nat,w'=w.iter s pos/\pos<=s.size/\Hid (∀ j (h:j<s.size),j<pos->Th.zda s[j]=true)) (fun _ w'=>s.size-w'.iterPos w.heap.size)
 case atStart=>exact ⟨0,rfl,zy5 _,zab (fun _ _ h=>by omega)⟩
 case round=>
  obtain ⟨pos,rfl,hp,hall⟩:=hrel;by_cases aj:pos<s.size
  ·by_cases hb:(s[pos]'aj).toNat<128
   ·have gx:∀ ty,(Instr.next (.pointer (some ⟨w.heap.size,0,none⟩)) true ty).run prog (w.iter s pos)=_:=fun ty=>run_next_ascii w s pos ty aj hb
    have nV:=zab (zyj (s[pos]'aj) hb);clear hb;cases hv:Th.zda s[pos]
    ·have dZ:=zab hv;clear hv;go_wp2_with fail
     refine (zgo _ _).mono ?_;rintro e w' ⟨rfl,rfl⟩;rw[<-nV.o,dZ.o];go_wp2_with fail
     go_ret
     refine ⟨?_,_,rfl⟩;rw[zgg s.data.toList pos (by simp;omega) (fun j h hj=>hall.o j (by simpa using h) hj) (fun h=>dZ.o)];rfl
    ·have dZ:=zab hv;clear hv;go_wp2_with fail
     refine (zgo _ _).mono ?_;rintro e w' ⟨rfl,rfl⟩;rw[<-nV.o,dZ.o];go_wp2_with fail
     go_roundw
     case rel=>
      refine ⟨pos+1,rfl,by omega,zab fun j h hj=>?_⟩;by_cases e:j=pos
      ·subst e;exact dZ.o
      ·exact hall.o j h (by omega)
     case measure=>
      simp;omega
   ·have gx:∀ ty,(Instr.next (.pointer (some ⟨w.heap.size,0,none⟩)) true ty).run prog (w.iter s pos)=_:=fun ty=>run_next_any w s pos ty aj
    have dZ:=zab (zw8 _ (by omega:128<=(s[pos]'aj).toNat));have hd:=(decode_high s pos aj (by omega)).1;have tz:=zab (zw9 ((Utf8.decode s pos).1:Int) (by omega));clear hb hd;go_wp2_with fail
    refine (zgo _ _).mono ?_;rintro e w' ⟨rfl,rfl⟩;rw[tz.o];go_wp2_with fail
    go_ret
    refine ⟨?_,_,rfl⟩;rw[zgg s.data.toList pos (by simp;omega) (fun j h hj=>hall.o j (by simpa using h) hj) (fun h=>dZ.o)];rfl
  ·have gx:∀ ty,(Instr.next (.pointer (some ⟨w.heap.size,0,none⟩)) true ty).run prog (w.iter s pos)=_:=fun ty=>run_next_end w s pos ty aj
   go_wp2_with fail
   go_ret
   refine ⟨?_,_,rfl⟩;rw[zgg s.data.toList s.size (by simp) (fun j h hj=>hall.o j (by simpa using h) (by omega)) (fun h=>by simp at h)];rfl
theorem zxS(s:ByteArray)(w:World)(_hs:s.size<9223372036854775807):
  Calls prog 188 #[.string s,.func (.func 244) #[] #[]] w fun e w'=>e=.returned (.int .i64 (s.data.toList.takeWhile Th.zlx).length)/\∃ pos,w'=w.alloc (.stringIter s pos):=by
 go_enter func188,ntmps188
 go_wp2_with fail
 go_loopw [5] (fun _ w'=>∃ pos:Nat,w'=w.iter s pos/\pos<=s.size/\Hid (∀ j (h:j<s.size),j<pos->Th.zlx s[j]=true)) (fun _ w'=>s.size-w'.iterPos w.heap.size)
 case atStart=>exact ⟨0,rfl,zy5 _,zab (fun _ _ h=>by omega)⟩
 case round=>
  obtain ⟨pos,rfl,hp,hall⟩:=hrel;by_cases aj:pos<s.size
  ·by_cases hb:(s[pos]'aj).toNat<128
   ·have gx:∀ ty,(Instr.next (.pointer (some ⟨w.heap.size,0,none⟩)) true ty).run prog (w.iter s pos)=_:=fun ty=>run_next_ascii w s pos ty aj hb
    have nV:=zab (zyH (s[pos]'aj) hb);clear hb;cases hv:Th.zlx s[pos]
    ·have dZ:=zab hv;clear hv;go_wp2_with fail
     refine (zmr _ _).mono ?_;rintro e w' ⟨rfl,rfl⟩;rw[<-nV.o,dZ.o];go_wp2_with fail
     go_ret
     refine ⟨?_,_,rfl⟩;rw[zgg s.data.toList pos (by simp;omega) (fun j h hj=>hall.o j (by simpa using h) hj) (fun h=>dZ.o)];rfl
    ·have dZ:=zab hv;clear hv;go_wp2_with fail
     refine (zmr _ _).mono ?_;rintro e w' ⟨rfl,rfl⟩;rw[<-nV.o,dZ.o];go_wp2_with fail
     go_roundw
     case rel=>
      refine ⟨pos+1,rfl,by omega,zab fun j h hj=>?_⟩;by_cases e:j=pos
      ·subst e;exact dZ.o
      ·exact hall.o j h (by omega)
     case measure=>
      simp;omega
   ·have gx:∀ ty,(Instr.next (.pointer (some ⟨w.heap.size,0,none⟩)) true ty).run prog (w.iter s pos)=_:=fun ty=>run_next_any w s pos ty aj
    have dZ:=zab (zx4 _ (by omega:128<=(s[pos]'aj).toNat));have hd:=(decode_high s pos aj (by omega)).1;have tz:=zab (zx5 ((Utf8.decode s pos).1:Int) (by omega));clear hb hd;go_wp2_with fail
    refine (zmr _ _).mono ?_;rintro e w' ⟨rfl,rfl⟩;rw[tz.o];go_wp2_with fail
    go_ret
    refine ⟨?_,_,rfl⟩;rw[zgg s.data.toList pos (by simp;omega) (fun j h hj=>hall.o j (by simpa using h) hj) (fun h=>dZ.o)];rfl
  ·have gx:∀ ty,(Instr.next (.pointer (some ⟨w.heap.size,0,none⟩)) true ty).run prog (w.iter s pos)=_:=fun ty=>run_next_end w s pos ty aj
   go_wp2_with fail
   go_ret
   refine ⟨?_,_,rfl⟩;rw[zgg s.data.toList s.size (by simp) (fun j h hj=>hall.o j (by simpa using h) (by omega)) (fun h=>by simp at h)];rfl
theorem zwj(s:ByteArray)(w:World)(_hs:s.size<9223372036854775807):
  Calls prog 188 #[.string s,.func (.func 245) #[] #[]] w fun e w'=>e=.returned (.int .i64 (s.data.toList.takeWhile Th.zba).length)/\∃ pos,w'=w.alloc (.stringIter s pos):=by
 go_enter func188,ntmps188
 go_wp2_with fail
 go_loopw [5] (fun _ w'=>∃ pos:Nat,w'=w.iter s pos/\pos<=s.size/\Hid (∀ j (h:j<s.size),j<pos->Th.zba s[j]=true)) (fun _ w'=>s.size-w'.iterPos w.heap.size)
 case atStart=>exact ⟨0,rfl,zy5 _,zab (fun _ _ h=>by omega)⟩
 case round=>
  obtain ⟨pos,rfl,hp,hall⟩:=hrel;by_cases aj:pos<s.size
  ·by_cases hb:(s[pos]'aj).toNat<128
   ·have gx:∀ ty,(Instr.next (.pointer (some ⟨w.heap.size,0,none⟩)) true ty).run prog (w.iter s pos)=_:=fun ty=>run_next_ascii w s pos ty aj hb
    have nV:=zab (zsS (s[pos]'aj) hb);clear hb;cases hv:Th.zba s[pos]
    ·have dZ:=zab hv;clear hv;go_wp2_with fail
     refine (zeh _ _).mono ?_;rintro e w' ⟨rfl,rfl⟩;rw[<-nV.o,dZ.o];go_wp2_with fail
     go_ret
     refine ⟨?_,_,rfl⟩;rw[zgg s.data.toList pos (by simp;omega) (fun j h hj=>hall.o j (by simpa using h) hj) (fun h=>dZ.o)];rfl
    ·have dZ:=zab hv;clear hv;go_wp2_with fail
     refine (zeh _ _).mono ?_;rintro e w' ⟨rfl,rfl⟩;rw[<-nV.o,dZ.o];go_wp2_with fail
     go_roundw
     case rel=>
      refine ⟨pos+1,rfl,by omega,zab fun j h hj=>?_⟩;by_cases e:j=pos
      ·subst e;exact dZ.o
      ·exact hall.o j h (by omega)
     case measure=>
      simp;omega
   ·have gx:∀ ty,(Instr.next (.pointer (some ⟨w.heap.size,0,none⟩)) true ty).run prog (w.iter s pos)=_:=fun ty=>run_next_any w s pos ty aj
    have dZ:=zab (zvo _ (by omega:128<=(s[pos]'aj).toNat));have hd:=(decode_high s pos aj (by omega)).1;have tz:=zab (zvp ((Utf8.decode s pos).1:Int) (by omega));clear hb hd;go_wp2_with fail
    refine (zeh _ _).mono ?_;rintro e w' ⟨rfl,rfl⟩;rw[tz.o];go_wp2_with fail
    go_ret
    refine ⟨?_,_,rfl⟩;rw[zgg s.data.toList pos (by simp;omega) (fun j h hj=>hall.o j (by simpa using h) hj) (fun h=>dZ.o)];rfl
  ·have gx:∀ ty,(Instr.next (.pointer (some ⟨w.heap.size,0,none⟩)) true ty).run prog (w.iter s pos)=_:=fun ty=>run_next_end w s pos ty aj
   go_wp2_with fail
   go_ret
   refine ⟨?_,_,rfl⟩;rw[zgg s.data.toList s.size (by simp) (fun j h hj=>hall.o j (by simpa using h) (by omega)) (fun h=>by simp at h)];rfl
end Go.Proofs.YtgahgkddaljmkaaGreatDoor
