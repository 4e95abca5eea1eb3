/- Mach33 .. Scan2 -/
import Derived.Test.YtgahgkddaljmkaaGreatDoorV7
import Derived.Test.YtgahgkddaljmkaaGreatDoorV1
import Derived.Lib.RuneCount
import Derived.Laws.RangeString
import Derived.Laws.RangeAny
set_option maxRecDepth 100000
set_option maxHeartbeats 4000000
namespace Go.Proofs.YtgahgkddaljmkaaGreatDoor
open Go.RowKit
attribute [local go_sem ↓] Go.wp_at_zero Go.wp_at_succ
def MSt.pack (m:MSt) (k t c:Nat):Option (Except Nat MSt):=if t<=1000000000/\c<4096 then m.build (Hd k t c) c else none
def MSt.hold (m:MSt) (b c:Nat):Option (Except Nat MSt):=if b<=1000000000/\c<4096 then m.zjh (Hd 2 b c) c else none
variable {w:World}
variable {mb wb:Nat}
variable {fv:Value}
variable {m:MSt}
variable {t c:Nat}
variable {r:Except Nat MSt}
theorem zt8(h:MAt w mb wb fv m)(hb:m.pack 1 t c=some r):
  Calls Tryz.prog 81 #[.pointer (some ⟨mb,0,none⟩),.iface 254 (.agg #[.int .i64 t,.int .i64 c])] w fun e w'=>Ends w mb wb fv r e w':=by
 unfold MSt.pack at hb;split at hb
 ·next hg=>
  have i0:=zoJ;have i1:=zfE;have i2:=zhs;have i3:=zm6;have H1:=zab (h.alloc (.cells #[.int .i64 t,.int .i64 c] 254));have B1:=zab (Blk.new w [.int .i64 t,.int .i64 c] 254);have F1:Hid (Fr (MB mb wb fv) w (w.alloc (.cells #[.int .i64 t,.int .i64 c] 254))):=zab ((Fr.refl _ _).alloc _);have HNM:=zab (h.zcZ (zxJ w.heap.size));clear h;go_enter Tryz.func81,Tryz.ntmps81
  go_wp2_with fail
  generalize w.alloc (.cells #[.int .i64 t,.int .i64 c] 254)=w1 at H1 F1 B1 ⊢;clear i0 i1 i2 i3;have CH:=zab (fun W:World=>zbt 1 t c W (by omega) hg.2 hg.1);obtain ⟨z,hz⟩:∃ z,Hd 1 t c=z:=⟨_,rfl⟩;rw[hz]at CH hb;have CB:=zab (fun (W:World) (hW:MAt W mb wb fv m)=>zhv hW (show c<=1000000 by omega) hb);have SW:w1.drew.cell? ⟨w.heap.size,0,none⟩=some (.int .i64 t)/\w1.drew.cell? ⟨w.heap.size,1,none⟩=some (.int .i64 c):=⟨by simpa using Blk.cell B1.o.drew 0,by simpa using Blk.cell B1.o.drew 1⟩;clear hb hz hg;refine wp_region_held_drew (S:=fun W=>W.cell? ⟨w.heap.size,0,none⟩=some (.int .i64 t)/\W.cell? ⟨w.heap.size,1,none⟩=some (.int .i64 c)) (by kernel_rfl) SW (fun hHeld=>?_);refine wpAnyH_take (i:=0) (v:=?_) rfl (by kernel_rfl) (by kernel_rfl) (by kernel_rfl) (fun _ _ _ h=>h) (Or.inl ⟨by rfl,?_⟩) (by assumption) ?_
  rotate_left 1
  ·(intro w hSw;(try dsimp only at hSw);obtain ⟨hSa,hSb⟩:=hSw;go_simp;try with_reducible rfl)
  try simp only[Act.put,zxK]
  refine wpAnyH_take (i:=1) (v:=?_) rfl (by kernel_rfl) (by kernel_rfl) (by kernel_rfl) (fun _ _ _ h=>h) (Or.inl ⟨by rfl,?_⟩) (by assumption) ?_
  rotate_left 1
  ·(intro w hSw;(try dsimp only at hSw);obtain ⟨hSa,hSb⟩:=hSw;go_simp;try with_reducible rfl)
  try simp only[Act.put]
  refine wpAnyH_take (i:=2) (v:=?_) rfl (by kernel_rfl) (by kernel_rfl) (by kernel_rfl) (fun _ _ _ h=>h) (Or.inl ⟨by rfl,?_⟩) (by assumption) ?_
  rotate_left 1
  ·(intro w hSw;(try dsimp only at hSw);obtain ⟨hSa,hSb⟩:=hSw;go_simp;try with_reducible rfl)
  try simp only[Act.put]
  refine wpAnyH_take (i:=3) (v:=?_) rfl (by kernel_rfl) (by kernel_rfl) (by kernel_rfl) (fun _ _ _ h=>h) (Or.inl ⟨by rfl,?_⟩) (by assumption) ?_
  rotate_left 1
  ·(intro w hSw;(try dsimp only at hSw);obtain ⟨hSa,hSb⟩:=hSw;go_simp;try with_reducible rfl)
  try simp only[Act.put]
  refine wpAnyH_take (i:=4) (v:=?_) rfl (by kernel_rfl) (by kernel_rfl) (by kernel_rfl) (fun _ _ _ h=>h) (Or.inl ⟨by rfl,?_⟩) (by assumption) ?_
  rotate_left 1
  ·(intro w hSw;(try dsimp only at hSw);obtain ⟨hSa,hSb⟩:=hSw;go_simp;try with_reducible rfl)
  try simp only[Act.put]
  refine wpAnyH_take (i:=6) (v:=?_) rfl (by kernel_rfl) (by kernel_rfl) (by kernel_rfl) (fun _ _ _ h=>h) (Or.inl ⟨by rfl,?_⟩) (by assumption) ?_
  rotate_left 1
  ·(intro w hSw;(try dsimp only at hSw);obtain ⟨hSa,hSb⟩:=hSw;go_simp;try with_reducible rfl)
  try simp only[Act.put]
  refine wpAnyH_take (i:=7) (v:=?_) rfl (by kernel_rfl) (by kernel_rfl) (by kernel_rfl) (fun _ _ _ h=>h) (Or.inl ⟨by rfl,?_⟩) (by assumption) ?_
  rotate_left 1
  ·(intro w hSw;(try dsimp only at hSw);obtain ⟨hSa,hSb⟩:=hSw;go_simp;try with_reducible rfl)
  try simp only[Act.put]
  refine wpAnyH_ready (rs:=[5]) (by kernel_rfl) (by simp) ?_;refine AllReadyH.cons rfl (fun K hK=>?_) AllReadyH.nil
  go_simp
  refine (CH.o _).mono ?_;rintro e w3 ⟨rfl,hw3⟩;subst w3;refine hK.out _ _ SW (fun hHeld=>?_);clear hK K
  try simp only[Act.put,zxK,zxV,zxS]
  refine wpAnyH_ready (rs:=[8]) (by kernel_rfl) (by simp) ?_;refine AllReadyH.cons rfl (fun K hK=>?_) AllReadyH.nil
  go_simp
  refine (CB.o _ (H1.o.drewN 1)).mono ?_;cases r with
  |error j=>
   rintro e w7 ⟨f7,rfl,h7⟩;exact ⟨rfl,F1.o.drew.trans f7,rfl,h7⟩
  |ok m'=>
   rintro e w7 ⟨f7,rfl,h7⟩;have H7:=zab h7;have F7:=zab (F1.o.drew.trans f7);have B7:=Fr.blk B1.o.drew f7 HNM.o;have S7:w7.cell? ⟨w.heap.size,0,none⟩=some (.int .i64 t)/\w7.cell? ⟨w.heap.size,1,none⟩=some (.int .i64 c):=⟨by simpa using Blk.cell B7 0,by simpa using Blk.cell B7 1⟩;clear f7 h7 B7;refine hK.out _ _ S7 (fun hHeld=>?_);clear hK K
   try simp only[Act.put,zxK,zxV,zxS]
   refine wpAnyH_done (by kernel_rfl) ?_ _;clear SW S7;go_wp2_with fail
   first|go_end0|refine bodyPost_ret (results_none rfl _ _ _) rfl ?_
   exact ⟨F7.o,rfl,H7.o⟩
 ·cases hb
theorem zrQ(h:MAt w mb wb fv m)(hb:m.pack 2 t c=some r):
  Calls Tryz.prog 81 #[.pointer (some ⟨mb,0,none⟩),.iface 257 (.agg #[.int .i64 t,.int .i64 c])] w fun e w'=>Ends w mb wb fv r e w':=by
 unfold MSt.pack at hb;split at hb
 ·next hg=>
  have i0:=zmo;have i1:=zff;have i2:=zge;have i3:=zmd;have i4:=zkB;have H1:=zab (h.alloc (.cells #[.int .i64 t,.int .i64 c] 257));have B1:=zab (Blk.new w [.int .i64 t,.int .i64 c] 257);have F1:Hid (Fr (MB mb wb fv) w (w.alloc (.cells #[.int .i64 t,.int .i64 c] 257))):=zab ((Fr.refl _ _).alloc _);have HNM:=zab (h.zcZ (zxJ w.heap.size));clear h;go_enter Tryz.func81,Tryz.ntmps81
  go_wp2_with fail
  generalize w.alloc (.cells #[.int .i64 t,.int .i64 c] 257)=w1 at H1 F1 B1 ⊢;clear i0 i1 i2 i3 i4;have CH:=zab (fun W:World=>zbt 2 t c W (by omega) hg.2 hg.1);obtain ⟨z,hz⟩:∃ z,Hd 2 t c=z:=⟨_,rfl⟩;rw[hz]at CH hb;have CB:=zab (fun (W:World) (hW:MAt W mb wb fv m)=>zhv hW (show c<=1000000 by omega) hb);have SW:w1.drew.cell? ⟨w.heap.size,0,none⟩=some (.int .i64 t)/\w1.drew.cell? ⟨w.heap.size,1,none⟩=some (.int .i64 c):=⟨by simpa using Blk.cell B1.o.drew 0,by simpa using Blk.cell B1.o.drew 1⟩;clear hb hz hg;refine wp_region_held_drew (S:=fun W=>W.cell? ⟨w.heap.size,0,none⟩=some (.int .i64 t)/\W.cell? ⟨w.heap.size,1,none⟩=some (.int .i64 c)) (by kernel_rfl) SW (fun hHeld=>?_);refine wpAnyH_take (i:=0) (v:=?_) rfl (by kernel_rfl) (by kernel_rfl) (by kernel_rfl) (fun _ _ _ h=>h) (Or.inl ⟨by rfl,?_⟩) (by assumption) ?_
  rotate_left 1
  ·(intro w hSw;(try dsimp only at hSw);obtain ⟨hSa,hSb⟩:=hSw;go_simp;try with_reducible rfl)
  try simp only[Act.put,zxK]
  refine wpAnyH_take (i:=1) (v:=?_) rfl (by kernel_rfl) (by kernel_rfl) (by kernel_rfl) (fun _ _ _ h=>h) (Or.inl ⟨by rfl,?_⟩) (by assumption) ?_
  rotate_left 1
  ·(intro w hSw;(try dsimp only at hSw);obtain ⟨hSa,hSb⟩:=hSw;go_simp;try with_reducible rfl)
  try simp only[Act.put]
  refine wpAnyH_take (i:=2) (v:=?_) rfl (by kernel_rfl) (by kernel_rfl) (by kernel_rfl) (fun _ _ _ h=>h) (Or.inl ⟨by rfl,?_⟩) (by assumption) ?_
  rotate_left 1
  ·(intro w hSw;(try dsimp only at hSw);obtain ⟨hSa,hSb⟩:=hSw;go_simp;try with_reducible rfl)
  try simp only[Act.put]
  refine wpAnyH_take (i:=3) (v:=?_) rfl (by kernel_rfl) (by kernel_rfl) (by kernel_rfl) (fun _ _ _ h=>h) (Or.inl ⟨by rfl,?_⟩) (by assumption) ?_
  rotate_left 1
  ·(intro w hSw;(try dsimp only at hSw);obtain ⟨hSa,hSb⟩:=hSw;go_simp;try with_reducible rfl)
  try simp only[Act.put]
  refine wpAnyH_take (i:=4) (v:=?_) rfl (by kernel_rfl) (by kernel_rfl) (by kernel_rfl) (fun _ _ _ h=>h) (Or.inl ⟨by rfl,?_⟩) (by assumption) ?_
  rotate_left 1
  ·(intro w hSw;(try dsimp only at hSw);obtain ⟨hSa,hSb⟩:=hSw;go_simp;try with_reducible rfl)
  try simp only[Act.put]
  refine wpAnyH_take (i:=6) (v:=?_) rfl (by kernel_rfl) (by kernel_rfl) (by kernel_rfl) (fun _ _ _ h=>h) (Or.inl ⟨by rfl,?_⟩) (by assumption) ?_
  rotate_left 1
  ·(intro w hSw;(try dsimp only at hSw);obtain ⟨hSa,hSb⟩:=hSw;go_simp;try with_reducible rfl)
  try simp only[Act.put]
  refine wpAnyH_take (i:=7) (v:=?_) rfl (by kernel_rfl) (by kernel_rfl) (by kernel_rfl) (fun _ _ _ h=>h) (Or.inl ⟨by rfl,?_⟩) (by assumption) ?_
  rotate_left 1
  ·(intro w hSw;(try dsimp only at hSw);obtain ⟨hSa,hSb⟩:=hSw;go_simp;try with_reducible rfl)
  try simp only[Act.put]
  refine wpAnyH_ready (rs:=[5]) (by kernel_rfl) (by simp) ?_;refine AllReadyH.cons rfl (fun K hK=>?_) AllReadyH.nil
  go_simp
  refine (CH.o _).mono ?_;rintro e w3 ⟨rfl,hw3⟩;subst w3;refine hK.out _ _ SW (fun hHeld=>?_);clear hK K
  try simp only[Act.put,zxK,zxV,zxS]
  refine wpAnyH_ready (rs:=[8]) (by kernel_rfl) (by simp) ?_;refine AllReadyH.cons rfl (fun K hK=>?_) AllReadyH.nil
  go_simp
  refine (CB.o _ (H1.o.drewN 1)).mono ?_;cases r with
  |error j=>
   rintro e w7 ⟨f7,rfl,h7⟩;exact ⟨rfl,F1.o.drew.trans f7,rfl,h7⟩
  |ok m'=>
   rintro e w7 ⟨f7,rfl,h7⟩;have H7:=zab h7;have F7:=zab (F1.o.drew.trans f7);have B7:=Fr.blk B1.o.drew f7 HNM.o;have S7:w7.cell? ⟨w.heap.size,0,none⟩=some (.int .i64 t)/\w7.cell? ⟨w.heap.size,1,none⟩=some (.int .i64 c):=⟨by simpa using Blk.cell B7 0,by simpa using Blk.cell B7 1⟩;clear f7 h7 B7;refine hK.out _ _ S7 (fun hHeld=>?_);clear hK K
   try simp only[Act.put,zxK,zxV,zxS]
   refine wpAnyH_done (by kernel_rfl) ?_ _;clear SW S7;go_wp2_with fail
   first|go_end0|refine bodyPost_ret (results_none rfl _ _ _) rfl ?_
   exact ⟨F7.o,rfl,H7.o⟩
 ·cases hb
theorem zm7(h:MAt w mb wb fv m)(hb:m.hold t c=some r):
  Calls Tryz.prog 81 #[.pointer (some ⟨mb,0,none⟩),.iface 258 (.agg #[.int .i64 t,.int .i64 c])] w fun e w'=>Ends w mb wb fv r e w':=by
 unfold MSt.hold at hb;split at hb
 ·next hg=>
  have i0:=zj0;have i1:=zek;have i2:=ze3;have i3:=zjz;have i4:=zix;have i5:=zhj;have H1:=zab (h.alloc (.cells #[.int .i64 t,.int .i64 c] 258));have B1:=zab (Blk.new w [.int .i64 t,.int .i64 c] 258);have F1:Hid (Fr (MB mb wb fv) w (w.alloc (.cells #[.int .i64 t,.int .i64 c] 258))):=zab ((Fr.refl _ _).alloc _);have HNM:=zab (h.zcZ (zxJ w.heap.size));clear h;go_enter Tryz.func81,Tryz.ntmps81
  go_wp2_with fail
  generalize w.alloc (.cells #[.int .i64 t,.int .i64 c] 258)=w1 at H1 F1 B1 ⊢;clear i0 i1 i2 i3 i4 i5;have CH:=zab (fun W:World=>zbt 2 t c W (by omega) hg.2 hg.1);obtain ⟨z,hz⟩:∃ z,Hd 2 t c=z:=⟨_,rfl⟩;rw[hz]at CH hb;have CB:=zab (fun (W:World) (hW:MAt W mb wb fv m)=>zo0 hW (show c<=1000000 by omega) hb);have SW:w1.drew.cell? ⟨w.heap.size,0,none⟩=some (.int .i64 t)/\w1.drew.cell? ⟨w.heap.size,1,none⟩=some (.int .i64 c):=⟨by simpa using Blk.cell B1.o.drew 0,by simpa using Blk.cell B1.o.drew 1⟩;clear hb hz hg;refine wp_region_held_drew (S:=fun W=>W.cell? ⟨w.heap.size,0,none⟩=some (.int .i64 t)/\W.cell? ⟨w.heap.size,1,none⟩=some (.int .i64 c)) (by kernel_rfl) SW (fun hHeld=>?_);refine wpAnyH_take (i:=0) (v:=?_) rfl (by kernel_rfl) (by kernel_rfl) (by kernel_rfl) (fun _ _ _ h=>h) (Or.inl ⟨by rfl,?_⟩) (by assumption) ?_
  rotate_left 1
  ·(intro w hSw;(try dsimp only at hSw);obtain ⟨hSa,hSb⟩:=hSw;go_simp;try with_reducible rfl)
  try simp only[Act.put,zxK]
  refine wpAnyH_take (i:=1) (v:=?_) rfl (by kernel_rfl) (by kernel_rfl) (by kernel_rfl) (fun _ _ _ h=>h) (Or.inl ⟨by rfl,?_⟩) (by assumption) ?_
  rotate_left 1
  ·(intro w hSw;(try dsimp only at hSw);obtain ⟨hSa,hSb⟩:=hSw;go_simp;try with_reducible rfl)
  try simp only[Act.put]
  refine wpAnyH_take (i:=2) (v:=?_) rfl (by kernel_rfl) (by kernel_rfl) (by kernel_rfl) (fun _ _ _ h=>h) (Or.inl ⟨by rfl,?_⟩) (by assumption) ?_
  rotate_left 1
  ·(intro w hSw;(try dsimp only at hSw);obtain ⟨hSa,hSb⟩:=hSw;go_simp;try with_reducible rfl)
  try simp only[Act.put]
  refine wpAnyH_take (i:=3) (v:=?_) rfl (by kernel_rfl) (by kernel_rfl) (by kernel_rfl) (fun _ _ _ h=>h) (Or.inl ⟨by rfl,?_⟩) (by assumption) ?_
  rotate_left 1
  ·(intro w hSw;(try dsimp only at hSw);obtain ⟨hSa,hSb⟩:=hSw;go_simp;try with_reducible rfl)
  try simp only[Act.put]
  refine wpAnyH_take (i:=4) (v:=?_) rfl (by kernel_rfl) (by kernel_rfl) (by kernel_rfl) (fun _ _ _ h=>h) (Or.inl ⟨by rfl,?_⟩) (by assumption) ?_
  rotate_left 1
  ·(intro w hSw;(try dsimp only at hSw);obtain ⟨hSa,hSb⟩:=hSw;go_simp;try with_reducible rfl)
  try simp only[Act.put]
  refine wpAnyH_take (i:=6) (v:=?_) rfl (by kernel_rfl) (by kernel_rfl) (by kernel_rfl) (fun _ _ _ h=>h) (Or.inl ⟨by rfl,?_⟩) (by assumption) ?_
  rotate_left 1
  ·(intro w hSw;(try dsimp only at hSw);obtain ⟨hSa,hSb⟩:=hSw;go_simp;try with_reducible rfl)
  try simp only[Act.put]
  refine wpAnyH_take (i:=7) (v:=?_) rfl (by kernel_rfl) (by kernel_rfl) (by kernel_rfl) (fun _ _ _ h=>h) (Or.inl ⟨by rfl,?_⟩) (by assumption) ?_
  rotate_left 1
  ·(intro w hSw;(try dsimp only at hSw);obtain ⟨hSa,hSb⟩:=hSw;go_simp;try with_reducible rfl)
  try simp only[Act.put]
  refine wpAnyH_ready (rs:=[5]) (by kernel_rfl) (by simp) ?_;refine AllReadyH.cons rfl (fun K hK=>?_) AllReadyH.nil
  go_simp
  refine (CH.o _).mono ?_;rintro e w3 ⟨rfl,hw3⟩;subst w3;refine hK.out _ _ SW (fun hHeld=>?_);clear hK K
  try simp only[Act.put,zxK,zxV,zxS]
  refine wpAnyH_ready (rs:=[8]) (by kernel_rfl) (by simp) ?_;refine AllReadyH.cons rfl (fun K hK=>?_) AllReadyH.nil
  go_simp
  refine (CB.o _ (H1.o.drewN 1)).mono ?_;cases r with
  |error j=>
   rintro e w7 ⟨f7,rfl,h7⟩;exact ⟨rfl,F1.o.drew.trans f7,rfl,h7⟩
  |ok m'=>
   rintro e w7 ⟨f7,rfl,h7⟩;have H7:=zab h7;have F7:=zab (F1.o.drew.trans f7);have B7:=Fr.blk B1.o.drew f7 HNM.o;have S7:w7.cell? ⟨w.heap.size,0,none⟩=some (.int .i64 t)/\w7.cell? ⟨w.heap.size,1,none⟩=some (.int .i64 c):=⟨by simpa using Blk.cell B7 0,by simpa using Blk.cell B7 1⟩;clear f7 h7 B7;refine hK.out _ _ S7 (fun hHeld=>?_);clear hK K
   try simp only[Act.put,zxK,zxV,zxS]
   refine wpAnyH_done (by kernel_rfl) ?_ _;clear SW S7;go_wp2_with fail
   first|go_end0|refine bodyPost_ret (results_none rfl _ _ _) rfl ?_
   exact ⟨F7.o,rfl,H7.o⟩
 ·cases hb
def MSt.zls (m:MSt) (k c:Nat):Option (Except Nat MSt):=
 match m.slot k with
 |none=>none
 |some i=>
  match m.s.ws[i]? with
  |none=>none
  |some x=>if x<0 then none else
   match m.s.head x.toNat with
   |none=>none
   |some y=>if cnt y=c/\x.toNat+1+c<=m.s.ws.length/\m.s.top+c<=m.s.ws.length/\(i<x.toNat+1\/x.toNat+1+c<=i) then
     m.put (Sto.pop { m.s with ws:=Go.splice m.s.ws (x.toNat+1) (m.s.words m.s.top c) } c)
    else none
theorem zrW{ws xs:List Int}{o i:Nat}(h:o+xs.length<=ws.length)(hi:i<o\/o+xs.length<=i):(Go.splice ws o xs)[i]?=ws[i]?:=by
 unfold Go.splice;rcases hi with hi|hi
 ·rw[zx8 (by rw[zyb];omega),List.getElem?_take_of_lt hi]
 ·rw[zxZ (by rw[zyb];omega),zyb,zyO (by omega),zxZ (by omega),zyr];congr 1;omega
theorem zr6{k:Nat}(h:MAt w mb wb fv m)(hb:m.zls k c=some r):
  Calls Tryz.prog 81 #[.pointer (some ⟨mb,0,none⟩),.iface 260 (.agg #[.int .i64 k,.int .i64 c])] w fun e w'=>Ends w mb wb fv r e w':=by
 unfold MSt.zls at hb;split at hb
 ·cases hb
 ·next i hi=>
  split at hb
  ·cases hb
  ·next x hx=>
   split at hb
   ·cases hb
   ·next hx0=>
    split at hb
    ·cases hb
    ·next y hh=>
     split at hb
     ·next hg=>
      simp only[MSt.put,zxT]at hb;obtain ⟨s4,hpop,rfl⟩:=hb;obtain ⟨a,rfl⟩:∃ a:Nat,x=a:=⟨x.toNat,by omega⟩;simp only[zxY]at hh hg hpop;obtain ⟨hy,hy0,hy1,hal⟩:=Sto.zaT hh;obtain ⟨hg1,hg2,hg3,hg4⟩:=hg;have hil:=(zxH.1 hx).1;have hc4:(c:Int)<4096:=by have:=zfY y;omega
      have hlen:=h.sat.len;have i0:=zm5;have i1:=zfB;have i2:=zg8;have i3:=znC;have i4:=zmh;have i5:=zjV;have i6:=zoF;have H1:=zab (h.alloc (.cells #[.int .i64 k,.int .i64 c] 260));have B1:=zab (Blk.new w [.int .i64 k,.int .i64 c] 260);have F1:Hid (Fr (MB mb wb fv) w (w.alloc (.cells #[.int .i64 k,.int .i64 c] 260))):=zab ((Fr.refl _ _).alloc _);have HNM:=zab (h.zcZ (zxJ w.heap.size));clear h;go_enter Tryz.func81,Tryz.ntmps81
      go_wp2_with fail
      generalize w.alloc (.cells #[.int .i64 k,.int .i64 c] 260)=w1 at H1 F1 B1 ⊢;clear i0 i1 i2 i3 i4 i5 i6;have HC:=zab (H1.o.drewN 1);have FC:Hid (Fr (M2 mb wb) w1 (w1.drewN 1)):=zab ((Fr.refl _ _).drewN 1);have CS:=zab (fun (W:World) (hW:MAt W mb wb fv m)=>zqf hW hi);have CF:=zab (fun (W:World) (hW:MAt W mb wb fv m)=>zcw hW.sat a y hy hy0 hy1 (show a+1+cnt y<=m.s.ws.length by omega));have CT:=zab (fun (W:World) (hW:MAt W mb wb fv m)=>ze9 hW.sat c hg3);rw[show (y/16%4096).toNat=c from hg1]at CF;have HXS:=zab hx;have hxl:(m.s.words m.s.top c).length=c:=Sto.zcJ hg3;have HXG:Hid (∀ (j:Nat) x,(m.s.words m.s.top c)[j]?=some x->m.s.ws[m.s.top+j]?=some x):=zab (fun j x hj=>(Sto.zdM hj).2);have HO1:Hid (0<c->cutAt m.s.ws.length (a+1)=a+1):=zab (fun h0=>zbS (by omega));have HO2:Hid (0<c->cutAt m.s.ws.length m.s.top=m.s.top):=zab (fun h0=>zbS (by omega));have HOL:Hid (cutAt m.s.ws.length (a+1)+c<=m.s.ws.length):=zab (by unfold cutAt;split <;> omega);obtain ⟨L,hL⟩:∃ L,m.s.ws.length=L:=⟨_,rfl⟩;have hil1:(i:Int)<(L:Int):=by omega
      have HL:=zab hL;have c0:=H1.o.sat.c0;rw[hL]at c0 HO1 HO2 HOL CF CT;generalize cutAt L (a+1)=o1 at HO1 HOL CF;generalize cutAt L m.s.top=o2 at HO2 CT;generalize L-(a+1)=q1 at CF;generalize L-m.s.top=q2 at CT;generalize m.s.words m.s.top c=xs at hxl HXG hpop;have HPO:Hid (Sto.pop { m.s with ws:=Go.splice m.s.ws o1 xs } c=some s4):=zab (by
       by_cases h0:c=0
       ·have hx0:xs=[]:=zyo (by omega);rw[hx0]at hpop ⊢;simpa [Go.splice] using hpop
       ·rw[HO1.o (by omega)];exact hpop)
      have HSX:Hid ((Go.splice m.s.ws o1 xs)[i]?=some (a:Int)):=zab (by
       by_cases h0:c=0
       ·have hx0:xs=[]:=zyo (by omega);rw[hx0];simpa [Go.splice] using hx
       ·rw[zrW (by rw[hxl,hL];exact HOL.o) (by rw[HO1.o (by omega),hxl];exact hg4)];exact hx)
      have cb:w1.cell? ⟨w.heap.size,0,none⟩=some (.int .i64 k):=by simpa using Blk.cell B1.o 0
      have cc:w1.cell? ⟨w.heap.size,1,none⟩=some (.int .i64 c):=by simpa using Blk.cell B1.o 1
      have cx:=H1.o.sat.word hx;have HFIT:Hid (o1+xs.length<=m.s.ws.length):=zab (by rw[hxl,hL];exact HOL.o);have HHG:=zab (And.intro hg2 hg3);clear hi hx hh hg1 hg2 hg3 hg4 hy hy0 hy1 hal hil hL hpop hlen hx0
      go_region_held3 (fun W=>W.cell? ⟨mb,0,none⟩=some (.slice (some ⟨wb,0,none⟩) L L)/\W.cell? ⟨w.heap.size,0,none⟩=some (.int .i64 k)/\W.cell? ⟨w.heap.size,1,none⟩=some (.int .i64 c)/\W.cell? ⟨wb,i,none⟩=some (.int .i64 a)) (first|go_keep|(refine ⟨?_,?_,?_,?_⟩ <;> assumption)) (first
       |(go_at_call 131;refine (CS.o _ HC.o).mono ?_;rintro e w3 ⟨rfl,k3,hw3⟩;have HC':Hid (MAt w3 mb wb fv m):=zab (by rw[hw3];exact HC.o.drewN k3);have FC':Hid (Fr (M2 mb wb) w1 w3):=zab (by rw[hw3];exact FC.o.drewN k3);clear HC FC hw3;have HC:=HC';have FC:=FC';clear HC' FC';have d0:w3.cell? ⟨mb,0,none⟩=some (.slice (some ⟨wb,0,none⟩) L L):=(by rw[HC.o.sat.c0,HL.o]);have db:w3.cell? ⟨w.heap.size,0,none⟩=some (.int .i64 k):=(by simpa using Blk.cell (Fr.blk B1.o (FC.o.zcW fv) HNM.o) 0);have dc:w3.cell? ⟨w.heap.size,1,none⟩=some (.int .i64 c):=(by simpa using Blk.cell (Fr.blk B1.o (FC.o.zcW fv) HNM.o) 1);have dx:=HC.o.sat.word HXS.o)
       |(go_at_call 135;refine (CF.o _ HC.o).mono ?_;rintro e w3 ⟨rfl,k3,hw3⟩;have HC':Hid (MAt w3 mb wb fv m):=zab (by rw[hw3];exact HC.o.drewN k3);have FC':Hid (Fr (M2 mb wb) w1 w3):=zab (by rw[hw3];exact FC.o.drewN k3);clear HC FC hw3;have HC:=HC';have FC:=FC';clear HC' FC';have d0:w3.cell? ⟨mb,0,none⟩=some (.slice (some ⟨wb,0,none⟩) L L):=(by rw[HC.o.sat.c0,HL.o]);have db:w3.cell? ⟨w.heap.size,0,none⟩=some (.int .i64 k):=(by simpa using Blk.cell (Fr.blk B1.o (FC.o.zcW fv) HNM.o) 0);have dc:w3.cell? ⟨w.heap.size,1,none⟩=some (.int .i64 c):=(by simpa using Blk.cell (Fr.blk B1.o (FC.o.zcW fv) HNM.o) 1);have dx:=HC.o.sat.word HXS.o)
       |(go_at_call 136;refine (CT.o _ HC.o).mono ?_;rintro e w3 ⟨rfl,k3,hw3⟩;have HC':Hid (MAt w3 mb wb fv m):=zab (by rw[hw3];exact HC.o.drewN k3);have FC':Hid (Fr (M2 mb wb) w1 w3):=zab (by rw[hw3];exact FC.o.drewN k3);clear HC FC hw3;have HC:=HC';have FC:=FC';clear HC' FC';have d0:w3.cell? ⟨mb,0,none⟩=some (.slice (some ⟨wb,0,none⟩) L L):=(by rw[HC.o.sat.c0,HL.o]);have db:w3.cell? ⟨w.heap.size,0,none⟩=some (.int .i64 k):=(by simpa using Blk.cell (Fr.blk B1.o (FC.o.zcW fv) HNM.o) 0);have dc:w3.cell? ⟨w.heap.size,1,none⟩=some (.int .i64 c):=(by simpa using Blk.cell (Fr.blk B1.o (FC.o.zcW fv) HNM.o) 1);have dx:=HC.o.sat.word HXS.o)
       |(refine za5 (by rfl) _ _ (by rfl) HC.o.sat o1 _ _ _ _ _ (by rfl) (by rfl) xs (by rw[hxl];exact (Nat.min_self c).symm) (fun h0=>⟨_,rfl,fun j x hj=>by rw[zbb,HO2.o (by omega)];exact HC.o.sat.word (HXG.o j x hj)⟩) HFIT.o ?_;intro w8 h8 f8;have H8:=zab h8;have F8:=zab (FC.o.trans f8);have e0:w8.cell? ⟨mb,0,none⟩=some (.slice (some ⟨wb,0,none⟩) L L):=(by rw[h8.c0];simp only;rw[zaX _ _ _ HFIT.o,HL.o]);have eb:w8.cell? ⟨w.heap.size,0,none⟩=some (.int .i64 k):=(by simpa using Blk.cell (Fr.blk B1.o (F8.o.zcW fv) HNM.o) 0);have ec:w8.cell? ⟨w.heap.size,1,none⟩=some (.int .i64 c):=(by simpa using Blk.cell (Fr.blk B1.o (F8.o.zcW fv) HNM.o) 1);have ex:=h8.word HSX.o;clear h8 f8))
      all_goals
       clear c0 cb cc cx d0 db dc dx e0 eb ex;go_wp2_with fail
       go_region_held3 (fun W=>W.cell? ⟨w.heap.size,1,none⟩=some (.int .i64 c)) (first|go_keep|assumption) ((go_at_call 137;refine (Sto.zbK H8.o.drew HPO.o).mono ?_;rintro e w9 ⟨rfl,h9,f9⟩;have H9:=zab h9;have F9:=zab (F8.o.drew.trans f9);have eb:w9.cell? ⟨w.heap.size,1,none⟩=some (.int .i64 c):=(by simpa using Blk.cell (Fr.blk B1.o (F9.o.zcW fv) HNM.o) 1);clear h9 f9))
       all_goals
        go_wp2_with fail
        first|go_end0|refine bodyPost_ret (results_none rfl _ _ _) rfl ?_
        exact ⟨F1.o.trans (F9.o.zcW fv),rfl,H1.o.fr2 H9.o F9.o⟩
     ·cases hb
end Go.Proofs.YtgahgkddaljmkaaGreatDoor
namespace Go.Proofs.YtgahgkddaljmkaaGreatDoor
open Go.RowKit
inductive Ins where
 |push (k:Nat)
 |zcS (f:Nat)
 |num (v:Int)
 |pack (t c:Nat)
 |close (b c:Nat)
 |hold (b c:Nat)
 |fill (k c:Nat)
 |wait (b:Nat)
 |zbD (c:Nat)
 |zcf (c:Nat)
 |zbV
 |comp (sg:ByteArray)
 |enter
 |jump (b:Nat)
 |choose (zao:List (Nat × Nat × Nat))
def IAt (w:World) (mb wb:Nat) (fv:Value) (v:Value):Ins->Prop
 |.push k=>v=.iface 248 (.agg #[.int .i64 k])
 |.zcS f=>v=.iface 250 (.agg #[.int .i64 f])
 |.num x=>v=.iface 252 (.agg #[.int .i64 x])
 |.pack t c=>v=.iface 254 (.agg #[.int .i64 t,.int .i64 c])
 |.close b c=>v=.iface 257 (.agg #[.int .i64 b,.int .i64 c])
 |.hold b c=>v=.iface 258 (.agg #[.int .i64 b,.int .i64 c])
 |.fill k c=>v=.iface 260 (.agg #[.int .i64 k,.int .i64 c])
 |.wait b=>v=.iface 263 (.agg #[.int .i64 b])
 |.zbD c=>v=.iface 267 (.agg #[.int .i64 c])
 |.zcf c=>v=.iface 268 (.agg #[.int .i64 c])
 |.zbV=>v=.iface 269 (.agg #[])
 |.comp sg=>v=.iface 272 (.agg #[.string sg])
 |.enter=>v=.iface 185 (.agg #[])
 |.jump b=>v=.iface 273 (.agg #[.int .i64 b])
 |.choose zao=>∃ av,v=.iface 276 (.agg #[av])/\zgW w mb wb fv av zao
theorem IAt.fr{w w':World}{mb wb:Nat}{fv v:Value}{i:Ins}(h:IAt w mb wb fv v i)(f:Fr (MB mb wb fv) w w'):IAt w' mb wb fv v i:=by
 cases i <;> first|exact h|(obtain ⟨av,h1,h2⟩:=h;exact ⟨av,h1,h2.fr f⟩)
def MSt.step (m:MSt) (sl:List Nat):Ins->Option (Except Nat MSt)
 |.push k=>m.ziO k
 |.zcS f=>m.zcS f
 |.num x=>m.zau x
 |.pack t c=>m.pack 1 t c
 |.close b c=>m.pack 2 b c
 |.hold b c=>m.hold b c
 |.fill k c=>m.zls k c
 |.wait b=>m.zcF 1 b
 |.zbD c=>m.zcF 2 c
 |.zcf c=>(m.zcf c).map .ok
 |.zbV=>(m.numberAt 0).map fun q=>q.map fun _=>m
 |.comp sg=>m.compute sg
 |.enter=>m.enter sl
 |.jump b=>some (.ok { m with o:={ m.o with next:=b } })
 |.choose zao=>m.choose zao
variable {w:World}
variable {mb wb:Nat}
variable {fv:Value}
variable {m:MSt}
variable {r:Except Nat MSt}
theorem zuv{v:Value}{sl:List Nat}{i:Ins}(h:MAt w mb wb fv m)(hB:BAt w mb wb fv m.o.pb sl)(hi:IAt w mb wb fv v i)(hb:m.step sl i=some r):
  Calls Tryz.prog 81 #[.pointer (some ⟨mb,0,none⟩),v] w fun e w'=>Ends w mb wb fv r e w':=by
 cases i with
 |push k=>obtain rfl:=hi;exact zsb h hb
 |zcS f=>obtain rfl:=hi;exact zhD h hb
 |num x=>obtain rfl:=hi;exact ziW h hb
 |pack t c=>obtain rfl:=hi;exact zt8 h hb
 |close b c=>obtain rfl:=hi;exact zrQ h hb
 |hold b c=>obtain rfl:=hi;exact zm7 h hb
 |fill k c=>obtain rfl:=hi;exact zr6 h hb
 |wait b=>obtain rfl:=hi;exact zsH h hb
 |zbD c=>obtain rfl:=hi;exact zhJ h hb
 |zcf c=>
  obtain rfl:=hi;simp only[MSt.step,zxT]at hb;obtain ⟨m2,h2,rfl⟩:=hb;exact zq8 h h2 rfl
 |zbV=>
  obtain rfl:=hi;simp only[MSt.step,zxT]at hb;obtain ⟨q,h2,rfl⟩:=hb;exact zi8 h h2 rfl
 |comp sg=>obtain rfl:=hi;exact znR h hb
 |enter=>obtain rfl:=hi;exact zrR h hB hb
 |jump b=>obtain rfl:=hi;exact zr7 h (zxQ hb).symm
 |choose zao=>obtain ⟨av,rfl,hA⟩:=hi;exact zo9 h hA hb
def zjY (r:Int):Bool:=r == 32||r == 10
def zda (r:Int):Bool:=decide (97<=r) && decide (r<=122)
def zel (r:Int):Bool:=decide (48<=r) && decide (r<=57)
def zje (r:Int):Bool:=zda r||zel r
theorem zgc(r:Int)(w:World):
  Calls Tryz.prog 189 #[.int .i32 r] w fun e w'=>e=.returned (.bool (zjY r))/\w'=w:=by
 by_cases h:(r == 32)=true
 ·go_enter Tryz.func189,Tryz.ntmps189
  go_wp2
  go_ret
  exact ⟨by simp[zjY,h],rfl⟩
 ·have h:(r == 32)=false:=by simpa using h
  go_enter Tryz.func189,Tryz.ntmps189
  go_wp2
  go_ret
  exact ⟨by simp[zjY,h],rfl⟩
theorem zdA(r:Int)(w:World):
  Calls Tryz.prog 242 #[.int .i32 r] w fun e w'=>e=.returned (.bool (zda r))/\w'=w:=by
 by_cases h:97<=r
 ·go_enter Tryz.func242,Tryz.ntmps242
  go_wp2
  go_ret
  exact ⟨by simp[zda,h],rfl⟩
 ·have hd:decide (97<=r)=false:=by simpa using h
  go_enter Tryz.func242,Tryz.ntmps242
  go_wp2
  go_ret
  exact ⟨by simp[zda,hd],rfl⟩
theorem zd5(r:Int)(w:World):
  Calls Tryz.prog 245 #[.int .i32 r] w fun e w'=>e=.returned (.bool (zel r))/\w'=w:=by
 by_cases h:48<=r
 ·go_enter Tryz.func245,Tryz.ntmps245
  go_wp2
  go_ret
  exact ⟨by simp[zel,h],rfl⟩
 ·have hd:decide (48<=r)=false:=by simpa using h
  go_enter Tryz.func245,Tryz.ntmps245
  go_wp2
  go_ret
  exact ⟨by simp[zel,hd],rfl⟩
theorem zl4(r:Int)(w:World):
  Calls Tryz.prog 244 #[.int .i32 r] w fun e w'=>e=.returned (.bool (zje r))/\w'=w:=by
 cases h:zda r
 ·go_enter Tryz.func244,Tryz.ntmps244
  go_wp2_with fail
  refine (zdA r _).mono ?_;rintro e w' ⟨rfl,rfl⟩;rw[h];go_wp2_with fail
  refine (zd5 r _).mono ?_;rintro e w' ⟨rfl,rfl⟩;go_wp2_with fail
  go_ret
  exact ⟨by simp[zje,h],rfl⟩
 ·go_enter Tryz.func244,Tryz.ntmps244
  go_wp2_with fail
  refine (zdA r _).mono ?_;rintro e w' ⟨rfl,rfl⟩;rw[h];go_wp2_with fail
  go_ret
  exact ⟨by simp[zje,h],rfl⟩
theorem zfQ{q:UInt8->Bool}:∀ (l:List UInt8) (k:Nat),k<=l.length->(∀ j (h:j<l.length),j<k->q l[j]=true) ->
  (∀ (h:k<l.length),q l[k]=false)->(l.takeWhile q).length=k
 |[],k,hk,_,_=>by simp at hk;simp[hk]
 |c::l,0,_,_,h2=>by
  have:=h2 (by simp);simp at this;simp[this]
 |c::l,k+1,hk,h1,h2=>by
  have a:=h1 0 (by simp) (by omega);simp at a;have ih:=zfQ l k (by simpa using hk) (fun j h hj=>by have:=h1 (j+1) (by simpa using h) (by omega);simpa using this)
   (fun h=>by have:=h2 (by simpa using h);simpa using this)
  simp[a,ih]
theorem zxz(c:UInt8)(_h:c.toNat<128):Th.zdr c=zjY c.toNat:=by
 unfold Th.zdr zjY;rw[zy6];simp[<-UInt8.toNat_inj];omega
theorem zwD(c:UInt8)(h:128<=c.toNat):Th.zdr c=false:=by
 unfold Th.zdr;simp[<-UInt8.toNat_inj];omega
theorem zwj(r:Int)(h:128<=r):zjY r=false:=by
 unfold zjY;simp;omega
theorem ztf(c:UInt8)(_h:c.toNat<128):Th.zbv c=zel c.toNat:=by
 unfold Th.zbv zel;rw[zy6];simp;omega
theorem zuo(c:UInt8)(h:128<=c.toNat):Th.zbv c=false:=by
 unfold Th.zbv;simp;omega
theorem zvr(r:Int)(h:128<=r):zel r=false:=by
 unfold zel;simp;omega
theorem zv8(c:UInt8)(_h:c.toNat<128):Th.isLet c=zda c.toNat:=by
 unfold Th.isLet zda;rw[zy6];simp;omega
theorem zxr(c:UInt8)(h:c.toNat<128):Th.zmK c=zje c.toNat:=by
 unfold Th.zmK zje;rw[ztf c h,zv8 c h]
theorem zwQ(c:UInt8)(h:128<=c.toNat):Th.zmK c=false:=by
 unfold Th.zmK Th.isLet Th.zbv;simp;omega
theorem zwY(r:Int)(h:128<=r):zje r=false:=by
 unfold zje zda zel;simp;omega
theorem zw9(s:ByteArray)(w:World)(_hs:s.size<9223372036854775807):
  Calls Tryz.prog 188 #[.string s,.func (.func 189) #[] #[]] w fun e w'=>e=.returned (.int .i64 (s.data.toList.takeWhile Th.zdr).length)/\∃ pos,w'=w.alloc (.stringIter s pos):=by
 go_enter Tryz.func188,Tryz.ntmps188
 go_wp2_with fail
 go_loopw [5] (fun _ w'=>∃ pos:Nat,w'=w.iter s pos/\pos<=s.size/\Hid (∀ j (h:j<s.size),j<pos->Th.zdr s[j]=true)) (fun _ w'=>s.size-w'.iterPos w.heap.size)
 case atStart=>exact ⟨0,rfl,zx1 _,zab (fun _ _ h=>by omega)⟩
 case round=>
  obtain ⟨pos,rfl,hp,hall⟩:=hrel;by_cases hlt:pos<s.size
  ·by_cases hb:(s[pos]'hlt).toNat<128
   ·have hnx:∀ ty,(Instr.next (.pointer (some ⟨w.heap.size,0,none⟩)) true ty).run Tryz.prog (w.iter s pos)=_:=fun ty=>run_next_ascii w s pos ty hlt hb
    have hqp:=zab (zxz (s[pos]'hlt) hb);clear hb;cases hv:Th.zdr s[pos]
    ·have hv':=zab hv;clear hv;go_wp2_with fail
     refine (zgc _ _).mono ?_;rintro e w' ⟨rfl,rfl⟩;rw[<-hqp.o,hv'.o];go_wp2_with fail
     go_ret
     refine ⟨?_,_,rfl⟩;rw[zfQ s.data.toList pos (by simp;omega) (fun j h hj=>hall.o j (by simpa using h) hj) (fun h=>hv'.o)];rfl
    ·have hv':=zab hv;clear hv;go_wp2_with fail
     refine (zgc _ _).mono ?_;rintro e w' ⟨rfl,rfl⟩;rw[<-hqp.o,hv'.o];go_wp2_with fail
     go_roundw
     case rel=>
      refine ⟨pos+1,rfl,by omega,zab fun j h hj=>?_⟩;by_cases e:j=pos
      ·subst e;exact hv'.o
      ·exact hall.o j h (by omega)
     case measure=>
      simp;omega
   ·have hnx:∀ ty,(Instr.next (.pointer (some ⟨w.heap.size,0,none⟩)) true ty).run Tryz.prog (w.iter s pos)=_:=fun ty=>run_next_any w s pos ty hlt
    have hv':=zab (zwD _ (by omega:128<=(s[pos]'hlt).toNat));have hd:=(decode_high s pos hlt (by omega)).1;have hvp:=zab (zwj ((Utf8.decode s pos).1:Int) (by omega));clear hb hd;go_wp2_with fail
    refine (zgc _ _).mono ?_;rintro e w' ⟨rfl,rfl⟩;rw[hvp.o];go_wp2_with fail
    go_ret
    refine ⟨?_,_,rfl⟩;rw[zfQ s.data.toList pos (by simp;omega) (fun j h hj=>hall.o j (by simpa using h) hj) (fun h=>hv'.o)];rfl
  ·have hnx:∀ ty,(Instr.next (.pointer (some ⟨w.heap.size,0,none⟩)) true ty).run Tryz.prog (w.iter s pos)=_:=fun ty=>run_next_end w s pos ty hlt
   go_wp2_with fail
   go_ret
   refine ⟨?_,_,rfl⟩;rw[zfQ s.data.toList s.size (by simp) (fun j h hj=>hall.o j (by simpa using h) (by omega)) (fun h=>by simp at h)];rfl
theorem zwF(s:ByteArray)(w:World)(_hs:s.size<9223372036854775807):
  Calls Tryz.prog 188 #[.string s,.func (.func 244) #[] #[]] w fun e w'=>e=.returned (.int .i64 (s.data.toList.takeWhile Th.zmK).length)/\∃ pos,w'=w.alloc (.stringIter s pos):=by
 go_enter Tryz.func188,Tryz.ntmps188
 go_wp2_with fail
 go_loopw [5] (fun _ w'=>∃ pos:Nat,w'=w.iter s pos/\pos<=s.size/\Hid (∀ j (h:j<s.size),j<pos->Th.zmK s[j]=true)) (fun _ w'=>s.size-w'.iterPos w.heap.size)
 case atStart=>exact ⟨0,rfl,zx1 _,zab (fun _ _ h=>by omega)⟩
 case round=>
  obtain ⟨pos,rfl,hp,hall⟩:=hrel;by_cases hlt:pos<s.size
  ·by_cases hb:(s[pos]'hlt).toNat<128
   ·have hnx:∀ ty,(Instr.next (.pointer (some ⟨w.heap.size,0,none⟩)) true ty).run Tryz.prog (w.iter s pos)=_:=fun ty=>run_next_ascii w s pos ty hlt hb
    have hqp:=zab (zxr (s[pos]'hlt) hb);clear hb;cases hv:Th.zmK s[pos]
    ·have hv':=zab hv;clear hv;go_wp2_with fail
     refine (zl4 _ _).mono ?_;rintro e w' ⟨rfl,rfl⟩;rw[<-hqp.o,hv'.o];go_wp2_with fail
     go_ret
     refine ⟨?_,_,rfl⟩;rw[zfQ s.data.toList pos (by simp;omega) (fun j h hj=>hall.o j (by simpa using h) hj) (fun h=>hv'.o)];rfl
    ·have hv':=zab hv;clear hv;go_wp2_with fail
     refine (zl4 _ _).mono ?_;rintro e w' ⟨rfl,rfl⟩;rw[<-hqp.o,hv'.o];go_wp2_with fail
     go_roundw
     case rel=>
      refine ⟨pos+1,rfl,by omega,zab fun j h hj=>?_⟩;by_cases e:j=pos
      ·subst e;exact hv'.o
      ·exact hall.o j h (by omega)
     case measure=>
      simp;omega
   ·have hnx:∀ ty,(Instr.next (.pointer (some ⟨w.heap.size,0,none⟩)) true ty).run Tryz.prog (w.iter s pos)=_:=fun ty=>run_next_any w s pos ty hlt
    have hv':=zab (zwQ _ (by omega:128<=(s[pos]'hlt).toNat));have hd:=(decode_high s pos hlt (by omega)).1;have hvp:=zab (zwY ((Utf8.decode s pos).1:Int) (by omega));clear hb hd;go_wp2_with fail
    refine (zl4 _ _).mono ?_;rintro e w' ⟨rfl,rfl⟩;rw[hvp.o];go_wp2_with fail
    go_ret
    refine ⟨?_,_,rfl⟩;rw[zfQ s.data.toList pos (by simp;omega) (fun j h hj=>hall.o j (by simpa using h) hj) (fun h=>hv'.o)];rfl
  ·have hnx:∀ ty,(Instr.next (.pointer (some ⟨w.heap.size,0,none⟩)) true ty).run Tryz.prog (w.iter s pos)=_:=fun ty=>run_next_end w s pos ty hlt
   go_wp2_with fail
   go_ret
   refine ⟨?_,_,rfl⟩;rw[zfQ s.data.toList s.size (by simp) (fun j h hj=>hall.o j (by simpa using h) (by omega)) (fun h=>by simp at h)];rfl
theorem zvK(s:ByteArray)(w:World)(_hs:s.size<9223372036854775807):
  Calls Tryz.prog 188 #[.string s,.func (.func 245) #[] #[]] w fun e w'=>e=.returned (.int .i64 (s.data.toList.takeWhile Th.zbv).length)/\∃ pos,w'=w.alloc (.stringIter s pos):=by
 go_enter Tryz.func188,Tryz.ntmps188
 go_wp2_with fail
 go_loopw [5] (fun _ w'=>∃ pos:Nat,w'=w.iter s pos/\pos<=s.size/\Hid (∀ j (h:j<s.size),j<pos->Th.zbv s[j]=true)) (fun _ w'=>s.size-w'.iterPos w.heap.size)
 case atStart=>exact ⟨0,rfl,zx1 _,zab (fun _ _ h=>by omega)⟩
 case round=>
  obtain ⟨pos,rfl,hp,hall⟩:=hrel;by_cases hlt:pos<s.size
  ·by_cases hb:(s[pos]'hlt).toNat<128
   ·have hnx:∀ ty,(Instr.next (.pointer (some ⟨w.heap.size,0,none⟩)) true ty).run Tryz.prog (w.iter s pos)=_:=fun ty=>run_next_ascii w s pos ty hlt hb
    have hqp:=zab (ztf (s[pos]'hlt) hb);clear hb;cases hv:Th.zbv s[pos]
    ·have hv':=zab hv;clear hv;go_wp2_with fail
     refine (zd5 _ _).mono ?_;rintro e w' ⟨rfl,rfl⟩;rw[<-hqp.o,hv'.o];go_wp2_with fail
     go_ret
     refine ⟨?_,_,rfl⟩;rw[zfQ s.data.toList pos (by simp;omega) (fun j h hj=>hall.o j (by simpa using h) hj) (fun h=>hv'.o)];rfl
    ·have hv':=zab hv;clear hv;go_wp2_with fail
     refine (zd5 _ _).mono ?_;rintro e w' ⟨rfl,rfl⟩;rw[<-hqp.o,hv'.o];go_wp2_with fail
     go_roundw
     case rel=>
      refine ⟨pos+1,rfl,by omega,zab fun j h hj=>?_⟩;by_cases e:j=pos
      ·subst e;exact hv'.o
      ·exact hall.o j h (by omega)
     case measure=>
      simp;omega
   ·have hnx:∀ ty,(Instr.next (.pointer (some ⟨w.heap.size,0,none⟩)) true ty).run Tryz.prog (w.iter s pos)=_:=fun ty=>run_next_any w s pos ty hlt
    have hv':=zab (zuo _ (by omega:128<=(s[pos]'hlt).toNat));have hd:=(decode_high s pos hlt (by omega)).1;have hvp:=zab (zvr ((Utf8.decode s pos).1:Int) (by omega));clear hb hd;go_wp2_with fail
    refine (zd5 _ _).mono ?_;rintro e w' ⟨rfl,rfl⟩;rw[hvp.o];go_wp2_with fail
    go_ret
    refine ⟨?_,_,rfl⟩;rw[zfQ s.data.toList pos (by simp;omega) (fun j h hj=>hall.o j (by simpa using h) hj) (fun h=>hv'.o)];rfl
  ·have hnx:∀ ty,(Instr.next (.pointer (some ⟨w.heap.size,0,none⟩)) true ty).run Tryz.prog (w.iter s pos)=_:=fun ty=>run_next_end w s pos ty hlt
   go_wp2_with fail
   go_ret
   refine ⟨?_,_,rfl⟩;rw[zfQ s.data.toList s.size (by simp) (fun j h hj=>hall.o j (by simpa using h) (by omega)) (fun h=>by simp at h)];rfl
end Go.Proofs.YtgahgkddaljmkaaGreatDoor
