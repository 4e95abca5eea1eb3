/- Mach43 .. Cmp4 -/
import Derived.Test.YtgahgkddaljmkaaGreatDoorV17
import Derived.Deep.DeepCutAuto
import Derived.Deep.CutRange
import Derived.Test.YtgahgkddaljmkaaGreatDoorV16
import Derived.Test.YtgahgkddaljmkaaGreatDoorV1
set_option maxRecDepth 100000
set_option maxHeartbeats 4000000
namespace Go.Proofs.YtgahgkddaljmkaaGreatDoor
open Go.RowKit
attribute [local go_sem ↓] Go.wp_at_zero Go.wp_at_succ
def MSt.told (m:MSt):Option (Int × Int × Int × Int):=
 match m.s.nodeAt 0 with
 |none=>none
 |some (a,y)=>
  if y%16=0 then (match m.s.ws[a+1]? with|none=>none|some v=>some (1,v,0,0))
  else if y%16=1 then some (2,0,y/65536,y/16%4096)
  else some (3,0,0,0)
variable {w:World}
theorem zoP{mb wb:Nat}{fv:Value}{m:MSt}{k n t a:Int}(h:MAt w mb wb fv m)(ht:m.told=some (k,n,t,a)):
  Calls Tryz.prog 48 #[.pointer (some ⟨mb,0,none⟩)] w fun e w'=>e=.returned (ziH k n t a)/\Fr (fun _=>False) w w':=by
 unfold MSt.told at ht;split at ht
 ·cases ht
 ·next b y hn=>
  split at ht
  ·next h0=>
   split at ht
   ·cases ht
   ·next v hv=>cases ht;exact zky h hn h0 hv
  ·next h0=>
   split at ht
   ·next h1=>cases ht;exact znG h hn h1
   ·next h1=>cases ht;exact zmz h hn h0 h1
def MSt.new (pv:Value) (nf main words fuel:Nat):MSt:=⟨⟨List.replicate words 0,words/2,0,0,words/2⟩,⟨pv,nf,main,fuel,0,0⟩,[]⟩
def runM (pv:Value) (cd:List (Nat × List Ins)) (nf main words fuel g:Nat):Option (Int × Int × Int × Int):=
 match (MSt.new pv nf main words fuel).start (cd.map Prod.fst) with
 |none=>none
 |some (.error k)=>some (k,0,0,0)
 |some (.ok m1)=>
  match MSt.work cd g m1 with
  |none=>none
  |some (.error k)=>some (k,0,0,0)
  |some (.ok m2)=>m2.told
def zqw (w:World) (pv:Value) (cd:List (Nat × List Ins)):Prop:=∀ mb wb,w.heap.size<=mb->w.heap.size<=wb->CAt w mb wb (.slice none 0 0) pv cd
theorem Fr.drop{K:Nat->Prop}{a b:World}(h:Fr (fun _=>False) w a)(k:Fr K a b)(hK:∀ i,i<w.heap.size->¬ K i):Fr (fun _=>False) w b:=
 ⟨k.os.trans h.os,k.tape.trans h.tape,k.output.trans h.output,zxN h.size k.size,fun i hi _=>(k.block i (zxO hi h.size) (hK i hi)).trans (h.block i hi (fun e=>e))⟩
theorem znA:∀ {k i:Nat} {m m':MSt},MSt.zbk i k m=some (.ok m')->m'.o.pb=m.o.pb
 |0,_,_,_,h=>by cases h;rfl
 |k+1,i,m,m',h=>by
  rw[MSt.zbk]at h;refine zb4 (fun m1 h1=>?_) h;split at h1
  ·cases h1
  ·have:=znA h1;exact this
theorem zvA{m m':MSt}{sl:List Nat}(h:m.start sl=some (.ok m')):m'.o.pb=m.o.pb:=by
 unfold MSt.start at h;split at h
 ·cases h
 ·cases h
 ·next m1 hl=>
  rw[<-znA hl];refine zb4 (fun m2 h2=>?_) h;split at h2
  ·cases h2
  ·split at h2
   ·cases h2
   ·split at h2
    ·cases h2
    ·have:=zqp h2;exact this
theorem ztL{P:Program}{c:Code}{K:Act->World->Prop}{Q:Exit->Act->World->Prop}{a:Act}(h:c.wp P (Exit.then K (fun _ _ _=>False)) a w):c.wp P (Exit.then K Q) a w:=
 wp_mono h fun e _ _ hq=>by cases e <;> first|exact hq|exact hq.elim
theorem zsg{wc:World}{mb wb pb cap l nf main words fuel:Nat}(hm:Blk wc mb [.slice (some ⟨wb,0,none⟩) words words,.int .i64 ((words:Int)/2),.int .i64 0,.int .i64 0,.int .i64 ((words:Int)/2),.slice (some ⟨pb,0,none⟩) l cap,.int .i64 nf,.int .i64 main,.slice none 0 0,.int .i64 fuel,.int .i64 0,.int .i64 0] 81)(hw:Blk wc wb (zdF (List.replicate words 0)) 2)(hne:mb≠wb)(hwd:words<=1000000)(hfu:fuel<=1000000000):MAt wc mb wb (.slice none 0 0) (MSt.new (.slice (some ⟨pb,0,none⟩) l cap) nf main words fuel):=by
 refine ⟨⟨?_,hw,hne,by simpa [MSt.new] using hwd,by simp only[MSt.new];omega,by simp[MSt.new],by simp[MSt.new],by simp only[MSt.new];omega⟩,.inl ⟨rfl,rfl⟩,by simp[MSt.new],hfu⟩;have e:((words/2:Nat):Int)=(words:Int)/2:=by omega
 simp only[MSt.new,zh7,zec,zyt,e,zx5,zx7,Int.natCast_zero];exact hm
theorem zwH{pv:Value}{cd:List (Nat × List Ins)}{nf main words fuel g:Nat}{k n t a:Int}(hC:zqw w pv cd)(hnf:nf<=1000000)(hwd:words<=1000000)(hfu:fuel<=1000000000)(hr:runM pv cd nf main words fuel g=some (k,n,t,a)):
  Calls Tryz.prog 34 #[.agg #[pv,.int .i64 nf,.int .i64 main],.int .i64 words,.int .i64 fuel] w fun e w'=>e=.returned (ziH k n t a)/\Fr (fun _=>False) w w':=by
 have hmf:∀ (fn:Fn) (first cap:Array Value) (w:World),(Instr.makeFunc fn first cap).run Tryz.prog w=.ok (.func fn first cap) w:=fun _ _ _ _=>rfl
 have HC:=zab hC;obtain ⟨pb,cap,hpv⟩:∃ pb cap,pv=.slice (some ⟨pb,0,none⟩) cd.length cap:=by obtain ⟨pb,cap,hpv,_⟩:=hC _ _ (zxJ _) (zxJ _);exact ⟨pb,cap,hpv⟩
 subst hpv;have HR:=zab hr;have hwd1:(words:Int)<=1000000:=by omega
 clear hC hr
 go_enter_defers Tryz.func34,Tryz.ntmps34
 go_wp2_with fail
 have BP:Hid (Blk ((w.alloc (.cells #[.slice (some ⟨pb,0,none⟩) cd.length cap,.int .i64 nf,.int .i64 main] 66)).alloc (.cells #[.int .i64 0,.int .i64 0,.int .i64 0,.int .i64 0] 35)) w.heap.size [.slice (some ⟨pb,0,none⟩) cd.length cap,.int .i64 nf,.int .i64 main] 66):=
  zab (Fr.blk (K:=fun _=>False) (Blk.new w [.slice (some ⟨pb,0,none⟩) cd.length cap,.int .i64 nf,.int .i64 main] 66) ((Fr.refl _ _).alloc _) (by simp))
 have BO:Hid (Blk ((w.alloc (.cells #[.slice (some ⟨pb,0,none⟩) cd.length cap,.int .i64 nf,.int .i64 main] 66)).alloc (.cells #[.int .i64 0,.int .i64 0,.int .i64 0,.int .i64 0] 35)) (w.heap.size+1) [.int .i64 0,.int .i64 0,.int .i64 0,.int .i64 0] 35):=
  zab (by have:=Blk.new (w.alloc (.cells #[.slice (some ⟨pb,0,none⟩) cd.length cap,.int .i64 nf,.int .i64 main] 66)) [.int .i64 0,.int .i64 0,.int .i64 0,.int .i64 0] 35;rwa [World.size_alloc]at this)
 have F1:Hid (Fr (fun _=>False) w ((w.alloc (.cells #[.slice (some ⟨pb,0,none⟩) cd.length cap,.int .i64 nf,.int .i64 main] 66)).alloc (.cells #[.int .i64 0,.int .i64 0,.int .i64 0,.int .i64 0] 35))):=zab (((Fr.refl _ _).alloc _).alloc _);have HS1:Hid (((w.alloc (.cells #[.slice (some ⟨pb,0,none⟩) cd.length cap,.int .i64 nf,.int .i64 main] 66)).alloc (.cells #[.int .i64 0,.int .i64 0,.int .i64 0,.int .i64 0] 35)).heap.size=w.heap.size+2):=zab (by simp);generalize (w.alloc (.cells #[.slice (some ⟨pb,0,none⟩) cd.length cap,.int .i64 nf,.int .i64 main] 66)).alloc (.cells #[.int .i64 0,.int .i64 0,.int .i64 0,.int .i64 0] 35)=w1 at BP BO F1 HS1 ⊢;have p0:=Blk.cell BP.o 0;have p1:=Blk.cell BP.o 1;have p2:=Blk.cell BP.o 2;simp at p0 p1 p2
 go_cut [7] from 8 to 13 (fun v wc=>∃ bm mb wb,v=.pointer (some ⟨bm,0,none⟩)/\Blk wc bm [.pointer (some ⟨mb,0,none⟩)] 75/\MAt wc mb wb (.slice none 0 0) (MSt.new (.slice (some ⟨pb,0,none⟩) cd.length cap) nf main words fuel)/\Fr (fun _=>False) w1 wc/\w1.heap.size<=bm/\w1.heap.size<=mb/\w1.heap.size<=wb/\bm≠mb/\bm≠wb)
 case first=>
  refine ztL ?_;have FR0:Hid (Fr (fun _=>False) w1 w1.drew):=zab (Fr.refl _ _).drew;have SB0:Hid (w1.drew.cell? ⟨w.heap.size,0,none⟩=some (.slice (some ⟨pb,0,none⟩) cd.length cap)/\w1.drew.cell? ⟨w.heap.size,1,none⟩=some (.int .i64 nf)/\w1.drew.cell? ⟨w.heap.size,2,none⟩=some (.int .i64 main)):=zab (by have hb:=Fr.blk BP.o FR0.o (by simp);exact ⟨by simpa using Blk.cell hb 0,by simpa using Blk.cell hb 1,by simpa using Blk.cell hb 2⟩);refine wp_region_held_drew (S:=fun W=>W.cell? ⟨w.heap.size,0,none⟩=some (.slice (some ⟨pb,0,none⟩) cd.length cap)/\W.cell? ⟨w.heap.size,1,none⟩=some (.int .i64 nf)/\W.cell? ⟨w.heap.size,2,none⟩=some (.int .i64 main)) (by kernel_rfl) SB0.o (fun hHeld=>?_);refine wpAnyH_take (i:=0) (v:=?_) rfl (by kernel_rfl) (by kernel_rfl) (by kernel_rfl) (fun _ _ _ h=>h) (Or.inl ⟨by rfl,?_⟩) (by assumption) ?_
  rotate_left 1
  ·(intro w hSw;(try dsimp only at hSw);obtain ⟨hSa,hSb,hSc⟩:=hSw;go_simp;try with_reducible rfl)
  try simp only[Act.put,zxK]
  refine wpAnyH_take (i:=1) (v:=?_) rfl (by kernel_rfl) (by kernel_rfl) (by kernel_rfl) (fun _ _ _ h=>h) (Or.inl ⟨by rfl,?_⟩) (by assumption) ?_
  rotate_left 1
  ·(intro w hSw;(try dsimp only at hSw);obtain ⟨hSa,hSb,hSc⟩:=hSw;go_simp;try with_reducible rfl)
  try simp only[Act.put]
  refine wpAnyH_take (i:=3) (v:=?_) rfl (by kernel_rfl) (by kernel_rfl) (by kernel_rfl) (fun _ _ _ h=>h) (Or.inl ⟨by rfl,?_⟩) (by assumption) ?_
  rotate_left 1
  ·(intro w hSw;(try dsimp only at hSw);obtain ⟨hSa,hSb,hSc⟩:=hSw;go_simp;try with_reducible rfl)
  try simp only[Act.put]
  refine wpAnyH_ready (rs:=[2,6]) (by kernel_rfl) (by simp) ?_;refine (AllReadyH.cons rfl (fun K hK=>?_) (AllReadyH.cons rfl (fun K hK=>?_) AllReadyH.nil))
  ·go_simp
   refine (zh8 hwd).mono ?_;rintro e w2 ⟨rfl,hb2,f2⟩;obtain ⟨wbk,hwbk⟩:∃ wbk,w1.drew.heap.size+1=wbk:=⟨_,rfl⟩;rw[hwbk]at hb2;have FR2:Hid (Fr (fun _=>False) w1 w2):=zab (FR0.o.trans f2);have HWB:Hid (w1.heap.size<=wbk):=zab (by rw[<-hwbk];exact zy4 _);have WB2:=zab hb2;have SB2:Hid (w2.cell? ⟨w.heap.size,0,none⟩=some (.slice (some ⟨pb,0,none⟩) cd.length cap)/\w2.cell? ⟨w.heap.size,1,none⟩=some (.int .i64 nf)/\w2.cell? ⟨w.heap.size,2,none⟩=some (.int .i64 main)):=zab (by have hb:=Fr.blk BP.o FR2.o (by simp);exact ⟨by simpa using Blk.cell hb 0,by simpa using Blk.cell hb 1,by simpa using Blk.cell hb 2⟩);have HWL:Hid (wbk<w2.heap.size):=zab hb2.lt
   try rw[hwbk]
   clear hb2 f2 hwbk;refine hK.out _ _ SB2.o (fun hHeld=>?_);clear hK K
   try simp only[Act.put,zxK,zxV,zxS]
   refine wpAnyH_take (i:=4) (v:=?_) rfl (by kernel_rfl) (by kernel_rfl) (by kernel_rfl) (fun _ _ _ h=>h) (Or.inl ⟨by rfl,?_⟩) (by assumption) ?_
   rotate_left 1
   ·(intro w hSw;(try dsimp only at hSw);obtain ⟨hSa,hSb,hSc⟩:=hSw;go_simp;try with_reducible rfl)
   try simp only[Act.put,zxK]
   refine wpAnyH_ready (rs:=[5,6]) (by kernel_rfl) (by simp) ?_;refine (AllReadyH.cons rfl (fun K hK=>?_) (AllReadyH.cons rfl (fun K hK=>?_) AllReadyH.nil))
   ·go_simp
    have FR2m:Hid (Fr (fun _=>False) w1 (w2.alloc (.cells #[.slice (some ⟨wbk,0,none⟩) words words,.int .i64 ((words:Int)/2),.int .i64 0,.int .i64 0,.int .i64 ((words:Int)/2),.slice (some ⟨pb,0,none⟩) cd.length cap,.int .i64 nf,.int .i64 main,.slice none 0 0,.int .i64 fuel,.int .i64 0,.int .i64 0] 81))):=zab (FR2.o.alloc _);have WB2m:=zab (Fr.blk (K:=fun _=>False) WB2.o ((Fr.refl _ _).alloc (.cells #[.slice (some ⟨wbk,0,none⟩) words words,.int .i64 ((words:Int)/2),.int .i64 0,.int .i64 0,.int .i64 ((words:Int)/2),.slice (some ⟨pb,0,none⟩) cd.length cap,.int .i64 nf,.int .i64 main,.slice none 0 0,.int .i64 fuel,.int .i64 0,.int .i64 0] 81)) (by simp));obtain ⟨mbk,hmbk⟩:∃ mbk,w2.heap.size=mbk:=⟨_,rfl⟩;have MB2m:=zab (Blk.new w2 [.slice (some ⟨wbk,0,none⟩) words words,.int .i64 ((words:Int)/2),.int .i64 0,.int .i64 0,.int .i64 ((words:Int)/2),.slice (some ⟨pb,0,none⟩) cd.length cap,.int .i64 nf,.int .i64 main,.slice none 0 0,.int .i64 fuel,.int .i64 0,.int .i64 0] 81);have HMB:Hid (w1.heap.size<=mbk):=zab (by rw[<-hmbk];exact FR2.o.size);have HNE3:Hid (mbk≠wbk):=zab (by have:=WB2.o.lt;omega);rw[hmbk]at MB2m
    try rw[hmbk]
    generalize w2.alloc (.cells #[.slice (some ⟨wbk,0,none⟩) words words,.int .i64 ((words:Int)/2),.int .i64 0,.int .i64 0,.int .i64 ((words:Int)/2),.slice (some ⟨pb,0,none⟩) cd.length cap,.int .i64 nf,.int .i64 main,.slice none 0 0,.int .i64 fuel,.int .i64 0,.int .i64 0] 81)=w3 at FR2m WB2m MB2m ⊢;have SB2m:Hid (w3.cell? ⟨w.heap.size,0,none⟩=some (.slice (some ⟨pb,0,none⟩) cd.length cap)/\w3.cell? ⟨w.heap.size,1,none⟩=some (.int .i64 nf)/\w3.cell? ⟨w.heap.size,2,none⟩=some (.int .i64 main)):=zab (by have hb:=Fr.blk BP.o FR2m.o (by simp);exact ⟨by simpa using Blk.cell hb 0,by simpa using Blk.cell hb 1,by simpa using Blk.cell hb 2⟩);clear hmbk;refine hK.out _ _ SB2m.o (fun hHeld=>?_);clear hK K
    try simp only[Act.put,zxK,zxV,zxS]
    refine wpAnyH_ready (rs:=[6]) (by kernel_rfl) (by simp) ?_;refine (AllReadyH.cons rfl (fun K hK=>?_) AllReadyH.nil)
    go_simp
    have FR2mv:Hid (Fr (fun _=>False) w1 (w3.alloc (.cells #[.pointer none] 75))):=zab (FR2m.o.alloc _);have WB2mv:=zab (Fr.blk (K:=fun _=>False) WB2m.o ((Fr.refl _ _).alloc (.cells #[.pointer none] 75)) (by simp));have VB2mv:=zab (Blk.new w3 [.pointer none] 75);have HBM:Hid (w1.heap.size<=w3.heap.size):=zab FR2m.o.size;have MB2mv:=zab (Fr.blk (K:=fun _=>False) MB2m.o ((Fr.refl _ _).alloc (.cells #[.pointer none] 75)) (by simp));have HNE1:Hid (mbk≠w3.heap.size):=zab (by have:=MB2m.o.lt;omega);have HNE2:Hid (wbk≠w3.heap.size):=zab (by have:=WB2m.o.lt;omega);obtain ⟨bm,hbm⟩:∃ bm,w3.heap.size=bm:=⟨_,rfl⟩;rw[hbm]at VB2mv HBM HNE2 HNE1
    try rw[hbm]
    generalize w3.alloc (.cells #[.pointer none] 75)=w4 at FR2mv WB2mv VB2mv MB2mv ⊢;have SB2mv:Hid (w4.cell? ⟨w.heap.size,0,none⟩=some (.slice (some ⟨pb,0,none⟩) cd.length cap)/\w4.cell? ⟨w.heap.size,1,none⟩=some (.int .i64 nf)/\w4.cell? ⟨w.heap.size,2,none⟩=some (.int .i64 main)):=zab (by have hb:=Fr.blk BP.o FR2mv.o (by simp);exact ⟨by simpa using Blk.cell hb 0,by simpa using Blk.cell hb 1,by simpa using Blk.cell hb 2⟩);clear hbm;refine hK.out _ _ SB2mv.o (fun hHeld=>?_);clear hK K
    try simp only[Act.put,zxK,zxV,zxS]
    refine wpAnyH_ready (rs:=[7]) (by kernel_rfl) (by simp) ?_;refine (AllReadyH.cons rfl (fun K hK=>?_) AllReadyH.nil);have VBl:=VB2mv;have MBl:=MB2mv;have WBl:=WB2mv;have v0:=Blk.cell VBl.o 0;have vf:=Blk.frozen VBl.o 0;simp at v0
    go_simp
    have FRz:Hid (Fr (fun _=>False) w1 (w4.setCell ⟨bm,0,none⟩ (.pointer (some ⟨mbk,0,none⟩)))):=zab (FR2mv.o.set _ _ (.inr HBM.o));have SBz:Hid ((w4.setCell ⟨bm,0,none⟩ (.pointer (some ⟨mbk,0,none⟩))).cell? ⟨w.heap.size,0,none⟩=some (.slice (some ⟨pb,0,none⟩) cd.length cap)/\(w4.setCell ⟨bm,0,none⟩ (.pointer (some ⟨mbk,0,none⟩))).cell? ⟨w.heap.size,1,none⟩=some (.int .i64 nf)/\(w4.setCell ⟨bm,0,none⟩ (.pointer (some ⟨mbk,0,none⟩))).cell? ⟨w.heap.size,2,none⟩=some (.int .i64 main)):=zab (by have hb:=Fr.blk BP.o FRz.o (by simp);exact ⟨by simpa using Blk.cell hb 0,by simpa using Blk.cell hb 1,by simpa using Blk.cell hb 2⟩);have VBz:=zab (VBl.o.set 0 (.pointer (some ⟨mbk,0,none⟩)));have MBz:=zab (MBl.o.other ⟨bm,0,none⟩ (.pointer (some ⟨mbk,0,none⟩)) HNE1.o);have WBz:=zab (WBl.o.other ⟨bm,0,none⟩ (.pointer (some ⟨mbk,0,none⟩)) HNE2.o);refine hK.out _ _ SBz.o (fun hHeld=>?_);clear hK K
    try simp only[Act.put,zxK,zxV,zxS]
    refine wpAnyH_done (by kernel_rfl) ?_ _;go_wp2_with fail
    go_meet
    case rel=>exact ⟨_,mbk,wbk,rfl,VBz.o,zsg MBz.o WBz.o HNE3.o hwd hfu,FRz.o,HBM.o,HMB.o,HWB.o,fun e=>HNE1.o e.symm,fun e=>HNE2.o e.symm⟩
   ·go_simp
    have FR2v:Hid (Fr (fun _=>False) w1 (w2.alloc (.cells #[.pointer none] 75))):=zab (FR2.o.alloc _);have WB2v:=zab (Fr.blk (K:=fun _=>False) WB2.o ((Fr.refl _ _).alloc (.cells #[.pointer none] 75)) (by simp));have VB2v:=zab (Blk.new w2 [.pointer none] 75);have HBM:Hid (w1.heap.size<=w2.heap.size):=zab FR2.o.size;have HNE2:Hid (wbk≠w2.heap.size):=zab (by have:=WB2.o.lt;omega);obtain ⟨bm,hbm⟩:∃ bm,w2.heap.size=bm:=⟨_,rfl⟩;rw[hbm]at VB2v HBM HNE2
    try rw[hbm]
    generalize w2.alloc (.cells #[.pointer none] 75)=w3 at FR2v WB2v VB2v ⊢;have SB2v:Hid (w3.cell? ⟨w.heap.size,0,none⟩=some (.slice (some ⟨pb,0,none⟩) cd.length cap)/\w3.cell? ⟨w.heap.size,1,none⟩=some (.int .i64 nf)/\w3.cell? ⟨w.heap.size,2,none⟩=some (.int .i64 main)):=zab (by have hb:=Fr.blk BP.o FR2v.o (by simp);exact ⟨by simpa using Blk.cell hb 0,by simpa using Blk.cell hb 1,by simpa using Blk.cell hb 2⟩);clear hbm;refine hK.out _ _ SB2v.o (fun hHeld=>?_);clear hK K
    try simp only[Act.put,zxK,zxV,zxS]
    refine wpAnyH_ready (rs:=[5]) (by kernel_rfl) (by simp) ?_;refine (AllReadyH.cons rfl (fun K hK=>?_) AllReadyH.nil)
    go_simp
    have FR2vm:Hid (Fr (fun _=>False) w1 (w3.alloc (.cells #[.slice (some ⟨wbk,0,none⟩) words words,.int .i64 ((words:Int)/2),.int .i64 0,.int .i64 0,.int .i64 ((words:Int)/2),.slice (some ⟨pb,0,none⟩) cd.length cap,.int .i64 nf,.int .i64 main,.slice none 0 0,.int .i64 fuel,.int .i64 0,.int .i64 0] 81))):=zab (FR2v.o.alloc _);have WB2vm:=zab (Fr.blk (K:=fun _=>False) WB2v.o ((Fr.refl _ _).alloc (.cells #[.slice (some ⟨wbk,0,none⟩) words words,.int .i64 ((words:Int)/2),.int .i64 0,.int .i64 0,.int .i64 ((words:Int)/2),.slice (some ⟨pb,0,none⟩) cd.length cap,.int .i64 nf,.int .i64 main,.slice none 0 0,.int .i64 fuel,.int .i64 0,.int .i64 0] 81)) (by simp));obtain ⟨mbk,hmbk⟩:∃ mbk,w3.heap.size=mbk:=⟨_,rfl⟩;have MB2vm:=zab (Blk.new w3 [.slice (some ⟨wbk,0,none⟩) words words,.int .i64 ((words:Int)/2),.int .i64 0,.int .i64 0,.int .i64 ((words:Int)/2),.slice (some ⟨pb,0,none⟩) cd.length cap,.int .i64 nf,.int .i64 main,.slice none 0 0,.int .i64 fuel,.int .i64 0,.int .i64 0] 81);have HMB:Hid (w1.heap.size<=mbk):=zab (by rw[<-hmbk];exact FR2v.o.size);have HNE3:Hid (mbk≠wbk):=zab (by have:=WB2v.o.lt;omega);rw[hmbk]at MB2vm;have VB2vm:=zab (Fr.blk (K:=fun _=>False) VB2v.o ((Fr.refl _ _).alloc (.cells #[.slice (some ⟨wbk,0,none⟩) words words,.int .i64 ((words:Int)/2),.int .i64 0,.int .i64 0,.int .i64 ((words:Int)/2),.slice (some ⟨pb,0,none⟩) cd.length cap,.int .i64 nf,.int .i64 main,.slice none 0 0,.int .i64 fuel,.int .i64 0,.int .i64 0] 81)) (by simp));have HNE1:Hid (mbk≠bm):=zab (by have:=VB2v.o.lt;omega)
    try rw[hmbk]
    generalize w3.alloc (.cells #[.slice (some ⟨wbk,0,none⟩) words words,.int .i64 ((words:Int)/2),.int .i64 0,.int .i64 0,.int .i64 ((words:Int)/2),.slice (some ⟨pb,0,none⟩) cd.length cap,.int .i64 nf,.int .i64 main,.slice none 0 0,.int .i64 fuel,.int .i64 0,.int .i64 0] 81)=w4 at FR2vm WB2vm VB2vm MB2vm ⊢;have SB2vm:Hid (w4.cell? ⟨w.heap.size,0,none⟩=some (.slice (some ⟨pb,0,none⟩) cd.length cap)/\w4.cell? ⟨w.heap.size,1,none⟩=some (.int .i64 nf)/\w4.cell? ⟨w.heap.size,2,none⟩=some (.int .i64 main)):=zab (by have hb:=Fr.blk BP.o FR2vm.o (by simp);exact ⟨by simpa using Blk.cell hb 0,by simpa using Blk.cell hb 1,by simpa using Blk.cell hb 2⟩);clear hmbk;refine hK.out _ _ SB2vm.o (fun hHeld=>?_);clear hK K
    try simp only[Act.put,zxK,zxV,zxS]
    refine wpAnyH_ready (rs:=[7]) (by kernel_rfl) (by simp) ?_;refine (AllReadyH.cons rfl (fun K hK=>?_) AllReadyH.nil);have VBl:=VB2vm;have MBl:=MB2vm;have WBl:=WB2vm;have v0:=Blk.cell VBl.o 0;have vf:=Blk.frozen VBl.o 0;simp at v0
    go_simp
    have FRz:Hid (Fr (fun _=>False) w1 (w4.setCell ⟨bm,0,none⟩ (.pointer (some ⟨mbk,0,none⟩)))):=zab (FR2vm.o.set _ _ (.inr HBM.o));have SBz:Hid ((w4.setCell ⟨bm,0,none⟩ (.pointer (some ⟨mbk,0,none⟩))).cell? ⟨w.heap.size,0,none⟩=some (.slice (some ⟨pb,0,none⟩) cd.length cap)/\(w4.setCell ⟨bm,0,none⟩ (.pointer (some ⟨mbk,0,none⟩))).cell? ⟨w.heap.size,1,none⟩=some (.int .i64 nf)/\(w4.setCell ⟨bm,0,none⟩ (.pointer (some ⟨mbk,0,none⟩))).cell? ⟨w.heap.size,2,none⟩=some (.int .i64 main)):=zab (by have hb:=Fr.blk BP.o FRz.o (by simp);exact ⟨by simpa using Blk.cell hb 0,by simpa using Blk.cell hb 1,by simpa using Blk.cell hb 2⟩);have VBz:=zab (VBl.o.set 0 (.pointer (some ⟨mbk,0,none⟩)));have MBz:=zab (MBl.o.other ⟨bm,0,none⟩ (.pointer (some ⟨mbk,0,none⟩)) HNE1.o);have WBz:=zab (WBl.o.other ⟨bm,0,none⟩ (.pointer (some ⟨mbk,0,none⟩)) HNE2.o);refine hK.out _ _ SBz.o (fun hHeld=>?_);clear hK K
    try simp only[Act.put,zxK,zxV,zxS]
    refine wpAnyH_done (by kernel_rfl) ?_ _;go_wp2_with fail
    go_meet
    case rel=>exact ⟨_,mbk,wbk,rfl,VBz.o,zsg MBz.o WBz.o HNE3.o hwd hfu,FRz.o,HBM.o,HMB.o,HWB.o,fun e=>HNE1.o e.symm,fun e=>HNE2.o e.symm⟩
  ·go_simp
   have FRv:Hid (Fr (fun _=>False) w1 (w1.alloc (.cells #[.pointer none] 75)).drew):=zab ((Fr.refl _ _).alloc _).drew;have VBv:=zab (Blk.new w1 [.pointer none] 75).drew;obtain ⟨bm,hbm⟩:∃ bm,w1.heap.size=bm:=⟨_,rfl⟩;have HBM:Hid (w1.heap.size<=bm):=zab (by omega);rw[show (w1.heap.size)=bm from hbm]at VBv
   try rw[hbm]
   generalize (w1.alloc (.cells #[.pointer none] 75)).drew=w2 at FRv VBv ⊢;have SBv:Hid (w2.cell? ⟨w.heap.size,0,none⟩=some (.slice (some ⟨pb,0,none⟩) cd.length cap)/\w2.cell? ⟨w.heap.size,1,none⟩=some (.int .i64 nf)/\w2.cell? ⟨w.heap.size,2,none⟩=some (.int .i64 main)):=zab (by have hb:=Fr.blk BP.o FRv.o (by simp);exact ⟨by simpa using Blk.cell hb 0,by simpa using Blk.cell hb 1,by simpa using Blk.cell hb 2⟩);clear hbm;refine hK.out _ _ SBv.o (fun hHeld=>?_);clear hK K
   try simp only[Act.put,zxK,zxV,zxS]
   refine wpAnyH_ready (rs:=[2]) (by kernel_rfl) (by simp) ?_;refine (AllReadyH.cons rfl (fun K hK=>?_) AllReadyH.nil)
   go_simp
   refine (zh8 hwd).mono ?_;rintro e w3 ⟨rfl,hb2,f2⟩;obtain ⟨wbk,hwbk⟩:∃ wbk,w2.heap.size+1=wbk:=⟨_,rfl⟩;rw[hwbk]at hb2;have FR3v:Hid (Fr (fun _=>False) w1 w3):=zab (FRv.o.trans f2);have HWB:Hid (w1.heap.size<=wbk):=zab (by have:=FRv.o.size;omega);have WB3v:=zab hb2;have VB3v:=zab (Fr.blk VBv.o f2 (by simp));have HNE2:Hid (wbk≠bm):=zab (by have:=VBv.o.lt;omega);have SB3v:Hid (w3.cell? ⟨w.heap.size,0,none⟩=some (.slice (some ⟨pb,0,none⟩) cd.length cap)/\w3.cell? ⟨w.heap.size,1,none⟩=some (.int .i64 nf)/\w3.cell? ⟨w.heap.size,2,none⟩=some (.int .i64 main)):=zab (by have hb:=Fr.blk BP.o FR3v.o (by simp);exact ⟨by simpa using Blk.cell hb 0,by simpa using Blk.cell hb 1,by simpa using Blk.cell hb 2⟩)
   try rw[hwbk]
   clear hb2 f2 hwbk;refine hK.out _ _ SB3v.o (fun hHeld=>?_);clear hK K
   try simp only[Act.put,zxK,zxV,zxS]
   refine wpAnyH_take (i:=4) (v:=?_) rfl (by kernel_rfl) (by kernel_rfl) (by kernel_rfl) (fun _ _ _ h=>h) (Or.inl ⟨by rfl,?_⟩) (by assumption) ?_
   rotate_left 1
   ·(intro w hSw;(try dsimp only at hSw);obtain ⟨hSa,hSb,hSc⟩:=hSw;go_simp;try with_reducible rfl)
   try simp only[Act.put,zxK]
   refine wpAnyH_ready (rs:=[5]) (by kernel_rfl) (by simp) ?_;refine (AllReadyH.cons rfl (fun K hK=>?_) AllReadyH.nil)
   go_simp
   have FR3vm:Hid (Fr (fun _=>False) w1 (w3.alloc (.cells #[.slice (some ⟨wbk,0,none⟩) words words,.int .i64 ((words:Int)/2),.int .i64 0,.int .i64 0,.int .i64 ((words:Int)/2),.slice (some ⟨pb,0,none⟩) cd.length cap,.int .i64 nf,.int .i64 main,.slice none 0 0,.int .i64 fuel,.int .i64 0,.int .i64 0] 81))):=zab (FR3v.o.alloc _);have WB3vm:=zab (Fr.blk (K:=fun _=>False) WB3v.o ((Fr.refl _ _).alloc (.cells #[.slice (some ⟨wbk,0,none⟩) words words,.int .i64 ((words:Int)/2),.int .i64 0,.int .i64 0,.int .i64 ((words:Int)/2),.slice (some ⟨pb,0,none⟩) cd.length cap,.int .i64 nf,.int .i64 main,.slice none 0 0,.int .i64 fuel,.int .i64 0,.int .i64 0] 81)) (by simp));obtain ⟨mbk,hmbk⟩:∃ mbk,w3.heap.size=mbk:=⟨_,rfl⟩;have MB3vm:=zab (Blk.new w3 [.slice (some ⟨wbk,0,none⟩) words words,.int .i64 ((words:Int)/2),.int .i64 0,.int .i64 0,.int .i64 ((words:Int)/2),.slice (some ⟨pb,0,none⟩) cd.length cap,.int .i64 nf,.int .i64 main,.slice none 0 0,.int .i64 fuel,.int .i64 0,.int .i64 0] 81);have HMB:Hid (w1.heap.size<=mbk):=zab (by rw[<-hmbk];exact FR3v.o.size);have HNE3:Hid (mbk≠wbk):=zab (by have:=WB3v.o.lt;omega);rw[hmbk]at MB3vm;have VB3vm:=zab (Fr.blk (K:=fun _=>False) VB3v.o ((Fr.refl _ _).alloc (.cells #[.slice (some ⟨wbk,0,none⟩) words words,.int .i64 ((words:Int)/2),.int .i64 0,.int .i64 0,.int .i64 ((words:Int)/2),.slice (some ⟨pb,0,none⟩) cd.length cap,.int .i64 nf,.int .i64 main,.slice none 0 0,.int .i64 fuel,.int .i64 0,.int .i64 0] 81)) (by simp));have HNE1:Hid (mbk≠bm):=zab (by have:=VB3v.o.lt;omega)
   try rw[hmbk]
   generalize w3.alloc (.cells #[.slice (some ⟨wbk,0,none⟩) words words,.int .i64 ((words:Int)/2),.int .i64 0,.int .i64 0,.int .i64 ((words:Int)/2),.slice (some ⟨pb,0,none⟩) cd.length cap,.int .i64 nf,.int .i64 main,.slice none 0 0,.int .i64 fuel,.int .i64 0,.int .i64 0] 81)=w4 at FR3vm WB3vm VB3vm MB3vm ⊢;have SB3vm:Hid (w4.cell? ⟨w.heap.size,0,none⟩=some (.slice (some ⟨pb,0,none⟩) cd.length cap)/\w4.cell? ⟨w.heap.size,1,none⟩=some (.int .i64 nf)/\w4.cell? ⟨w.heap.size,2,none⟩=some (.int .i64 main)):=zab (by have hb:=Fr.blk BP.o FR3vm.o (by simp);exact ⟨by simpa using Blk.cell hb 0,by simpa using Blk.cell hb 1,by simpa using Blk.cell hb 2⟩);clear hmbk;refine hK.out _ _ SB3vm.o (fun hHeld=>?_);clear hK K
   try simp only[Act.put,zxK,zxV,zxS]
   refine wpAnyH_ready (rs:=[7]) (by kernel_rfl) (by simp) ?_;refine (AllReadyH.cons rfl (fun K hK=>?_) AllReadyH.nil);have VBl:=VB3vm;have MBl:=MB3vm;have WBl:=WB3vm;have v0:=Blk.cell VBl.o 0;have vf:=Blk.frozen VBl.o 0;simp at v0
   go_simp
   have FRz:Hid (Fr (fun _=>False) w1 (w4.setCell ⟨bm,0,none⟩ (.pointer (some ⟨mbk,0,none⟩)))):=zab (FR3vm.o.set _ _ (.inr HBM.o));have SBz:Hid ((w4.setCell ⟨bm,0,none⟩ (.pointer (some ⟨mbk,0,none⟩))).cell? ⟨w.heap.size,0,none⟩=some (.slice (some ⟨pb,0,none⟩) cd.length cap)/\(w4.setCell ⟨bm,0,none⟩ (.pointer (some ⟨mbk,0,none⟩))).cell? ⟨w.heap.size,1,none⟩=some (.int .i64 nf)/\(w4.setCell ⟨bm,0,none⟩ (.pointer (some ⟨mbk,0,none⟩))).cell? ⟨w.heap.size,2,none⟩=some (.int .i64 main)):=zab (by have hb:=Fr.blk BP.o FRz.o (by simp);exact ⟨by simpa using Blk.cell hb 0,by simpa using Blk.cell hb 1,by simpa using Blk.cell hb 2⟩);have VBz:=zab (VBl.o.set 0 (.pointer (some ⟨mbk,0,none⟩)));have MBz:=zab (MBl.o.other ⟨bm,0,none⟩ (.pointer (some ⟨mbk,0,none⟩)) HNE1.o);have WBz:=zab (WBl.o.other ⟨bm,0,none⟩ (.pointer (some ⟨mbk,0,none⟩)) HNE2.o);refine hK.out _ _ SBz.o (fun hHeld=>?_);clear hK K
   try simp only[Act.put,zxK,zxV,zxS]
   refine wpAnyH_done (by kernel_rfl) ?_ _;go_wp2_with fail
   go_meet
   case rel=>exact ⟨_,mbk,wbk,rfl,VBz.o,zsg MBz.o WBz.o HNE3.o hwd hfu,FRz.o,HBM.o,HMB.o,HWB.o,fun e=>HNE1.o e.symm,fun e=>HNE2.o e.symm⟩
 case rest=>
  obtain ⟨bm,mb,wb,rfl,hvb,hm,hfr,h1,h2,h3,hne1,hne2⟩:=hcut;have hs1:=HS1.o;have HFW:=zab (F1.o.trans hfr);have hcat:CAt wc mb wb (.slice none 0 0) (.slice (some ⟨pb,0,none⟩) cd.length cap) cd:=(HC.o mb wb (by omega) (by omega)).fr (HFW.o.mono (fun _ h=>h.elim));have HCAT:=zab hcat;have HM:=zab hm;have BMc:=zab hvb;have BOc:=zab (Fr.blk BO.o hfr (by simp));have HBO:Hid (w.heap.size+1≠mb/\w.heap.size+1≠bm):=zab (by omega);have HLT:Hid (w.heap.size+1<wc.heap.size/\bm<wc.heap.size/\w.heap.size<mb/\w.heap.size<wb/\w.heap.size+1<mb/\w.heap.size+1<wb):=zab (by have:=hfr.size;have:=hvb.lt;omega);have b0:=Blk.cell hvb 0;simp at b0;have hr:=HR.o;unfold runM at hr;clear hcat hvb hfr hm p0 p1 p2 hs1 h1 h2 h3 BP;split at hr
  ·cases hr
  ·next j hst=>
   cases hr;have CS:=zab (zn0 HM.o HCAT.o.zac rfl rfl hnf hst);clear hst;go_wp2_with fail
   refine CS.o.mono ?_;rintro e w2 ⟨f2,rfl,fv,m',hm',hfre⟩;have BM2:=zab (Fr.blk BMc.o f2 (by rintro (e|e);exact hne1 e;exact hne2 e));have BO2:=zab (Fr.blk BOc.o f2 (by have:=HLT.o;rintro (e|e) <;> omega));have FW2:=zab (HFW.o.drop f2 (fun i hi=>by have:=HLT.o;rintro (e|e) <;> omega));have hblk:=hm'.sat.blk;have hlt:=HLT.o;simp only[zh7,zx5,zx7]at hblk;refine leaves_cons (f:=45) (args:=#[.pointer (some ⟨bm,0,none⟩),.pointer (some ⟨w.heap.size+1,0,none⟩)]) (by simp) (by simp[go_sem]) ?_;refine (zfW bm (w.heap.size+1) mb _ _ _ _ _ _ _ _ _ _ _ _ _ BM2.o hblk BO2.o hne1 HBO.o.1 HBO.o.2).mono ?_;rintro e u' w9 ⟨rfl,rfl,hbo,ff⟩;have r0:=Blk.cell hbo 0;have r1:=Blk.cell hbo 1;have r2:=Blk.cell hbo 2;have r3:=Blk.cell hbo 3;simp at r0 r1 r2 r3;refine ⟨ziH _ 0 0 0,?_,rfl,?_⟩
   ·simp[results,Tryz.results34,go_sem,r0,r1,r2,r3,ziH]
   ·exact FW2.o.drop ff (fun i hi=>by rintro (e|e) <;> omega)
  ·next m1 hst=>
   have CS:=zab (zn0 HM.o HCAT.o.zac rfl rfl hnf hst);have hpb:=zvA hst;split at hr
   ·cases hr
   ·next j hwk=>
    cases hr;have HWK:=zab hwk;have HPB:Hid (m1.o.pb=.slice (some ⟨pb,0,none⟩) cd.length cap):=zab hpb;clear hst hwk hpb;go_wp2_with fail
    refine CS.o.mono ?_;rintro e w2 ⟨f2,rfl,fv,hm2,hfre⟩;have BM2:=zab (Fr.blk BMc.o f2 (by rintro (e|e);exact hne1 e;exact hne2 e));have BO2:=zab (Fr.blk BOc.o f2 (by have:=HLT.o;rintro (e|e) <;> omega));have FW2:=zab (HFW.o.drop f2 (fun i hi=>by have:=HLT.o;rintro (e|e) <;> omega));have hcat2:=HCAT.o.mv f2 hfre;rw[<-HPB.o]at hcat2;have CW:=zab (zpZ hm2 hcat2 HWK.o);have HFRE:=zab hfre;have c2:=Blk.cell BM2.o 0;simp at c2;clear f2 hm2 hfre hcat2 b0;go_wp2_with fail
    refine CW.o.mono ?_;rintro e w3 ⟨f3,rfl,m',hm'⟩;have hfre:=HFRE.o;have hlt:=HLT.o;have BM3:=zab (Fr.blk BM2.o f3 (by rintro (e|e|e);exact hne1 e;exact hne2 e;have:=hfre _ e;omega));have BO3:=zab (Fr.blk BO2.o f3 (by rintro (e|e|e);omega;omega;have:=hfre _ e;omega));have FW3:=zab (FW2.o.drop f3 (fun i hi=>by rintro (e|e|e);omega;omega;have:=hfre _ e;omega));have hblk:=hm'.sat.blk;simp only[zh7,zx5,zx7]at hblk;refine leaves_cons (f:=45) (args:=#[.pointer (some ⟨bm,0,none⟩),.pointer (some ⟨w.heap.size+1,0,none⟩)]) (by simp) (by simp[go_sem]) ?_;refine (zfW bm (w.heap.size+1) mb _ _ _ _ _ _ _ _ _ _ _ _ _ BM3.o hblk BO3.o hne1 HBO.o.1 HBO.o.2).mono ?_;rintro e u' w9 ⟨rfl,rfl,hbo,ff⟩;have r0:=Blk.cell hbo 0;have r1:=Blk.cell hbo 1;have r2:=Blk.cell hbo 2;have r3:=Blk.cell hbo 3;simp at r0 r1 r2 r3;refine ⟨ziH _ 0 0 0,?_,rfl,?_⟩
    ·simp[results,Tryz.results34,go_sem,r0,r1,r2,r3,ziH]
    ·exact FW3.o.drop ff (fun i hi=>by rintro (e|e) <;> omega)
   ·next m2 hwk=>
    have HWK:=zab hwk;have HPB:Hid (m1.o.pb=.slice (some ⟨pb,0,none⟩) cd.length cap):=zab hpb;have HTO:=zab hr;clear hst hwk hpb hr;go_wp2_with fail
    refine CS.o.mono ?_;rintro e w2 ⟨f2,rfl,fv,hm2,hfre⟩;have BM2:=zab (Fr.blk BMc.o f2 (by rintro (e|e);exact hne1 e;exact hne2 e));have BO2:=zab (Fr.blk BOc.o f2 (by have:=HLT.o;rintro (e|e) <;> omega));have FW2:=zab (HFW.o.drop f2 (fun i hi=>by have:=HLT.o;rintro (e|e) <;> omega));have hcat2:=HCAT.o.mv f2 hfre;rw[<-HPB.o]at hcat2;have CW:=zab (zpZ hm2 hcat2 HWK.o);have HFRE:=zab hfre;have c2:=Blk.cell BM2.o 0;simp at c2;clear f2 hm2 hfre hcat2 b0;go_wp2_with fail
    refine CW.o.mono ?_;rintro e w3 ⟨f3,rfl,hm3⟩;have hfre:=HFRE.o;have hlt:=HLT.o;have BM3:=zab (Fr.blk BM2.o f3 (by rintro (e|e|e);exact hne1 e;exact hne2 e;have:=hfre _ e;omega));have BO3:=zab (Fr.blk BO2.o f3 (by rintro (e|e|e);omega;omega;have:=hfre _ e;omega));have FW3:=zab (FW2.o.drop f3 (fun i hi=>by rintro (e|e|e);omega;omega;have:=hfre _ e;omega));have HM3:=zab hm3;have c3:=Blk.cell BM3.o 0;simp at c3;clear f3 hm3 c2 hfre hlt;go_wp2_with fail
    refine (zoP HM3.o HTO.o).mono ?_;rintro e w4 ⟨rfl,f4⟩;have BM4:=zab (Fr.blk BM3.o f4 (by simp));have BO4:=zab (Fr.blk BO3.o f4 (by simp));have FW4:=zab (FW3.o.trans f4);have MB4:=zab (Fr.blk HM3.o.sat.blk f4 (by simp));have o0:=Blk.cell BO4.o 0;have o1:=Blk.cell BO4.o 1;have o2:=Blk.cell BO4.o 2;have o3:=Blk.cell BO4.o 3;simp at o0 o1 o2 o3;have g0:=Blk.frozen BO4.o 0;have g1:=Blk.frozen BO4.o 1;have g2:=Blk.frozen BO4.o 2;have g3:=Blk.frozen BO4.o 3;clear f4 c3;unfold ziH;go_wp2_with fail
    have FIN:=(((BO4.o.set 0 (.int .i64 k)).set 1 (.int .i64 n)).set 2 (.int .i64 t)).set 3 (.int .i64 a);have FWZ:=(((FW4.o.set ⟨w.heap.size+1,0,none⟩ (.int .i64 k) (.inr (zy4 _))).set ⟨w.heap.size+1,1,none⟩ (.int .i64 n) (.inr (zy4 _))).set ⟨w.heap.size+1,2,none⟩ (.int .i64 t) (.inr (zy4 _))).set ⟨w.heap.size+1,3,none⟩ (.int .i64 a) (.inr (zy4 _));have nb:bm≠w.heap.size+1:=fun e=>HBO.o.2 e.symm
    have nm:mb≠w.heap.size+1:=fun e=>HBO.o.1 e.symm
    have BMZ:=(((BM4.o.other ⟨w.heap.size+1,0,none⟩ (.int .i64 k) nb).other ⟨w.heap.size+1,1,none⟩ (.int .i64 n) nb).other ⟨w.heap.size+1,2,none⟩ (.int .i64 t) nb).other ⟨w.heap.size+1,3,none⟩ (.int .i64 a) nb;have MBZ:=(((MB4.o.other ⟨w.heap.size+1,0,none⟩ (.int .i64 k) nm).other ⟨w.heap.size+1,1,none⟩ (.int .i64 n) nm).other ⟨w.heap.size+1,2,none⟩ (.int .i64 t) nm).other ⟨w.heap.size+1,3,none⟩ (.int .i64 a) nm;simp only[zh7,zx5,zx7]at MBZ;simp only[zxV,zxS]at FIN;refine leaves_cons (f:=45) (args:=#[.pointer (some ⟨bm,0,none⟩),.pointer (some ⟨w.heap.size+1,0,none⟩)]) (by simp) (by simp[go_sem]) ?_;refine (zr2 bm (w.heap.size+1) mb _ _ _ _ _ _ _ _ _ _ _ _ BMZ MBZ FIN hne1 HBO.o.1 HBO.o.2).mono ?_;rintro e u' w9 ⟨rfl,rfl,hbo,ff⟩;have r0:=Blk.cell hbo 0;have r1:=Blk.cell hbo 1;have r2:=Blk.cell hbo 2;have r3:=Blk.cell hbo 3;simp at r0 r1 r2 r3;have hlt:=HLT.o;refine ⟨ziH k n t a,?_,rfl,?_⟩
    ·simp[results,Tryz.results34,go_sem,r0,r1,r2,r3,ziH]
    ·exact FWZ.drop ff (fun i hi=>by rintro (e|e) <;> omega)
end Go.Proofs.YtgahgkddaljmkaaGreatDoor
namespace Go.Proofs.YtgahgkddaljmkaaGreatDoor
open Go.RowKit Go.Shelf
attribute [local go_sem ↓] Go.wp_at_zero Go.wp_at_succ
attribute [local go_sem] Oper.semAt_some
theorem zj3{l:List (List UInt8)}{i:Nat}{v:Value}(h:(strCells l)[i]?=some v):∃ x,l[i]?=some x/\v=.string ⟨x.toArray⟩:=by
 unfold strCells at h;rw[List.getElem?_map,zxT]at h;obtain ⟨x,h1,h2⟩:=h;exact ⟨x,h1,h2.symm⟩
theorem zdB(l:List (List UInt8)):(strCells l).length=l.length:=by simp[strCells]
variable {w:World}
theorem zaN{sv:Value}{n:Nat}{e:TypeId}{xs:List Value}(h:w.ownsRow 0 e 1 sv n xs):∃ sp cap g,sv=.slice sp n cap/\xs.length=n/\(0<n->sp=some ⟨g,0,none⟩)/\(0<n->sv.ownBlock=some g)/\∀ j v,xs[j]?=some v->w.cell? ⟨g,j,none⟩=some v:=by
 obtain ⟨h1,h2⟩:=h;rcases h2 with ⟨rfl,rfl⟩|⟨g,cap,cur,rfl,hg,hb,r⟩
 ·refine ⟨none,0,0,rfl,by simpa using h1,fun h=>absurd h (by omega),fun h=>absurd h (by omega),fun j v hv=>?_⟩;have:=(zxH.1 hv).1;omega
 ·refine ⟨some ⟨g,0,none⟩,cap,g,rfl,by simpa using h1,fun _=>rfl,fun _=>rfl,fun j v hv=>?_⟩;have hc:w.ownsRow 0 e 1 (.slice (some ⟨g,0,none⟩) n cap) n xs:=⟨h1,.inr ⟨g,cap,cur,rfl,hg,hb,r⟩⟩;have:=hc.cells (g:=g) rfl j v hv;simpa [zbb] using this
def zng (zac:List Cp.Nm) (x:Cp.Nm):Int:=match Cp.za8 zac x with|some i=>i|none=>-1
theorem ztj(a b:List UInt8):((⟨a.toArray⟩:ByteArray).toList == (⟨b.toArray⟩:ByteArray).toList)=(a == b):=by
 rw[ByteArray.toList_eq,ByteArray.toList_eq]
theorem zrh{zac:List Cp.Nm}{x:Cp.Nm}{c:Nat}(h:zac[c]?=some x):Cp.zcp zac x (c+1)=some c:=by rw[Cp.zcp,if_pos h]
theorem zpC{zac:List Cp.Nm}{x:Cp.Nm}{c:Nat}(h:¬ zac[c]?=some x):Cp.zcp zac x (c+1)=Cp.zcp zac x c:=by rw[Cp.zcp,if_neg h]
theorem zgT{base d:Nat}{W:World}(h:W.heap[d]?=some (.deferred (some [])))(hb:base<=d):Marks base W [{ target:=.collected d,args:=#[] }]:=
 ⟨[d],rfl,by simp,fun d' hd'=>by simp only[zyk,zyU,or_false]at hd';subst hd';exact ⟨hb,h⟩⟩
theorem znt{Z:Nat->Prop}{cb bb:Nat}{rv sv kv:Value}{fns:List Cp.Nm}{q:Cp.Bs}(h:BS Z w cb bb rv sv kv fns q)(x:Cp.Nm)(hl:q.zac.length<=1000000000):
  Calls Tryz.prog 149 #[.pointer (some ⟨bb,0,none⟩),.string ⟨x.toArray⟩] w fun e w'=>e=.returned (.int .i64 (zng q.zac x))/\Fr (fun _=>False) w w':=by
 obtain ⟨sp,cap,g,hsv,hxl,hsp,hob,hcl⟩:=zaN h.ziJ;have c1:=Blk.cell h.zbW 1;simp at c1;have hbl:=h.zbW.lt;subst hsv;have hgl:0<q.zac.length->g<w.heap.size:=fun h0=>h.slt g (hob h0)
 have HCL:=zab hcl;have HGL:=zab hgl;have eg:=enters_of (P:=Tryz.prog) Tryz.func257 (by kernel_rfl) rfl;have HE:=zab eg;clear h hcl hgl hob eg;refine callsIn_wide.1 (callsIn_of_wp_marks (n:=5) Tryz.func149 rfl trivial (wpIn_wide.2 ?_) rfl);simp only[Tryz.ntmps149,zyw,zx3,zyi,Nat.reduceAdd,Nat.reduceSub,zyu,zyv,zyD,zyA,zx7,zx5];obtain ⟨Q,hQ⟩:∃ Q,bodyPostM Fence.wide 5 Tryz.prog Tryz.f149 (fun e w'=>e=.returned (.int .i64 (zng q.zac x))/\Fr (fun _=>False) w w')=Q:=⟨_,rfl⟩;have HQ:=zab hQ;rw[hQ];clear hQ;have n0:w.heap.size≠bb:=by omega
 have n1:w.heap.size+1≠bb:=by omega
 go_wp2_with fail
 refine (znT sp q.zac.length cap _).mono ?_;rintro e w2 ⟨rfl,hw2⟩;simp only[World.size_alloc]at hw2 ⊢;have F2:Hid (Fr (fun _=>False) w w2):=zab (by rw[hw2];exact (((Fr.refl _ _).alloc _).alloc _).alloc _);have BN:Hid (Blk w2 w.heap.size [.string ⟨x.toArray⟩] 9):=zab (by rw[hw2];exact Fr.blk (K:=fun _=>False) (Blk.new w [.string ⟨x.toArray⟩] 9) (((Fr.refl _ _).alloc _).alloc _) (by simp));have BR:Hid (Blk w2 (w.heap.size+1) [.int .i64 0] 3):=zab (by
  rw[hw2];have:=Blk.new (w.alloc (.cells #[.string ⟨x.toArray⟩] 9)) [.int .i64 0] 3;rw[World.size_alloc]at this;exact Fr.blk (K:=fun _=>False) this ((Fr.refl _ _).alloc _) (by simp))
 have BB:Hid (Blk w2 (w.heap.size+2) [.slice sp q.zac.length cap] 38):=zab (by
  rw[hw2];have:=Blk.new ((w.alloc (.cells #[.string ⟨x.toArray⟩] 9)).alloc (.cells #[.int .i64 0] 3)) [.slice sp q.zac.length cap] 38;rw[World.size_alloc,World.size_alloc]at this;exact this)
 have HS2:Hid (w2.heap.size=w.heap.size+3):=zab (by rw[hw2];simp);clear hw2 c1 n0 n1;go_wp2_with fail
 have hvl:(strCells q.zac).length=q.zac.length:=zdB _;have hit:Iter 257 (w.heap.size+2) cap sp g (strCells q.zac):=fun l J Jr hY hJc W h0=>znD l _ cap sp g (strCells q.zac) (by omega) (fun h0=>hsp (by omega)) J Jr hY hJc W h0
 obtain ⟨J,hJ⟩:∃ J:Nat->World->Prop,∀ i W,J i W↔(Fr (fun _=>False) w2 W/\i<=q.zac.length/\Cp.zcp q.zac x (q.zac.length-i)=Cp.za8 q.zac x):=⟨_,fun _ _=>zzs⟩;obtain ⟨Jr,hJr⟩:∃ Jr:World->Prop,∀ W,Jr W↔(Fr (fun k=>k=w.heap.size+1) w2 W/\∃ c:Nat,Cp.za8 q.zac x=some c/\Blk W (w.heap.size+1) [.int .i64 c] 3):=⟨_,fun _=>zzs⟩;have HJ:=zab hJ;have HJR:=zab hJr;clear hJ hJr;refine zpq HE.o hit rfl J Jr ?hall ?hput ?hputr ?h0 ?hJc ?hround ?hdone ?hret
 case hall=>exact fun i W o hW=>(HJ.o _ _).2 ⟨((HJ.o _ _).1 hW).1.alloc _,((HJ.o _ _).1 hW).2⟩
 case hput=>exact fun i W l xo o hW hl hx hc=>(HJ.o _ _).2 ⟨((HJ.o _ _).1 hW).1.putObj _ hl,((HJ.o _ _).1 hW).2⟩
 case hputr=>
  intro W l xo o hW hl hx hc;obtain ⟨h1,c,h2,h3⟩:=(HJR.o W).1 hW;exact (HJR.o _).2 ⟨h1.putObj _ hl,c,h2,h3.putObj hx hc _⟩
 case h0=>exact (HJ.o _ _).2 ⟨Fr.refl _ _,zx1 _,rfl⟩
 case hJc=>
  intro i W hW;obtain ⟨h1,h2,h3⟩:=(HJ.o i W).1 hW;refine ⟨?_,fun j v hv=>?_⟩
  ·rw[hvl];simpa using Blk.cell (Fr.blk BB.o h1 (by simp)) 0
  ·have h4:=HCL.o j v hv;have hj:=(zxH.1 hv).1;exact (World.cell?_of_block (a:=⟨g,j,none⟩) (w:=w) ((F2.o.trans h1).block g (HGL.o (by omega)) (by simp))).trans h4
 case hdone=>
  intro W hW hD;obtain ⟨h1,h2,h3⟩:=(HJ.o _ W).1 hW;have hsl:Cp.za8 q.zac x=none:=by
   rw[<-h3,hvl,zzp];rfl
  have hsv:zng q.zac x=-1:=by unfold zng;rw[hsl]
  have BRW:=zab (Fr.blk BR.o h1 (by simp));have r0:=Blk.cell BRW.o 0;have rf:=Blk.frozen BRW.o 0;simp at r0;have H1:=zab h1;have HD:=zab hD;clear h1 h2 h3 hD;go_wp2_with fail
  rw[<-HQ.o];have hs2:=HS2.o;refine zcc (base:=w.heap.size) (I:=fun W'=>Fr (fun _=>False) w W'/\Blk W' (w.heap.size+1) [.int .i64 (-1)] 3) (by simp) (fun W' d hW' hd hdd=>⟨hW'.1.putObj _ hd,hW'.2.putObj hdd (by simp) _⟩) (fun W' hW'=>?_) (zgT ?_ (by omega)) ⟨(F2.o.trans H1.o).set _ _ (.inr (zy4 _)),BRW.o.set 0 _⟩
  ·have r:=Blk.cell hW'.2 0;simp at r;refine ⟨.int .i64 (-1),?_,by rw[hsv],hW'.1⟩;simp[results,Tryz.results149,go_sem,r]
  ·rw[Below.heap_setCell _ _ _ _ (by simp;omega)];exact HD.o
 case hret=>
  intro W hW hD;obtain ⟨h1,c,h2,h3⟩:=(HJR.o W).1 hW;have hsv:zng q.zac x=c:=by unfold zng;rw[h2]
  show Q _ _ _;rw[<-HQ.o];have hs2:=HS2.o;refine zcc (base:=w.heap.size) (I:=fun W'=>Fr (fun _=>False) w W'/\Blk W' (w.heap.size+1) [.int .i64 c] 3) (by simp) (fun W' d hW' hd hdd=>⟨hW'.1.putObj _ hd,hW'.2.putObj hdd (by simp) _⟩) (fun W' hW'=>?_) (zgT hD (by omega)) ⟨F2.o.drop h1 (fun i hi=>by omega),h3⟩;have r:=Blk.cell hW'.2 0;simp at r;refine ⟨.int .i64 c,?_,by rw[hsv],hW'.1⟩;simp[results,Tryz.results149,go_sem,r]
 case hround=>
  intro l i c v W hJ hci hv;obtain ⟨y,hy,rfl⟩:=zj3 hv;rw[hvl]at hci;have HSG:Hid (∀ W2,J i W2->Cp.zcp q.zac x (c+1)=Cp.za8 q.zac x):=zab (fun W2 h2=>by
   obtain ⟨_,_,h3⟩:=(HJ.o i W2).1 h2
   rwa [show q.zac.length-i=c+1 by omega]at h3)
  have HYC:=zab hy;clear hv hJ hy;simp only[zxK,zxV,zxS]
  gi_wp2
  refine ⟨trivial,?_⟩;intro W2 h2 hD hlp;obtain ⟨h1,hi,h3⟩:=(HJ.o i W2).1 h2;have hsg:=HSG.o W2 h2;have b0:W2.cell? ⟨w.heap.size,0,none⟩=some (.string ⟨x.toArray⟩):=by simpa using Blk.cell (Fr.blk BN.o h1 (by simp)) 0
  have BRW:=zab (Fr.blk BR.o h1 (by simp));have r0:=Blk.cell BRW.o 0;have rf:=Blk.frozen BRW.o 0;simp at r0;have HSG2:=zab hsg;have H1:=zab h1;have hs2:=HS2.o;have HKP:Hid (∀ u:Value,(W2.setCell ⟨w.heap.size+1,0,none⟩ u).heap[w2.heap.size]?=W2.heap[w2.heap.size]?/\(W2.setCell ⟨w.heap.size+1,0,none⟩ u).heap[w2.heap.size+1]?=W2.heap[w2.heap.size+1]?):=
   zab (fun u=>⟨Below.heap_setCell _ _ _ _ (by simp;omega),Below.heap_setCell _ _ _ _ (by simp;omega)⟩)
  clear hs2 hsg h1 h3 h2 hD hlp;have hbe:=ztj y x;by_cases hyx:y=x
  ·subst hyx;rw[show (y == y)=true by simp]at hbe
   gi_wp2
   refine ⟨(HJR.o _).2 ⟨(H1.o.mono (fun _ h=>h.elim)).set _ _ (.inl rfl),c,?_,BRW.o.set 0 _⟩,HKP.o _⟩;rw[<-HSG2.o];exact zrh HYC.o
  ·have hb2:(y == x)=false:=by simpa using hyx
   rw[hb2]at hbe;have hb3:((⟨y.toArray⟩:ByteArray)=⟨x.toArray⟩)=False:=by
    simp only[eq_iff_iff,iff_false];intro e;exact hyx (by simpa using congrArg (fun b:ByteArray=>b.data.toList) e)
   gi_wp2
   refine ⟨(HJ.o _ _).2 ⟨H1.o,by omega,?_⟩,rfl,rfl⟩;rw[show q.zac.length-(i+1)=c by omega,<-HSG2.o];refine (zpC ?_).symm;rw[HYC.o];simpa using hyx
end Go.Proofs.YtgahgkddaljmkaaGreatDoor
