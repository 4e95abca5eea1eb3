/- Mach43 .. Cmp4 -/
import Derived.Test.YtgahgkddaljmkaaGreatDoorW17
set_option maxRecDepth 100000
set_option maxHeartbeats 4000000
namespace Go.Proofs.YtgahgkddaljmkaaGreatDoor
open Tryz
open Go.RowKit
attribute [local go_sem ↓] Go.wp_at_zero Go.wp_at_succ
def MSt.told (m:MSt):Option (Int × Int × Int × Int):=
 match m.s.nodeAt 0 with
 |none=>none
 |some (a,y)=>
  if y%16=0 then (match m.s.ws[a+1]? with|none=>none|some v=>some (1,v,0,0))
  else if y%16=1 then some (2,0,y/65536,y/16%4096)
  else some (3,0,0,0)
variable {w:World}
theorem zpF{mb wb:Nat}{fv:Value}{m:MSt}{k n t a:Int}(h:MAt w mb wb fv m)(ht:m.told=some (k,n,t,a)):
  Calls prog 48 #[.pointer (some ⟨mb,0,none⟩)] w fun e w'=>e=.returned (ziu k n t a)/\Fr (fun _=>False) w w':=by
 unfold MSt.told at ht;split at ht
 ·cases ht
 ·next b y hn=>
  split at ht
  ·next h0=>
   split at ht
   ·cases ht
   ·next v hv=>cases ht;exact zkF h hn h0 hv
  ·next h0=>
   split at ht
   ·next h1=>cases ht;exact zn4 h hn h1
   ·next h1=>cases ht;exact zmB h hn h0 h1
def MSt.new (pv:Value) (nf main words fuel:Nat):MSt:=⟨⟨List.replicate words 0,words/2,0,0,words/2⟩,⟨pv,nf,main,fuel,0,0⟩,[]⟩
def runM (pv:Value) (cd:List (Nat × List Ins)) (nf main words fuel g:Nat):Option (Int × Int × Int × Int):=
 match (MSt.new pv nf main words fuel).start (cd.map Prod.fst) with
 |none=>none
 |some (.error k)=>some (k,0,0,0)
 |some (.ok m1)=>
  match MSt.work cd g m1 with
  |none=>none
  |some (.error k)=>some (k,0,0,0)
  |some (.ok m2)=>m2.told
def zqc (w:World) (pv:Value) (cd:List (Nat × List Ins)):Prop:=∀ mb wb,w.heap.size<=mb->w.heap.size<=wb->CAt w mb wb (.slice none 0 0) pv cd
theorem Fr.drop{K:Nat->Prop}{a b:World}(h:Fr (fun _=>False) w a)(k:Fr K a b)(hK:∀ i,i<w.heap.size->¬ K i):Fr (fun _=>False) w b:=
 ⟨k.os.trans h.os,k.tape.trans h.tape,k.output.trans h.output,zyR h.size k.size,fun i hi _=>(k.block i (zyS hi h.size) (hK i hi)).trans (h.block i hi (fun e=>e))⟩
theorem znW:∀ {k i:Nat} {m m':MSt},MSt.zbm i k m=some (.ok m')->m'.o.pb=m.o.pb
 |0,_,_,_,h=>by cases h;rfl
 |k+1,i,m,m',h=>by
  rw[MSt.zbm]at h;refine zb4 (fun m1 h1=>?_) h;split at h1
  ·cases h1
  ·have:=znW h1;exact this
theorem zwl{m m':MSt}{sl:List Nat}(h:m.start sl=some (.ok m')):m'.o.pb=m.o.pb:=by
 unfold MSt.start at h;split at h
 ·cases h
 ·cases h
 ·next m1 hl=>
  rw[<-znW hl];refine zb4 (fun m2 h2=>?_) h;split at h2
  ·cases h2
  ·split at h2
   ·cases h2
   ·split at h2
    ·cases h2
    ·have:=zqo h2;exact this
theorem zuU{P:Program}{c:Code}{K:Act->World->Prop}{Q:Exit->Act->World->Prop}{a:Act}(h:c.wp P (Exit.then K (fun _ _ _=>False)) a w):c.wp P (Exit.then K Q) a w:=
 wp_mono h fun e _ _ hq=>by cases e <;> first|exact hq|exact hq.elim
theorem ztG{wc:World}{mb wb pb cap l nf main words fuel:Nat}(hm:Blk wc mb [.slice (some ⟨wb,0,none⟩) words words,.int .i64 ((words:Int)/2),.int .i64 0,.int .i64 0,.int .i64 ((words:Int)/2),.slice (some ⟨pb,0,none⟩) l cap,.int .i64 nf,.int .i64 main,.slice none 0 0,.int .i64 fuel,.int .i64 0,.int .i64 0] 81)(hw:Blk wc wb (zdG (List.replicate words 0)) 2)(aH:mb≠wb)(oh:words<=1000000)(pW:fuel<=1000000000):MAt wc mb wb (.slice none 0 0) (MSt.new (.slice (some ⟨pb,0,none⟩) l cap) nf main words fuel):=by
 refine ⟨⟨?_,hw,aH,by simpa [MSt.new] using oh,by simp only[MSt.new];omega,by simp[MSt.new],by simp[MSt.new],by simp only[MSt.new];omega⟩,.inl ⟨rfl,rfl⟩,by simp[MSt.new],pW⟩;have e:((words/2:Nat):Int)=(words:Int)/2:=by omega
 simp only[MSt.new,zil,zeu,zzz,e,zy7,zzb,Int.natCast_zero];exact hm
theorem zxI{pv:Value}{cd:List (Nat × List Ins)}{nf main words fuel g:Nat}{k n t a:Int}(hC:zqc w pv cd)(jZ:nf<=1000000)(oh:words<=1000000)(pW:fuel<=1000000000)(hr:runM pv cd nf main words fuel g=some (k,n,t,a)):
  Calls prog 34 #[.agg #[pv,.int .i64 nf,.int .i64 main],.int .i64 words,.int .i64 fuel] w fun e w'=>e=.returned (ziu k n t a)/\Fr (fun _=>False) w w':=by
 have mc:∀ (fn:Fn) (first cap:Array Value) (w:World),(Instr.makeFunc fn first cap).run prog w=.ok (.func fn first cap) w:=fun _ _ _ _=>rfl
 have HC:=zab hC;obtain ⟨pb,cap,eD⟩:∃ pb cap,pv=.slice (some ⟨pb,0,none⟩) cd.length cap:=by obtain ⟨pb,cap,eD,_⟩:=hC _ _ (zyN _) (zyN _);exact ⟨pb,cap,eD⟩
 subst eD;have HR:=zab hr;have Fp:(words:Int)<=1000000:=by omega
 clear hC hr
 go_enter_defers func34,ntmps34
 go_wp2_with fail
 have BP:Hid (Blk ((w.alloc (.cells #[.slice (some ⟨pb,0,none⟩) cd.length cap,.int .i64 nf,.int .i64 main] 66)).alloc (.cells #[.int .i64 0,.int .i64 0,.int .i64 0,.int .i64 0] 35)) w.heap.size [.slice (some ⟨pb,0,none⟩) cd.length cap,.int .i64 nf,.int .i64 main] 66):=
  zab (Fr.blk (K:=fun _=>False) (Blk.new w [.slice (some ⟨pb,0,none⟩) cd.length cap,.int .i64 nf,.int .i64 main] 66) ((Fr.refl _ _).alloc _) (by simp))
 have BO:Hid (Blk ((w.alloc (.cells #[.slice (some ⟨pb,0,none⟩) cd.length cap,.int .i64 nf,.int .i64 main] 66)).alloc (.cells #[.int .i64 0,.int .i64 0,.int .i64 0,.int .i64 0] 35)) (w.heap.size+1) [.int .i64 0,.int .i64 0,.int .i64 0,.int .i64 0] 35):=
  zab (by have:=Blk.new (w.alloc (.cells #[.slice (some ⟨pb,0,none⟩) cd.length cap,.int .i64 nf,.int .i64 main] 66)) [.int .i64 0,.int .i64 0,.int .i64 0,.int .i64 0] 35;rwa [World.size_alloc]at this)
 have F1:Hid (Fr (fun _=>False) w ((w.alloc (.cells #[.slice (some ⟨pb,0,none⟩) cd.length cap,.int .i64 nf,.int .i64 main] 66)).alloc (.cells #[.int .i64 0,.int .i64 0,.int .i64 0,.int .i64 0] 35))):=zab (((Fr.refl _ _).alloc _).alloc _);have uj:Hid (((w.alloc (.cells #[.slice (some ⟨pb,0,none⟩) cd.length cap,.int .i64 nf,.int .i64 main] 66)).alloc (.cells #[.int .i64 0,.int .i64 0,.int .i64 0,.int .i64 0] 35)).heap.size=w.heap.size+2):=zab (by simp);generalize (w.alloc (.cells #[.slice (some ⟨pb,0,none⟩) cd.length cap,.int .i64 nf,.int .i64 main] 66)).alloc (.cells #[.int .i64 0,.int .i64 0,.int .i64 0,.int .i64 0] 35)=w1 at BP BO F1 uj ⊢;have p0:=Blk.cell BP.o 0;have p1:=Blk.cell BP.o 1;have p2:=Blk.cell BP.o 2;simp at p0 p1 p2
 go_cut [7] from 8 to 13 (fun v wc=>∃ bm mb wb,v=.pointer (some ⟨bm,0,none⟩)/\Blk wc bm [.pointer (some ⟨mb,0,none⟩)] 75/\MAt wc mb wb (.slice none 0 0) (MSt.new (.slice (some ⟨pb,0,none⟩) cd.length cap) nf main words fuel)/\Fr (fun _=>False) w1 wc/\w1.heap.size<=bm/\w1.heap.size<=mb/\w1.heap.size<=wb/\bm≠mb/\bm≠wb)
 case first=>
  refine zuU ?_;have yM:Hid (Fr (fun _=>False) w1 w1.drew):=zab (Fr.refl _ _).drew;have Dq:Hid (w1.drew.cell? ⟨w.heap.size,0,none⟩=some (.slice (some ⟨pb,0,none⟩) cd.length cap)/\w1.drew.cell? ⟨w.heap.size,1,none⟩=some (.int .i64 nf)/\w1.drew.cell? ⟨w.heap.size,2,none⟩=some (.int .i64 main)):=zab (by have hb:=Fr.blk BP.o yM.o (by simp);exact ⟨by simpa using Blk.cell hb 0,by simpa using Blk.cell hb 1,by simpa using Blk.cell hb 2⟩);refine wp_region_held_drew (S:=fun W=>W.cell? ⟨w.heap.size,0,none⟩=some (.slice (some ⟨pb,0,none⟩) cd.length cap)/\W.cell? ⟨w.heap.size,1,none⟩=some (.int .i64 nf)/\W.cell? ⟨w.heap.size,2,none⟩=some (.int .i64 main)) (by kernel_rfl) Dq.o (fun ax=>?_);refine wpAnyH_take (i:=0) (v:=?_) rfl (by kernel_rfl) (by kernel_rfl) (by kernel_rfl) (fun _ _ _ h=>h) (Or.inl ⟨by rfl,?_⟩) (by assumption) ?_
  rotate_left 1
  ·(intro w al;(try dsimp only at al);obtain ⟨eT,eU,jT⟩:=al;go_simp;try with_reducible rfl)
  try simp only[Act.put,zyO]
  refine wpAnyH_take (i:=1) (v:=?_) rfl (by kernel_rfl) (by kernel_rfl) (by kernel_rfl) (fun _ _ _ h=>h) (Or.inl ⟨by rfl,?_⟩) (by assumption) ?_
  rotate_left 1
  ·(intro w al;(try dsimp only at al);obtain ⟨eT,eU,jT⟩:=al;go_simp;try with_reducible rfl)
  try simp only[Act.put]
  refine wpAnyH_take (i:=3) (v:=?_) rfl (by kernel_rfl) (by kernel_rfl) (by kernel_rfl) (fun _ _ _ h=>h) (Or.inl ⟨by rfl,?_⟩) (by assumption) ?_
  rotate_left 1
  ·(intro w al;(try dsimp only at al);obtain ⟨eT,eU,jT⟩:=al;go_simp;try with_reducible rfl)
  try simp only[Act.put]
  refine wpAnyH_ready (rs:=[2,6]) (by kernel_rfl) (by simp) ?_;refine (AllReadyH.cons rfl (fun K hK=>?_) (AllReadyH.cons rfl (fun K hK=>?_) AllReadyH.nil))
  ·go_simp
   refine (zih oh).mono ?_;rintro e w2 ⟨rfl,aw,f2⟩;obtain ⟨ei,iR⟩:∃ ei,w1.drew.heap.size+1=ei:=⟨_,rfl⟩;rw[iR]at aw;have qj:Hid (Fr (fun _=>False) w1 w2):=zab (yM.o.trans f2);have uq:Hid (w1.heap.size<=ei):=zab (by rw[<-iR];exact zz8 _);have uv:=zab aw;have Dr:Hid (w2.cell? ⟨w.heap.size,0,none⟩=some (.slice (some ⟨pb,0,none⟩) cd.length cap)/\w2.cell? ⟨w.heap.size,1,none⟩=some (.int .i64 nf)/\w2.cell? ⟨w.heap.size,2,none⟩=some (.int .i64 main)):=zab (by have hb:=Fr.blk BP.o qj.o (by simp);exact ⟨by simpa using Blk.cell hb 0,by simpa using Blk.cell hb 1,by simpa using Blk.cell hb 2⟩);have pL:Hid (ei<w2.heap.size):=zab aw.lt
   try rw[iR]
   clear aw f2 iR;refine hK.out _ _ Dr.o (fun ax=>?_);clear hK K
   try simp only[Act.put,zyO,zyZ,zyW]
   refine wpAnyH_take (i:=4) (v:=?_) rfl (by kernel_rfl) (by kernel_rfl) (by kernel_rfl) (fun _ _ _ h=>h) (Or.inl ⟨by rfl,?_⟩) (by assumption) ?_
   rotate_left 1
   ·(intro w al;(try dsimp only at al);obtain ⟨eT,eU,jT⟩:=al;go_simp;try with_reducible rfl)
   try simp only[Act.put,zyO]
   refine wpAnyH_ready (rs:=[5,6]) (by kernel_rfl) (by simp) ?_;refine (AllReadyH.cons rfl (fun K hK=>?_) (AllReadyH.cons rfl (fun K hK=>?_) AllReadyH.nil))
   ·go_simp
    have mq:Hid (Fr (fun _=>False) w1 (w2.alloc (.cells #[.slice (some ⟨ei,0,none⟩) words words,.int .i64 ((words:Int)/2),.int .i64 0,.int .i64 0,.int .i64 ((words:Int)/2),.slice (some ⟨pb,0,none⟩) cd.length cap,.int .i64 nf,.int .i64 main,.slice none 0 0,.int .i64 fuel,.int .i64 0,.int .i64 0] 81))):=zab (qj.o.alloc _);have oH:=zab (Fr.blk (K:=fun _=>False) uv.o ((Fr.refl _ _).alloc (.cells #[.slice (some ⟨ei,0,none⟩) words words,.int .i64 ((words:Int)/2),.int .i64 0,.int .i64 0,.int .i64 ((words:Int)/2),.slice (some ⟨pb,0,none⟩) cd.length cap,.int .i64 nf,.int .i64 main,.slice none 0 0,.int .i64 fuel,.int .i64 0,.int .i64 0] 81)) (by simp));obtain ⟨cM,eu⟩:∃ cM,w2.heap.size=cM:=⟨_,rfl⟩;have mF:=zab (Blk.new w2 [.slice (some ⟨ei,0,none⟩) words words,.int .i64 ((words:Int)/2),.int .i64 0,.int .i64 0,.int .i64 ((words:Int)/2),.slice (some ⟨pb,0,none⟩) cd.length cap,.int .i64 nf,.int .i64 main,.slice none 0 0,.int .i64 fuel,.int .i64 0,.int .i64 0] 81);have qz:Hid (w1.heap.size<=cM):=zab (by rw[<-eu];exact qj.o.size);have kD:Hid (cM≠ei):=zab (by have:=uv.o.lt;omega);rw[eu]at mF
    try rw[eu]
    generalize w2.alloc (.cells #[.slice (some ⟨ei,0,none⟩) words words,.int .i64 ((words:Int)/2),.int .i64 0,.int .i64 0,.int .i64 ((words:Int)/2),.slice (some ⟨pb,0,none⟩) cd.length cap,.int .i64 nf,.int .i64 main,.slice none 0 0,.int .i64 fuel,.int .i64 0,.int .i64 0] 81)=w3 at mq oH mF ⊢;have wa:Hid (w3.cell? ⟨w.heap.size,0,none⟩=some (.slice (some ⟨pb,0,none⟩) cd.length cap)/\w3.cell? ⟨w.heap.size,1,none⟩=some (.int .i64 nf)/\w3.cell? ⟨w.heap.size,2,none⟩=some (.int .i64 main)):=zab (by have hb:=Fr.blk BP.o mq.o (by simp);exact ⟨by simpa using Blk.cell hb 0,by simpa using Blk.cell hb 1,by simpa using Blk.cell hb 2⟩);clear eu;refine hK.out _ _ wa.o (fun ax=>?_);clear hK K
    try simp only[Act.put,zyO,zyZ,zyW]
    refine wpAnyH_ready (rs:=[6]) (by kernel_rfl) (by simp) ?_;refine (AllReadyH.cons rfl (fun K hK=>?_) AllReadyH.nil)
    go_simp
    have kq:Hid (Fr (fun _=>False) w1 (w3.alloc (.cells #[.pointer none] 75))):=zab (mq.o.alloc _);have nD:=zab (Fr.blk (K:=fun _=>False) oH.o ((Fr.refl _ _).alloc (.cells #[.pointer none] 75)) (by simp));have kJ:=zab (Blk.new w3 [.pointer none] 75);have lP:Hid (w1.heap.size<=w3.heap.size):=zab mq.o.size;have nA:=zab (Fr.blk (K:=fun _=>False) mF.o ((Fr.refl _ _).alloc (.cells #[.pointer none] 75)) (by simp));have gM:Hid (cM≠w3.heap.size):=zab (by have:=mF.o.lt;omega);have gd:Hid (ei≠w3.heap.size):=zab (by have:=oH.o.lt;omega);obtain ⟨bm,iD⟩:∃ bm,w3.heap.size=bm:=⟨_,rfl⟩;rw[iD]at kJ lP gd gM
    try rw[iD]
    generalize w3.alloc (.cells #[.pointer none] 75)=w4 at kq nD kJ nA ⊢;have qO:Hid (w4.cell? ⟨w.heap.size,0,none⟩=some (.slice (some ⟨pb,0,none⟩) cd.length cap)/\w4.cell? ⟨w.heap.size,1,none⟩=some (.int .i64 nf)/\w4.cell? ⟨w.heap.size,2,none⟩=some (.int .i64 main)):=zab (by have hb:=Fr.blk BP.o kq.o (by simp);exact ⟨by simpa using Blk.cell hb 0,by simpa using Blk.cell hb 1,by simpa using Blk.cell hb 2⟩);clear iD;refine hK.out _ _ qO.o (fun ax=>?_);clear hK K
    try simp only[Act.put,zyO,zyZ,zyW]
    refine wpAnyH_ready (rs:=[7]) (by kernel_rfl) (by simp) ?_;refine (AllReadyH.cons rfl (fun K hK=>?_) AllReadyH.nil);have kK:=kJ;have qM:=nA;have qV:=nD;have v0:=Blk.cell kK.o 0;have vf:=Blk.frozen kK.o 0;simp at v0
    go_simp
    have nt:Hid (Fr (fun _=>False) w1 (w4.setCell ⟨bm,0,none⟩ (.pointer (some ⟨cM,0,none⟩)))):=zab (kq.o.set _ _ (.inr lP.o));have qR:Hid ((w4.setCell ⟨bm,0,none⟩ (.pointer (some ⟨cM,0,none⟩))).cell? ⟨w.heap.size,0,none⟩=some (.slice (some ⟨pb,0,none⟩) cd.length cap)/\(w4.setCell ⟨bm,0,none⟩ (.pointer (some ⟨cM,0,none⟩))).cell? ⟨w.heap.size,1,none⟩=some (.int .i64 nf)/\(w4.setCell ⟨bm,0,none⟩ (.pointer (some ⟨cM,0,none⟩))).cell? ⟨w.heap.size,2,none⟩=some (.int .i64 main)):=zab (by have hb:=Fr.blk BP.o nt.o (by simp);exact ⟨by simpa using Blk.cell hb 0,by simpa using Blk.cell hb 1,by simpa using Blk.cell hb 2⟩);have qT:=zab (kK.o.set 0 (.pointer (some ⟨cM,0,none⟩)));have qN:=zab (qM.o.other ⟨bm,0,none⟩ (.pointer (some ⟨cM,0,none⟩)) gM.o);have qW:=zab (qV.o.other ⟨bm,0,none⟩ (.pointer (some ⟨cM,0,none⟩)) gd.o);refine hK.out _ _ qR.o (fun ax=>?_);clear hK K
    try simp only[Act.put,zyO,zyZ,zyW]
    refine wpAnyH_done (by kernel_rfl) ?_ _;go_wp2_with fail
    go_meet
    case rel=>exact ⟨_,cM,ei,rfl,qT.o,ztG qN.o qW.o kD.o oh pW,nt.o,lP.o,qz.o,uq.o,fun e=>gM.o e.symm,fun e=>gd.o e.symm⟩
   ·go_simp
    have mr:Hid (Fr (fun _=>False) w1 (w2.alloc (.cells #[.pointer none] 75))):=zab (qj.o.alloc _);have oI:=zab (Fr.blk (K:=fun _=>False) uv.o ((Fr.refl _ _).alloc (.cells #[.pointer none] 75)) (by simp));have mG:=zab (Blk.new w2 [.pointer none] 75);have lP:Hid (w1.heap.size<=w2.heap.size):=zab qj.o.size;have gd:Hid (ei≠w2.heap.size):=zab (by have:=uv.o.lt;omega);obtain ⟨bm,iD⟩:∃ bm,w2.heap.size=bm:=⟨_,rfl⟩;rw[iD]at mG lP gd
    try rw[iD]
    generalize w2.alloc (.cells #[.pointer none] 75)=w3 at mr oI mG ⊢;have we:Hid (w3.cell? ⟨w.heap.size,0,none⟩=some (.slice (some ⟨pb,0,none⟩) cd.length cap)/\w3.cell? ⟨w.heap.size,1,none⟩=some (.int .i64 nf)/\w3.cell? ⟨w.heap.size,2,none⟩=some (.int .i64 main)):=zab (by have hb:=Fr.blk BP.o mr.o (by simp);exact ⟨by simpa using Blk.cell hb 0,by simpa using Blk.cell hb 1,by simpa using Blk.cell hb 2⟩);clear iD;refine hK.out _ _ we.o (fun ax=>?_);clear hK K
    try simp only[Act.put,zyO,zyZ,zyW]
    refine wpAnyH_ready (rs:=[5]) (by kernel_rfl) (by simp) ?_;refine (AllReadyH.cons rfl (fun K hK=>?_) AllReadyH.nil)
    go_simp
    have kt:Hid (Fr (fun _=>False) w1 (w3.alloc (.cells #[.slice (some ⟨ei,0,none⟩) words words,.int .i64 ((words:Int)/2),.int .i64 0,.int .i64 0,.int .i64 ((words:Int)/2),.slice (some ⟨pb,0,none⟩) cd.length cap,.int .i64 nf,.int .i64 main,.slice none 0 0,.int .i64 fuel,.int .i64 0,.int .i64 0] 81))):=zab (mr.o.alloc _);have nE:=zab (Fr.blk (K:=fun _=>False) oI.o ((Fr.refl _ _).alloc (.cells #[.slice (some ⟨ei,0,none⟩) words words,.int .i64 ((words:Int)/2),.int .i64 0,.int .i64 0,.int .i64 ((words:Int)/2),.slice (some ⟨pb,0,none⟩) cd.length cap,.int .i64 nf,.int .i64 main,.slice none 0 0,.int .i64 fuel,.int .i64 0,.int .i64 0] 81)) (by simp));obtain ⟨cM,eu⟩:∃ cM,w3.heap.size=cM:=⟨_,rfl⟩;have kH:=zab (Blk.new w3 [.slice (some ⟨ei,0,none⟩) words words,.int .i64 ((words:Int)/2),.int .i64 0,.int .i64 0,.int .i64 ((words:Int)/2),.slice (some ⟨pb,0,none⟩) cd.length cap,.int .i64 nf,.int .i64 main,.slice none 0 0,.int .i64 fuel,.int .i64 0,.int .i64 0] 81);have qz:Hid (w1.heap.size<=cM):=zab (by rw[<-eu];exact mr.o.size);have kD:Hid (cM≠ei):=zab (by have:=oI.o.lt;omega);rw[eu]at kH;have nB:=zab (Fr.blk (K:=fun _=>False) mG.o ((Fr.refl _ _).alloc (.cells #[.slice (some ⟨ei,0,none⟩) words words,.int .i64 ((words:Int)/2),.int .i64 0,.int .i64 0,.int .i64 ((words:Int)/2),.slice (some ⟨pb,0,none⟩) cd.length cap,.int .i64 nf,.int .i64 main,.slice none 0 0,.int .i64 fuel,.int .i64 0,.int .i64 0] 81)) (by simp));have gM:Hid (cM≠bm):=zab (by have:=mG.o.lt;omega)
    try rw[eu]
    generalize w3.alloc (.cells #[.slice (some ⟨ei,0,none⟩) words words,.int .i64 ((words:Int)/2),.int .i64 0,.int .i64 0,.int .i64 ((words:Int)/2),.slice (some ⟨pb,0,none⟩) cd.length cap,.int .i64 nf,.int .i64 main,.slice none 0 0,.int .i64 fuel,.int .i64 0,.int .i64 0] 81)=w4 at kt nE nB kH ⊢;have qP:Hid (w4.cell? ⟨w.heap.size,0,none⟩=some (.slice (some ⟨pb,0,none⟩) cd.length cap)/\w4.cell? ⟨w.heap.size,1,none⟩=some (.int .i64 nf)/\w4.cell? ⟨w.heap.size,2,none⟩=some (.int .i64 main)):=zab (by have hb:=Fr.blk BP.o kt.o (by simp);exact ⟨by simpa using Blk.cell hb 0,by simpa using Blk.cell hb 1,by simpa using Blk.cell hb 2⟩);clear eu;refine hK.out _ _ qP.o (fun ax=>?_);clear hK K
    try simp only[Act.put,zyO,zyZ,zyW]
    refine wpAnyH_ready (rs:=[7]) (by kernel_rfl) (by simp) ?_;refine (AllReadyH.cons rfl (fun K hK=>?_) AllReadyH.nil);have kK:=nB;have qM:=kH;have qV:=nE;have v0:=Blk.cell kK.o 0;have vf:=Blk.frozen kK.o 0;simp at v0
    go_simp
    have nt:Hid (Fr (fun _=>False) w1 (w4.setCell ⟨bm,0,none⟩ (.pointer (some ⟨cM,0,none⟩)))):=zab (kt.o.set _ _ (.inr lP.o));have qR:Hid ((w4.setCell ⟨bm,0,none⟩ (.pointer (some ⟨cM,0,none⟩))).cell? ⟨w.heap.size,0,none⟩=some (.slice (some ⟨pb,0,none⟩) cd.length cap)/\(w4.setCell ⟨bm,0,none⟩ (.pointer (some ⟨cM,0,none⟩))).cell? ⟨w.heap.size,1,none⟩=some (.int .i64 nf)/\(w4.setCell ⟨bm,0,none⟩ (.pointer (some ⟨cM,0,none⟩))).cell? ⟨w.heap.size,2,none⟩=some (.int .i64 main)):=zab (by have hb:=Fr.blk BP.o nt.o (by simp);exact ⟨by simpa using Blk.cell hb 0,by simpa using Blk.cell hb 1,by simpa using Blk.cell hb 2⟩);have qT:=zab (kK.o.set 0 (.pointer (some ⟨cM,0,none⟩)));have qN:=zab (qM.o.other ⟨bm,0,none⟩ (.pointer (some ⟨cM,0,none⟩)) gM.o);have qW:=zab (qV.o.other ⟨bm,0,none⟩ (.pointer (some ⟨cM,0,none⟩)) gd.o);refine hK.out _ _ qR.o (fun ax=>?_);clear hK K
    try simp only[Act.put,zyO,zyZ,zyW]
    refine wpAnyH_done (by kernel_rfl) ?_ _;go_wp2_with fail
    go_meet
    case rel=>exact ⟨_,cM,ei,rfl,qT.o,ztG qN.o qW.o kD.o oh pW,nt.o,lP.o,qz.o,uq.o,fun e=>gM.o e.symm,fun e=>gd.o e.symm⟩
  ·go_simp
   have tY:Hid (Fr (fun _=>False) w1 (w1.alloc (.cells #[.pointer none] 75)).drew):=zab ((Fr.refl _ _).alloc _).drew;have uu:=zab (Blk.new w1 [.pointer none] 75).drew;obtain ⟨bm,iD⟩:∃ bm,w1.heap.size=bm:=⟨_,rfl⟩;have lP:Hid (w1.heap.size<=bm):=zab (by omega);rw[show (w1.heap.size)=bm from iD]at uu
   try rw[iD]
   generalize (w1.alloc (.cells #[.pointer none] 75)).drew=w2 at tY uu ⊢;have Ds:Hid (w2.cell? ⟨w.heap.size,0,none⟩=some (.slice (some ⟨pb,0,none⟩) cd.length cap)/\w2.cell? ⟨w.heap.size,1,none⟩=some (.int .i64 nf)/\w2.cell? ⟨w.heap.size,2,none⟩=some (.int .i64 main)):=zab (by have hb:=Fr.blk BP.o tY.o (by simp);exact ⟨by simpa using Blk.cell hb 0,by simpa using Blk.cell hb 1,by simpa using Blk.cell hb 2⟩);clear iD;refine hK.out _ _ Ds.o (fun ax=>?_);clear hK K
   try simp only[Act.put,zyO,zyZ,zyW]
   refine wpAnyH_ready (rs:=[2]) (by kernel_rfl) (by simp) ?_;refine (AllReadyH.cons rfl (fun K hK=>?_) AllReadyH.nil)
   go_simp
   refine (zih oh).mono ?_;rintro e w3 ⟨rfl,aw,f2⟩;obtain ⟨ei,iR⟩:∃ ei,w2.heap.size+1=ei:=⟨_,rfl⟩;rw[iR]at aw;have oq:Hid (Fr (fun _=>False) w1 w3):=zab (tY.o.trans f2);have uq:Hid (w1.heap.size<=ei):=zab (by have:=tY.o.size;omega);have qU:=zab aw;have qS:=zab (Fr.blk uu.o f2 (by simp));have gd:Hid (ei≠bm):=zab (by have:=uu.o.lt;omega);have wg:Hid (w3.cell? ⟨w.heap.size,0,none⟩=some (.slice (some ⟨pb,0,none⟩) cd.length cap)/\w3.cell? ⟨w.heap.size,1,none⟩=some (.int .i64 nf)/\w3.cell? ⟨w.heap.size,2,none⟩=some (.int .i64 main)):=zab (by have hb:=Fr.blk BP.o oq.o (by simp);exact ⟨by simpa using Blk.cell hb 0,by simpa using Blk.cell hb 1,by simpa using Blk.cell hb 2⟩)
   try rw[iR]
   clear aw f2 iR;refine hK.out _ _ wg.o (fun ax=>?_);clear hK K
   try simp only[Act.put,zyO,zyZ,zyW]
   refine wpAnyH_take (i:=4) (v:=?_) rfl (by kernel_rfl) (by kernel_rfl) (by kernel_rfl) (fun _ _ _ h=>h) (Or.inl ⟨by rfl,?_⟩) (by assumption) ?_
   rotate_left 1
   ·(intro w al;(try dsimp only at al);obtain ⟨eT,eU,jT⟩:=al;go_simp;try with_reducible rfl)
   try simp only[Act.put,zyO]
   refine wpAnyH_ready (rs:=[5]) (by kernel_rfl) (by simp) ?_;refine (AllReadyH.cons rfl (fun K hK=>?_) AllReadyH.nil)
   go_simp
   have ku:Hid (Fr (fun _=>False) w1 (w3.alloc (.cells #[.slice (some ⟨ei,0,none⟩) words words,.int .i64 ((words:Int)/2),.int .i64 0,.int .i64 0,.int .i64 ((words:Int)/2),.slice (some ⟨pb,0,none⟩) cd.length cap,.int .i64 nf,.int .i64 main,.slice none 0 0,.int .i64 fuel,.int .i64 0,.int .i64 0] 81))):=zab (oq.o.alloc _);have nG:=zab (Fr.blk (K:=fun _=>False) qU.o ((Fr.refl _ _).alloc (.cells #[.slice (some ⟨ei,0,none⟩) words words,.int .i64 ((words:Int)/2),.int .i64 0,.int .i64 0,.int .i64 ((words:Int)/2),.slice (some ⟨pb,0,none⟩) cd.length cap,.int .i64 nf,.int .i64 main,.slice none 0 0,.int .i64 fuel,.int .i64 0,.int .i64 0] 81)) (by simp));obtain ⟨cM,eu⟩:∃ cM,w3.heap.size=cM:=⟨_,rfl⟩;have kI:=zab (Blk.new w3 [.slice (some ⟨ei,0,none⟩) words words,.int .i64 ((words:Int)/2),.int .i64 0,.int .i64 0,.int .i64 ((words:Int)/2),.slice (some ⟨pb,0,none⟩) cd.length cap,.int .i64 nf,.int .i64 main,.slice none 0 0,.int .i64 fuel,.int .i64 0,.int .i64 0] 81);have qz:Hid (w1.heap.size<=cM):=zab (by rw[<-eu];exact oq.o.size);have kD:Hid (cM≠ei):=zab (by have:=qU.o.lt;omega);rw[eu]at kI;have nC:=zab (Fr.blk (K:=fun _=>False) qS.o ((Fr.refl _ _).alloc (.cells #[.slice (some ⟨ei,0,none⟩) words words,.int .i64 ((words:Int)/2),.int .i64 0,.int .i64 0,.int .i64 ((words:Int)/2),.slice (some ⟨pb,0,none⟩) cd.length cap,.int .i64 nf,.int .i64 main,.slice none 0 0,.int .i64 fuel,.int .i64 0,.int .i64 0] 81)) (by simp));have gM:Hid (cM≠bm):=zab (by have:=qS.o.lt;omega)
   try rw[eu]
   generalize w3.alloc (.cells #[.slice (some ⟨ei,0,none⟩) words words,.int .i64 ((words:Int)/2),.int .i64 0,.int .i64 0,.int .i64 ((words:Int)/2),.slice (some ⟨pb,0,none⟩) cd.length cap,.int .i64 nf,.int .i64 main,.slice none 0 0,.int .i64 fuel,.int .i64 0,.int .i64 0] 81)=w4 at ku nG nC kI ⊢;have qQ:Hid (w4.cell? ⟨w.heap.size,0,none⟩=some (.slice (some ⟨pb,0,none⟩) cd.length cap)/\w4.cell? ⟨w.heap.size,1,none⟩=some (.int .i64 nf)/\w4.cell? ⟨w.heap.size,2,none⟩=some (.int .i64 main)):=zab (by have hb:=Fr.blk BP.o ku.o (by simp);exact ⟨by simpa using Blk.cell hb 0,by simpa using Blk.cell hb 1,by simpa using Blk.cell hb 2⟩);clear eu;refine hK.out _ _ qQ.o (fun ax=>?_);clear hK K
   try simp only[Act.put,zyO,zyZ,zyW]
   refine wpAnyH_ready (rs:=[7]) (by kernel_rfl) (by simp) ?_;refine (AllReadyH.cons rfl (fun K hK=>?_) AllReadyH.nil);have kK:=nC;have qM:=kI;have qV:=nG;have v0:=Blk.cell kK.o 0;have vf:=Blk.frozen kK.o 0;simp at v0
   go_simp
   have nt:Hid (Fr (fun _=>False) w1 (w4.setCell ⟨bm,0,none⟩ (.pointer (some ⟨cM,0,none⟩)))):=zab (ku.o.set _ _ (.inr lP.o));have qR:Hid ((w4.setCell ⟨bm,0,none⟩ (.pointer (some ⟨cM,0,none⟩))).cell? ⟨w.heap.size,0,none⟩=some (.slice (some ⟨pb,0,none⟩) cd.length cap)/\(w4.setCell ⟨bm,0,none⟩ (.pointer (some ⟨cM,0,none⟩))).cell? ⟨w.heap.size,1,none⟩=some (.int .i64 nf)/\(w4.setCell ⟨bm,0,none⟩ (.pointer (some ⟨cM,0,none⟩))).cell? ⟨w.heap.size,2,none⟩=some (.int .i64 main)):=zab (by have hb:=Fr.blk BP.o nt.o (by simp);exact ⟨by simpa using Blk.cell hb 0,by simpa using Blk.cell hb 1,by simpa using Blk.cell hb 2⟩);have qT:=zab (kK.o.set 0 (.pointer (some ⟨cM,0,none⟩)));have qN:=zab (qM.o.other ⟨bm,0,none⟩ (.pointer (some ⟨cM,0,none⟩)) gM.o);have qW:=zab (qV.o.other ⟨bm,0,none⟩ (.pointer (some ⟨cM,0,none⟩)) gd.o);refine hK.out _ _ qR.o (fun ax=>?_);clear hK K
   try simp only[Act.put,zyO,zyZ,zyW]
   refine wpAnyH_done (by kernel_rfl) ?_ _;go_wp2_with fail
   go_meet
   case rel=>exact ⟨_,cM,ei,rfl,qT.o,ztG qN.o qW.o kD.o oh pW,nt.o,lP.o,qz.o,uq.o,fun e=>gM.o e.symm,fun e=>gd.o e.symm⟩
 case rest=>
  obtain ⟨bm,mb,wb,rfl,tx,hm,ak,h1,h2,h3,iK,jq⟩:=hcut;have aW:=uj.o;have kA:=zab (F1.o.trans ak);have jV:CAt wc mb wb (.slice none 0 0) (.slice (some ⟨pb,0,none⟩) cd.length cap) cd:=(HC.o mb wb (by omega) (by omega)).fr (kA.o.mono (fun _ h=>h.elim));have mx:=zab jV;have HM:=zab hm;have vd:=zab tx;have vg:=zab (Fr.blk BO.o ak (by simp));have nu:Hid (w.heap.size+1≠mb/\w.heap.size+1≠bm):=zab (by omega);have lU:Hid (w.heap.size+1<wc.heap.size/\bm<wc.heap.size/\w.heap.size<mb/\w.heap.size<wb/\w.heap.size+1<mb/\w.heap.size+1<wb):=zab (by have:=ak.size;have:=tx.lt;omega);have b0:=Blk.cell tx 0;simp at b0;have hr:=HR.o;unfold runM at hr;clear jV tx ak hm p0 p1 p2 aW h1 h2 h3 BP;split at hr
  ·cases hr
  ·next j dY=>
   cases hr;have CS:=zab (zon HM.o mx.o.zac rfl rfl jZ dY);clear dY;go_wp2_with fail
   refine CS.o.mono ?_;rintro e w2 ⟨f2,rfl,fv,m',fO,dB⟩;have oj:=zab (Fr.blk vd.o f2 (by rintro (e|e);exact iK e;exact jq e));have qi:=zab (Fr.blk vg.o f2 (by have:=lU.o;rintro (e|e) <;> omega));have ql:=zab (kA.o.drop f2 (fun i hi=>by have:=lU.o;rintro (e|e) <;> omega));have kP:=fO.sat.blk;have aj:=lU.o;simp only[zil,zy7,zzb]at kP;refine leaves_cons (f:=45) (args:=#[.pointer (some ⟨bm,0,none⟩),.pointer (some ⟨w.heap.size+1,0,none⟩)]) (by simp) (by simp[go_sem]) ?_;refine (zgd bm (w.heap.size+1) mb _ _ _ _ _ _ _ _ _ _ _ _ _ oj.o kP qi.o iK nu.o.1 nu.o.2).mono ?_;rintro e u' w9 ⟨rfl,rfl,jC,ff⟩;have r0:=Blk.cell jC 0;have r1:=Blk.cell jC 1;have r2:=Blk.cell jC 2;have r3:=Blk.cell jC 3;simp at r0 r1 r2 r3;refine ⟨ziu _ 0 0 0,?_,rfl,?_⟩
   ·simp[results,Tryz.results34,go_sem,r0,r1,r2,r3,ziu]
   ·exact ql.o.drop ff (fun i hi=>by rintro (e|e) <;> omega)
  ·next m1 dY=>
   have CS:=zab (zon HM.o mx.o.zac rfl rfl jZ dY);have iN:=zwl dY;split at hr
   ·cases hr
   ·next j tB=>
    cases hr;have vW:=zab tB;have lV:Hid (m1.o.pb=.slice (some ⟨pb,0,none⟩) cd.length cap):=zab iN;clear dY tB iN;go_wp2_with fail
    refine CS.o.mono ?_;rintro e w2 ⟨f2,rfl,fv,jo,dB⟩;have oj:=zab (Fr.blk vd.o f2 (by rintro (e|e);exact iK e;exact jq e));have qi:=zab (Fr.blk vg.o f2 (by have:=lU.o;rintro (e|e) <;> omega));have ql:=zab (kA.o.drop f2 (fun i hi=>by have:=lU.o;rintro (e|e) <;> omega));have fJ:=mx.o.mv f2 dB;rw[<-lV.o]at fJ;have CW:=zab (zq2 jo fJ vW.o);have du:=zab dB;have c2:=Blk.cell oj.o 0;simp at c2;clear f2 jo dB fJ b0;go_wp2_with fail
    refine CW.o.mono ?_;rintro e w3 ⟨f3,rfl,m',fO⟩;have dB:=du.o;have aj:=lU.o;have tU:=zab (Fr.blk oj.o f3 (by rintro (e|e|e);exact iK e;exact jq e;have:=dB _ e;omega));have ve:=zab (Fr.blk qi.o f3 (by rintro (e|e|e);omega;omega;have:=dB _ e;omega));have vm:=zab (ql.o.drop f3 (fun i hi=>by rintro (e|e|e);omega;omega;have:=dB _ e;omega));have kP:=fO.sat.blk;simp only[zil,zy7,zzb]at kP;refine leaves_cons (f:=45) (args:=#[.pointer (some ⟨bm,0,none⟩),.pointer (some ⟨w.heap.size+1,0,none⟩)]) (by simp) (by simp[go_sem]) ?_;refine (zgd bm (w.heap.size+1) mb _ _ _ _ _ _ _ _ _ _ _ _ _ tU.o kP ve.o iK nu.o.1 nu.o.2).mono ?_;rintro e u' w9 ⟨rfl,rfl,jC,ff⟩;have r0:=Blk.cell jC 0;have r1:=Blk.cell jC 1;have r2:=Blk.cell jC 2;have r3:=Blk.cell jC 3;simp at r0 r1 r2 r3;refine ⟨ziu _ 0 0 0,?_,rfl,?_⟩
    ·simp[results,Tryz.results34,go_sem,r0,r1,r2,r3,ziu]
    ·exact vm.o.drop ff (fun i hi=>by rintro (e|e) <;> omega)
   ·next m2 tB=>
    have vW:=zab tB;have lV:Hid (m1.o.pb=.slice (some ⟨pb,0,none⟩) cd.length cap):=zab iN;have C4:=zab hr;clear dY tB iN hr;go_wp2_with fail
    refine CS.o.mono ?_;rintro e w2 ⟨f2,rfl,fv,jo,dB⟩;have oj:=zab (Fr.blk vd.o f2 (by rintro (e|e);exact iK e;exact jq e));have qi:=zab (Fr.blk vg.o f2 (by have:=lU.o;rintro (e|e) <;> omega));have ql:=zab (kA.o.drop f2 (fun i hi=>by have:=lU.o;rintro (e|e) <;> omega));have fJ:=mx.o.mv f2 dB;rw[<-lV.o]at fJ;have CW:=zab (zq2 jo fJ vW.o);have du:=zab dB;have c2:=Blk.cell oj.o 0;simp at c2;clear f2 jo dB fJ b0;go_wp2_with fail
    refine CW.o.mono ?_;rintro e w3 ⟨f3,rfl,sH⟩;have dB:=du.o;have aj:=lU.o;have tU:=zab (Fr.blk oj.o f3 (by rintro (e|e|e);exact iK e;exact jq e;have:=dB _ e;omega));have ve:=zab (Fr.blk qi.o f3 (by rintro (e|e|e);omega;omega;have:=dB _ e;omega));have vm:=zab (ql.o.drop f3 (fun i hi=>by rintro (e|e|e);omega;omega;have:=dB _ e;omega));have y4:=zab sH;have c3:=Blk.cell tU.o 0;simp at c3;clear f3 sH c2 dB aj;go_wp2_with fail
    refine (zpF y4.o C4.o).mono ?_;rintro e w4 ⟨rfl,f4⟩;have Bi:=zab (Fr.blk tU.o f4 (by simp));have mj:=zab (Fr.blk ve.o f4 (by simp));have Bw:=zab (vm.o.trans f4);have Dk:=zab (Fr.blk y4.o.sat.blk f4 (by simp));have o0:=Blk.cell mj.o 0;have o1:=Blk.cell mj.o 1;have o2:=Blk.cell mj.o 2;have o3:=Blk.cell mj.o 3;simp at o0 o1 o2 o3;have g0:=Blk.frozen mj.o 0;have g1:=Blk.frozen mj.o 1;have g2:=Blk.frozen mj.o 2;have g3:=Blk.frozen mj.o 3;clear f4 c3;unfold ziu;go_wp2_with fail
    have cE:=(((mj.o.set 0 (.int .i64 k)).set 1 (.int .i64 n)).set 2 (.int .i64 t)).set 3 (.int .i64 a);have By:=(((Bw.o.set ⟨w.heap.size+1,0,none⟩ (.int .i64 k) (.inr (zz8 _))).set ⟨w.heap.size+1,1,none⟩ (.int .i64 n) (.inr (zz8 _))).set ⟨w.heap.size+1,2,none⟩ (.int .i64 t) (.inr (zz8 _))).set ⟨w.heap.size+1,3,none⟩ (.int .i64 a) (.inr (zz8 _));have nb:bm≠w.heap.size+1:=fun e=>nu.o.2 e.symm
    have nm:mb≠w.heap.size+1:=fun e=>nu.o.1 e.symm
    have Bj:=(((Bi.o.other ⟨w.heap.size+1,0,none⟩ (.int .i64 k) nb).other ⟨w.heap.size+1,1,none⟩ (.int .i64 n) nb).other ⟨w.heap.size+1,2,none⟩ (.int .i64 t) nb).other ⟨w.heap.size+1,3,none⟩ (.int .i64 a) nb;have zj:=(((Dk.o.other ⟨w.heap.size+1,0,none⟩ (.int .i64 k) nm).other ⟨w.heap.size+1,1,none⟩ (.int .i64 n) nm).other ⟨w.heap.size+1,2,none⟩ (.int .i64 t) nm).other ⟨w.heap.size+1,3,none⟩ (.int .i64 a) nm;simp only[zil,zy7,zzb]at zj;simp only[zyZ,zyW]at cE;refine leaves_cons (f:=45) (args:=#[.pointer (some ⟨bm,0,none⟩),.pointer (some ⟨w.heap.size+1,0,none⟩)]) (by simp) (by simp[go_sem]) ?_;refine (zt0 bm (w.heap.size+1) mb _ _ _ _ _ _ _ _ _ _ _ _ Bj zj cE iK nu.o.1 nu.o.2).mono ?_;rintro e u' w9 ⟨rfl,rfl,jC,ff⟩;have r0:=Blk.cell jC 0;have r1:=Blk.cell jC 1;have r2:=Blk.cell jC 2;have r3:=Blk.cell jC 3;simp at r0 r1 r2 r3;have aj:=lU.o;refine ⟨ziu k n t a,?_,rfl,?_⟩
    ·simp[results,Tryz.results34,go_sem,r0,r1,r2,r3,ziu]
    ·exact By.drop ff (fun i hi=>by rintro (e|e) <;> omega)
end Go.Proofs.YtgahgkddaljmkaaGreatDoor
namespace Go.Proofs.YtgahgkddaljmkaaGreatDoor
open Tryz
open Go.RowKit Go.Shelf
attribute [local go_sem ↓] Go.wp_at_zero Go.wp_at_succ
attribute [local go_sem] Oper.semAt_some
theorem zjY{l:List (List UInt8)}{i:Nat}{v:Value}(h:(strCells l)[i]?=some v):∃ x,l[i]?=some x/\v=.string ⟨x.toArray⟩:=by
 unfold strCells at h;rw[List.getElem?_map,zyX]at h;obtain ⟨x,h1,h2⟩:=h;exact ⟨x,h1,h2.symm⟩
theorem zdA(l:List (List UInt8)):(strCells l).length=l.length:=by simp[strCells]
variable {w:World}
theorem zaO{sv:Value}{n:Nat}{e:TypeId}{xs:List Value}(h:w.ownsRow 0 e 1 sv n xs):∃ sp cap g,sv=.slice sp n cap/\xs.length=n/\(0<n->sp=some ⟨g,0,none⟩)/\(0<n->sv.ownBlock=some g)/\∀ j v,xs[j]?=some v->w.cell? ⟨g,j,none⟩=some v:=by
 obtain ⟨h1,h2⟩:=h;rcases h2 with ⟨rfl,rfl⟩|⟨g,cap,cur,rfl,hg,hb,r⟩
 ·refine ⟨none,0,0,rfl,by simpa using h1,fun h=>absurd h (by omega),fun h=>absurd h (by omega),fun j v hv=>?_⟩;have:=(zyL.1 hv).1;omega
 ·refine ⟨some ⟨g,0,none⟩,cap,g,rfl,by simpa using h1,fun _=>rfl,fun _=>rfl,fun j v hv=>?_⟩;have hc:w.ownsRow 0 e 1 (.slice (some ⟨g,0,none⟩) n cap) n xs:=⟨h1,.inr ⟨g,cap,cur,rfl,hg,hb,r⟩⟩;have:=hc.cells (g:=g) rfl j v hv;simpa [zbe] using this
def zoj (zac:List Cp.Nm) (x:Cp.Nm):Int:=match Cp.za9 zac x with|some i=>i|none=>-1
theorem zsH(a b:List UInt8):((⟨a.toArray⟩:ByteArray).toList == (⟨b.toArray⟩:ByteArray).toList)=(a == b):=by
 rw[ByteArray.toList_eq,ByteArray.toList_eq]
theorem zrY{zac:List Cp.Nm}{x:Cp.Nm}{c:Nat}(h:zac[c]?=some x):Cp.zcq zac x (c+1)=some c:=by rw[Cp.zcq,if_pos h]
theorem zpQ{zac:List Cp.Nm}{x:Cp.Nm}{c:Nat}(h:¬ zac[c]?=some x):Cp.zcq zac x (c+1)=Cp.zcq zac x c:=by rw[Cp.zcq,if_neg h]
theorem zg3{base d:Nat}{W:World}(h:W.heap[d]?=some (.deferred (some [])))(hb:base<=d):Marks base W [{ target:=.collected d,args:=#[] }]:=
 ⟨[d],rfl,by simp,fun d' iH=>by simp only[zzo,zzZ,or_false]at iH;subst iH;exact ⟨hb,h⟩⟩
theorem zok{Z:Nat->Prop}{cb bb:Nat}{rv sv kv:Value}{fns:List Cp.Nm}{q:Cp.Bs}(h:BS Z w cb bb rv sv kv fns q)(x:Cp.Nm)(hl:q.zac.length<=1000000000):
  Calls prog 149 #[.pointer (some ⟨bb,0,none⟩),.string ⟨x.toArray⟩] w fun e w'=>e=.returned (.int .i64 (zoj q.zac x))/\Fr (fun _=>False) w w':=by
 obtain ⟨sp,cap,g,bA,dk,eB,jr,aN⟩:=zaO h.ziW;have c1:=Blk.cell h.zbY 1;simp at c1;have cV:=h.zbY.lt;subst bA;have fX:0<q.zac.length->g<w.heap.size:=fun h0=>h.slt g (jr h0)
 have qm:=zab aN;have Cd:=zab fX;have eg:=enters_of (P:=prog) func257 (by kernel_rfl) rfl;have HE:=zab eg;clear h aN fX jr eg;refine callsIn_wide.1 (callsIn_of_wp_marks (n:=5) func149 rfl trivial (wpIn_wide.2 ?_) rfl);simp only[ntmps149,zzr,zy8,zzm,Nat.reduceAdd,Nat.reduceSub,zzB,zzC,zzH,zzE,zzb,zy7];obtain ⟨Q,hQ⟩:∃ Q,bodyPostM Fence.wide 5 prog Tryz.f149 (fun e w'=>e=.returned (.int .i64 (zoj q.zac x))/\Fr (fun _=>False) w w')=Q:=⟨_,rfl⟩;have HQ:=zab hQ;rw[hQ];clear hQ;have n0:w.heap.size≠bb:=by omega
 have n1:w.heap.size+1≠bb:=by omega
 go_wp2_with fail
 refine (znr sp q.zac.length cap _).mono ?_;rintro e w2 ⟨rfl,aB⟩;simp only[World.size_alloc]at aB ⊢;have F2:Hid (Fr (fun _=>False) w w2):=zab (by rw[aB];exact (((Fr.refl _ _).alloc _).alloc _).alloc _);have BN:Hid (Blk w2 w.heap.size [.string ⟨x.toArray⟩] 9):=zab (by rw[aB];exact Fr.blk (K:=fun _=>False) (Blk.new w [.string ⟨x.toArray⟩] 9) (((Fr.refl _ _).alloc _).alloc _) (by simp));have BR:Hid (Blk w2 (w.heap.size+1) [.int .i64 0] 3):=zab (by
  rw[aB];have:=Blk.new (w.alloc (.cells #[.string ⟨x.toArray⟩] 9)) [.int .i64 0] 3;rw[World.size_alloc]at this;exact Fr.blk (K:=fun _=>False) this ((Fr.refl _ _).alloc _) (by simp))
 have BB:Hid (Blk w2 (w.heap.size+2) [.slice sp q.zac.length cap] 38):=zab (by
  rw[aB];have:=Blk.new ((w.alloc (.cells #[.string ⟨x.toArray⟩] 9)).alloc (.cells #[.int .i64 0] 3)) [.slice sp q.zac.length cap] 38;rw[World.size_alloc,World.size_alloc]at this;exact this)
 have mB:Hid (w2.heap.size=w.heap.size+3):=zab (by rw[aB];simp);clear aB c1 n0 n1;go_wp2_with fail
 have dJ:(strCells q.zac).length=q.zac.length:=zdA _;have l9:Iter 257 (w.heap.size+2) cap sp g (strCells q.zac):=fun l J Jr hY hJc W h0=>znq l _ cap sp g (strCells q.zac) (by omega) (fun h0=>eB (by omega)) J Jr hY hJc W h0
 obtain ⟨J,hJ⟩:∃ J:Nat->World->Prop,∀ i W,J i W↔(Fr (fun _=>False) w2 W/\i<=q.zac.length/\Cp.zcq q.zac x (q.zac.length-i)=Cp.za9 q.zac x):=⟨_,fun _ _=>zAz⟩;obtain ⟨Jr,zN⟩:∃ Jr:World->Prop,∀ W,Jr W↔(Fr (fun k=>k=w.heap.size+1) w2 W/\∃ c:Nat,Cp.za9 q.zac x=some c/\Blk W (w.heap.size+1) [.int .i64 c] 3):=⟨_,fun _=>zAz⟩;have HJ:=zab hJ;have ud:=zab zN;clear hJ zN;refine zp9 HE.o l9 rfl J Jr ?hall ?hput ?hputr ?h0 ?hJc ?hround ?hdone ?hret
 case hall=>exact fun i W o hW=>(HJ.o _ _).2 ⟨((HJ.o _ _).1 hW).1.alloc _,((HJ.o _ _).1 hW).2⟩
 case hput=>exact fun i W l xo o hW hl hx hc=>(HJ.o _ _).2 ⟨((HJ.o _ _).1 hW).1.putObj _ hl,((HJ.o _ _).1 hW).2⟩
 case hputr=>
  intro W l xo o hW hl hx hc;obtain ⟨h1,c,h2,h3⟩:=(ud.o W).1 hW;exact (ud.o _).2 ⟨h1.putObj _ hl,c,h2,h3.putObj hx hc _⟩
 case h0=>exact (HJ.o _ _).2 ⟨Fr.refl _ _,zy5 _,rfl⟩
 case hJc=>
  intro i W hW;obtain ⟨h1,h2,h3⟩:=(HJ.o i W).1 hW;refine ⟨?_,fun j v hv=>?_⟩
  ·rw[dJ];simpa using Blk.cell (Fr.blk BB.o h1 (by simp)) 0
  ·have h4:=qm.o j v hv;have hj:=(zyL.1 hv).1;exact (World.cell?_of_block (a:=⟨g,j,none⟩) (w:=w) ((F2.o.trans h1).block g (Cd.o (by omega)) (by simp))).trans h4
 case hdone=>
  intro W hW hD;obtain ⟨h1,h2,h3⟩:=(HJ.o _ W).1 hW;have aK:Cp.za9 q.zac x=none:=by
   rw[<-h3,dJ,zAx];rfl
  have bA:zoj q.zac x=-1:=by unfold zoj;rw[aK]
  have oo:=zab (Fr.blk BR.o h1 (by simp));have r0:=Blk.cell oo.o 0;have rf:=Blk.frozen oo.o 0;simp at r0;have H1:=zab h1;have HD:=zab hD;clear h1 h2 h3 hD;go_wp2_with fail
  rw[<-HQ.o];have aI:=mB.o;refine zcg (base:=w.heap.size) (I:=fun W'=>Fr (fun _=>False) w W'/\Blk W' (w.heap.size+1) [.int .i64 (-1)] 3) (by simp) (fun W' d bQ hd iX=>⟨bQ.1.putObj _ hd,bQ.2.putObj iX (by simp) _⟩) (fun W' bQ=>?_) (zg3 ?_ (by omega)) ⟨(F2.o.trans H1.o).set _ _ (.inr (zz8 _)),oo.o.set 0 _⟩
  ·have r:=Blk.cell bQ.2 0;simp at r;refine ⟨.int .i64 (-1),?_,by rw[bA],bQ.1⟩;simp[results,Tryz.results149,go_sem,r]
  ·rw[Below.heap_setCell _ _ _ _ (by simp;omega)];exact HD.o
 case hret=>
  intro W hW hD;obtain ⟨h1,c,h2,h3⟩:=(ud.o W).1 hW;have bA:zoj q.zac x=c:=by unfold zoj;rw[h2]
  show Q _ _ _;rw[<-HQ.o];have aI:=mB.o;refine zcg (base:=w.heap.size) (I:=fun W'=>Fr (fun _=>False) w W'/\Blk W' (w.heap.size+1) [.int .i64 c] 3) (by simp) (fun W' d bQ hd iX=>⟨bQ.1.putObj _ hd,bQ.2.putObj iX (by simp) _⟩) (fun W' bQ=>?_) (zg3 hD (by omega)) ⟨F2.o.drop h1 (fun i hi=>by omega),h3⟩;have r:=Blk.cell bQ.2 0;simp at r;refine ⟨.int .i64 c,?_,by rw[bA],bQ.1⟩;simp[results,Tryz.results149,go_sem,r]
 case hround=>
  intro l i c v W hJ oU hv;obtain ⟨y,hy,rfl⟩:=zjY hv;rw[dJ]at oU;have CQ:Hid (∀ W2,J i W2->Cp.zcq q.zac x (c+1)=Cp.za9 q.zac x):=zab (fun W2 h2=>by
   obtain ⟨_,_,h3⟩:=(HJ.o i W2).1 h2
   rwa [show q.zac.length-i=c+1 by omega]at h3)
  have zg:=zab hy;clear hv hJ hy;simp only[zyO,zyZ,zyW]
  gi_wp2
  refine ⟨trivial,?_⟩;intro W2 h2 hD ma;obtain ⟨h1,hi,h3⟩:=(HJ.o i W2).1 h2;have mU:=CQ.o W2 h2;have b0:W2.cell? ⟨w.heap.size,0,none⟩=some (.string ⟨x.toArray⟩):=by simpa using Blk.cell (Fr.blk BN.o h1 (by simp)) 0
  have oo:=zab (Fr.blk BR.o h1 (by simp));have r0:=Blk.cell oo.o 0;have rf:=Blk.frozen oo.o 0;simp at r0;have qI:=zab mU;have H1:=zab h1;have aI:=mB.o;have qy:Hid (∀ u:Value,(W2.setCell ⟨w.heap.size+1,0,none⟩ u).heap[w2.heap.size]?=W2.heap[w2.heap.size]?/\(W2.setCell ⟨w.heap.size+1,0,none⟩ u).heap[w2.heap.size+1]?=W2.heap[w2.heap.size+1]?):=
   zab (fun u=>⟨Below.heap_setCell _ _ _ _ (by simp;omega),Below.heap_setCell _ _ _ _ (by simp;omega)⟩)
  clear aI mU h1 h3 h2 hD ma;have Af:=zsH y x;by_cases nh:y=x
  ·subst nh;rw[show (y == y)=true by simp]at Af
   gi_wp2
   refine ⟨(ud.o _).2 ⟨(H1.o.mono (fun _ h=>h.elim)).set _ _ (.inl rfl),c,?_,oo.o.set 0 _⟩,qy.o _⟩;rw[<-qI.o];exact zrY zg.o
  ·have aw:(y == x)=false:=by simpa using nh
   rw[aw]at Af;have bD:((⟨y.toArray⟩:ByteArray)=⟨x.toArray⟩)=False:=by
    simp only[eq_iff_iff,iff_false];intro e;exact nh (by simpa using congrArg (fun b:ByteArray=>b.data.toList) e)
   gi_wp2
   refine ⟨(HJ.o _ _).2 ⟨H1.o,by omega,?_⟩,rfl,rfl⟩;rw[show q.zac.length-(i+1)=c by omega,<-qI.o];refine (zpQ ?_).symm;rw[zg.o];simpa using nh
end Go.Proofs.YtgahgkddaljmkaaGreatDoor
