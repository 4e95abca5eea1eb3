/- Mach43 .. Cmp10 -/
import Derived.Test.YtgahgkddaljmkaaGreatDoorT7
set_option maxRecDepth 100000
set_option maxHeartbeats 4000000
namespace Go.Proofs.YtgahgkddaljmkaaGreatDoor
open Tryz
open Go.RowKit
attribute [local go_sem ↓] Go.wp_at_zero Go.wp_at_succ
def MSt.told (m:MSt):Option (Int × Int × Int × Int):=
 match m.s.nodeAt 0 with
 |none=>none
 |some (a,y)=>
  if y%16=0 then (match m.s.ws[a+1]? with|none=>none|some v=>some (1,v,0,0))
  else if y%16=1 then some (2,0,y/65536,y/16%4096)
  else some (3,0,0,0)
variable {w:World}{fv:Value}
theorem zpF{mb wb:Nat}{m:MSt}{k n t a:Int}(h:MAt w mb wb fv m)(ht:m.told=some (k,n,t,a)):
  Calls prog 48 #[.pointer (some ⟨mb,0,none⟩)] w fun e w'=>e=.returned (ziu k n t a)/\Fr (fun _=>False) w w':=by
 unfold MSt.told at ht;split at ht
 ·cases ht
 rename_i b y hn;refine zG7 (o:=(k,n,t,a)) h hn ?_;split at ht
 ·rename_i h0;split at ht
  ·cases ht
  ·rename_i v hv;exact .inl ⟨h0,v,hv,(zyU ht).symm⟩
 ·split at ht
  ·rename_i h1;exact .inr (.inl ⟨h1,(zyU ht).symm⟩)
  ·rename_i h0 h1;exact .inr (.inr ⟨h0,h1,(zyU ht).symm⟩)
def MSt.new (pv:Value) (nf main words fuel:Nat):MSt:=⟨⟨List.replicate words 0,words/2,0,0,words/2⟩,⟨pv,nf,main,fuel,0,0⟩,[]⟩
def runM (pv:Value) (cd:List (Nat × List Ins)) (nf main words fuel g:Nat):Option (Int × Int × Int × Int):=
 match (MSt.new pv nf main words fuel).start (cd.map Prod.fst) with
 |none=>none
 |some (.error k)=>some (k,0,0,0)
 |some (.ok m1)=>
  match MSt.work cd g m1 with
  |none=>none
  |some (.error k)=>some (k,0,0,0)
  |some (.ok m2)=>m2.told
def zqc (w:World) (pv:Value) (cd:List (Nat × List Ins)):Prop:=∀ mb wb,w.heap.size<=mb->w.heap.size<=wb->CAt w mb wb (.slice none 0 0) pv cd
variable {K:Nat->Prop}
theorem Fr.drop{a b:World}(h:Fr (fun _=>False) w a)(k:Fr K a b)(hK:∀ i,i<w.heap.size->¬ K i):Fr (fun _=>False) w b:=
 ⟨k.os.trans h.os,k.tape.trans h.tape,k.output.trans h.output,zyR h.size k.size,fun i hi _=>(k.block i (zyS hi h.size) (hK i hi)).trans (h.block i hi (fun e=>e))⟩
theorem znW:∀ {k i:Nat} {m m':MSt},MSt.zbm i k m=some (.ok m')->m'.o.pb=m.o.pb
 |0,_,_,_,h=>by cases h;rfl
 |k+1,i,m,m',h=>by
  rw[MSt.zbm]at h;refine zb4 (fun m1 h1=>?_) h;split at h1
  ·cases h1
  ·have:=znW h1;exact this
theorem zwl{m m':MSt}{sl:List Nat}(h:m.start sl=some (.ok m')):m'.o.pb=m.o.pb:=by
 unfold MSt.start at h;split at h
 ·cases h
 ·cases h
 ·next m1 hl=>
  rw[<-znW hl];refine zb4 (fun m2 h2=>?_) h;split at h2
  ·cases h2
  ·split at h2
   ·cases h2
   ·split at h2
    ·cases h2
    ·have:=zqo h2;exact this
theorem zuU{P:Program}{c:Code}{K:Act->World->Prop}{Q:Exit->Act->World->Prop}{a:Act}(h:c.wp P (Exit.then K (fun _ _ _=>False)) a w):c.wp P (Exit.then K Q) a w:=
 wp_mono h fun e _ _ hq=>by cases e <;> first|exact hq|exact hq.elim
variable {cap:Nat}
theorem ztG{wc:World}{mb wb pb l nf main words fuel:Nat}(hm:Blk wc mb [.slice (some ⟨wb,0,none⟩) words words,.int .i64 ((words:Int)/2),.int .i64 0,.int .i64 0,.int .i64 ((words:Int)/2),.slice (some ⟨pb,0,none⟩) l cap,.int .i64 nf,.int .i64 main,.slice none 0 0,.int .i64 fuel,.int .i64 0,.int .i64 0] 81)(hw:Blk wc wb (zdG (List.replicate words 0)) 2)(aH:mb≠wb)(oh:words<=1000000)(pW:fuel<=1000000000):MAt wc mb wb (.slice none 0 0) (MSt.new (.slice (some ⟨pb,0,none⟩) l cap) nf main words fuel):=by
 refine ⟨⟨?_,hw,aH,by simpa [MSt.new] using oh,by simp only[MSt.new];omega,by simp[MSt.new],by simp[MSt.new],by simp only[MSt.new];omega⟩,.inl ⟨rfl,rfl⟩,by simp[MSt.new],pW⟩;have e:((words/2:Nat):Int)=(words:Int)/2:=by omega
 simp only[MSt.new,zil,zeu,zzz,e,zy7,zzb,Int.natCast_zero];exact hm
variable {W:World}
theorem plc{s:Nat}{x y z:Value}{ty:TypeId}(h:Blk W s [x,y,z] ty):W.cell? ⟨s,0,none⟩=some x/\W.cell? ⟨s,1,none⟩=some y/\W.cell? ⟨s,2,none⟩=some z:=
 ⟨by simpa using Blk.cell h 0,by simpa using Blk.cell h 1,by simpa using Blk.cell h 2⟩
variable {g:Nat}
theorem zxI{pv:Value}{cd:List (Nat × List Ins)}{nf main words fuel:Nat}{k n t a:Int}(hC:zqc w pv cd)(jZ:nf<=1000000)(oh:words<=1000000)(pW:fuel<=1000000000)(hr:runM pv cd nf main words fuel g=some (k,n,t,a)):
  Calls prog 34 #[.agg #[pv,.int .i64 nf,.int .i64 main],.int .i64 words,.int .i64 fuel] w fun e w'=>e=.returned (ziu k n t a)/\Fr (fun _=>False) w w':=by
 have mc:∀ (fn:Fn) (first cap:Array Value) (w:World),(Instr.makeFunc fn first cap).run prog w=.ok (.func fn first cap) w:=fun _ _ _ _=>rfl
 have HC:=zab hC;obtain ⟨pb,cap,eD⟩:∃ pb cap,pv=.slice (some ⟨pb,0,none⟩) cd.length cap:=by obtain ⟨pb,cap,eD,_⟩:=hC _ _ (zyN _) (zyN _);exact ⟨pb,cap,eD⟩
 subst eD;have HR:=zab hr;have Fp:(words:Int)<=1000000:=by omega
 clear hC hr
 go_enter_defers func34,ntmps34
 go_wp2_with fail
 obtain ⟨pl,gK⟩:∃ l:List Value,Hid (l=[.slice (some ⟨pb,0,none⟩) cd.length cap,.int .i64 nf,.int .i64 main]):=⟨_,zab rfl⟩;obtain ⟨ol,J0⟩:∃ l:List Value,Hid (l=[.int .i64 0,.int .i64 0,.int .i64 0,.int .i64 0]):=⟨_,zab rfl⟩;obtain ⟨ml,Av⟩:∃ l:Nat->List Value,Hid (∀ b,l b=[.slice (some ⟨b,0,none⟩) words words,.int .i64 ((words:Int)/2),.int .i64 0,.int .i64 0,.int .i64 ((words:Int)/2),.slice (some ⟨pb,0,none⟩) cd.length cap,.int .i64 nf,.int .i64 main,.slice none 0 0,.int .i64 fuel,.int .i64 0,.int .i64 0]):=⟨_,zab fun _=>rfl⟩;rw[<-gK.o,<-J0.o];have BP:=zab (Fr.blk (K:=fun _=>False) (Blk.new w pl 66) ((Fr.refl _ _).alloc (.cells ol.toArray 35)) (by simp));have BO:=zab (Blk.new (w.alloc (.cells pl.toArray 66)) ol 35);rw[World.size_alloc]at BO;have F1:Hid (Fr (fun _=>False) w ((w.alloc (.cells pl.toArray 66)).alloc (.cells ol.toArray 35))):=zab (((Fr.refl _ _).alloc _).alloc _);have uj:Hid (((w.alloc (.cells pl.toArray 66)).alloc (.cells ol.toArray 35)).heap.size=w.heap.size+2):=zab (by simp);generalize (w.alloc (.cells pl.toArray 66)).alloc (.cells ol.toArray 35)=w1 at BP BO F1 uj ⊢;rw[gK.o]at BP;rw[J0.o]at BO;have p0:=Blk.cell BP.o 0;have p1:=Blk.cell BP.o 1;have p2:=Blk.cell BP.o 2;simp at p0 p1 p2
 go_cut [7] from 8 to 13 (fun v wc=>∃ bm mb wb,v=.pointer (some ⟨bm,0,none⟩)/\Blk wc bm [.pointer (some ⟨mb,0,none⟩)] 75/\MAt wc mb wb (.slice none 0 0) (MSt.new (.slice (some ⟨pb,0,none⟩) cd.length cap) nf main words fuel)/\Fr (fun _=>False) w1 wc/\w1.heap.size<=bm/\w1.heap.size<=mb/\w1.heap.size<=wb/\bm≠mb/\bm≠wb)
 case first=>
  refine zuU ?_;have G0:Hid (Fr (fun _=>False) w1 w1.drew):=zab (Fr.refl _ _).drew;have SB:Hid (∀ W,Fr (fun _=>False) w1 W->Blk W w.heap.size [.slice (some ⟨pb,0,none⟩) cd.length cap,.int .i64 nf,.int .i64 main] 66):=zab fun W f=>Fr.blk BP.o f (by simp)
  refine wp_region_held_drew (S:=fun W=>Blk W w.heap.size [.slice (some ⟨pb,0,none⟩) cd.length cap,.int .i64 nf,.int .i64 main] 66) (by kernel_rfl) (SB.o _ G0.o) (fun ax=>?_);refine tk 0 (hy:=by intro w h;obtain ⟨_,_,_⟩:=plc h;go_simp;try with_reducible rfl) ?_
  try simp only[Act.put,zyO]
  refine tk 1 (hy:=by intro w h;obtain ⟨_,_,_⟩:=plc h;go_simp;try with_reducible rfl) ?_
  try simp only[Act.put]
  refine tk 3 (hy:=by intro w h;obtain ⟨_,_,_⟩:=plc h;go_simp;try with_reducible rfl) ?_
  try simp only[Act.put]
  refine wpAnyH_ready (rs:=[2,6]) (by kernel_rfl) (by simp) ?_;refine (AllReadyH.cons rfl (fun K hK=>?_) (AllReadyH.cons rfl (fun K hK=>?_) AllReadyH.nil))
  go_simp
  refine (zih oh).mono ?_;rintro e w2 ⟨rfl,hb,f⟩;obtain ⟨ei,hq⟩:∃ b,w1.drew.heap.size+1=b:=⟨_,rfl⟩;rw[hq]at hb;have WB:=zab hb;have G1:=zab f;have HW:=zab hq
  try rw[hq]
  clear hb f hq;refine hK.out _ _ (SB.o _ (G0.o.trans G1.o)) (fun ax=>?_);clear hK K
  try simp only[Act.put,zyO,zyZ,zyW]
  refine tk 4 (hy:=by intro w h;obtain ⟨_,_,_⟩:=plc h;go_simp;try with_reducible rfl) ?_
  try simp only[Act.put,zyO]
  refine wpAnyH_ready (rs:=[5,6]) (by kernel_rfl) (by simp) ?_;refine AllReadyH.cons rfl (fun K hK=>?_) (AllReadyH.cons rfl (fun K hK=>?_) AllReadyH.nil)
  go_simp
  rw[<-Av.o ei];obtain ⟨cM,hq⟩:∃ b,w2.heap.size=b:=⟨_,rfl⟩;have MB:=zab (Blk.new w2 (ml ei) 81);have G2:Hid (Fr (fun _=>False) w2 (w2.alloc (.cells (ml ei).toArray 81))):=zab ((Fr.refl _ _).alloc _);have HM:=zab hq;rw[hq]at MB
  try rw[hq]
  clear hq;generalize w2.alloc (.cells (ml ei).toArray 81)=w3 at MB G2 ⊢;refine hK.out _ _ (SB.o _ ((G0.o.trans G1.o).trans G2.o)) (fun ax=>?_);clear hK K
  try simp only[Act.put,zyO,zyZ,zyW]
  refine rd1 6 rfl fun K hK=>?_
  go_simp
  obtain ⟨bm,hq⟩:∃ b,w3.heap.size=b:=⟨_,rfl⟩;have VB:=zab (Blk.new w3 [.pointer none] 75);have G3:Hid (Fr (fun _=>False) w3 (w3.alloc (.cells #[.pointer none] 75))):=zab ((Fr.refl _ _).alloc _);have HV:=zab hq;rw[hq]at VB
  try rw[hq]
  clear hq;generalize w3.alloc (.cells #[.pointer none] 75)=w4 at VB G3 ⊢;refine hK.out _ _ (SB.o _ (((G0.o.trans G1.o).trans G2.o).trans G3.o)) (fun ax=>?_);clear hK K
  try simp only[Act.put,zyO,zyZ,zyW]
  refine rd1 7 rfl fun K hK=>?_
  rotate_left
  go_simp
  obtain ⟨bm,hq⟩:∃ b,w2.heap.size=b:=⟨_,rfl⟩;have VB:=zab (Blk.new w2 [.pointer none] 75);have G2:Hid (Fr (fun _=>False) w2 (w2.alloc (.cells #[.pointer none] 75))):=zab ((Fr.refl _ _).alloc _);have HV:=zab hq;rw[hq]at VB
  try rw[hq]
  clear hq;generalize w2.alloc (.cells #[.pointer none] 75)=w3 at VB G2 ⊢;refine hK.out _ _ (SB.o _ ((G0.o.trans G1.o).trans G2.o)) (fun ax=>?_);clear hK K
  try simp only[Act.put,zyO,zyZ,zyW]
  refine rd1 5 rfl fun K hK=>?_
  go_simp
  rw[<-Av.o ei];obtain ⟨cM,hq⟩:∃ b,w3.heap.size=b:=⟨_,rfl⟩;have MB:=zab (Blk.new w3 (ml ei) 81);have G3:Hid (Fr (fun _=>False) w3 (w3.alloc (.cells (ml ei).toArray 81))):=zab ((Fr.refl _ _).alloc _);have HM:=zab hq;rw[hq]at MB
  try rw[hq]
  clear hq;generalize w3.alloc (.cells (ml ei).toArray 81)=w4 at MB G3 ⊢;refine hK.out _ _ (SB.o _ (((G0.o.trans G1.o).trans G2.o).trans G3.o)) (fun ax=>?_);clear hK K
  try simp only[Act.put,zyO,zyZ,zyW]
  refine rd1 7 rfl fun K hK=>?_
  rotate_left
  go_simp
  obtain ⟨bm,hq⟩:∃ b,w1.heap.size=b:=⟨_,rfl⟩;have VB:=zab (Blk.new w1 [.pointer none] 75).drew;have G1:Hid (Fr (fun _=>False) w1 ((w1.alloc (.cells #[.pointer none] 75)).drew)):=zab ((Fr.refl _ _).alloc _).drew;have HV:=zab hq;rw[hq]at VB
  try rw[hq]
  clear hq;generalize (w1.alloc (.cells #[.pointer none] 75)).drew=w2 at VB G1 ⊢;refine hK.out _ _ (SB.o _ G1.o) (fun ax=>?_);clear hK K
  try simp only[Act.put,zyO,zyZ,zyW]
  refine rd1 2 rfl fun K hK=>?_
  go_simp
  refine (zih oh).mono ?_;rintro e w3 ⟨rfl,hb,f⟩;obtain ⟨ei,hq⟩:∃ b,w2.heap.size+1=b:=⟨_,rfl⟩;rw[hq]at hb;have WB:=zab hb;have G2:=zab f;have HW:=zab hq
  try rw[hq]
  clear hb f hq;refine hK.out _ _ (SB.o _ (G1.o.trans G2.o)) (fun ax=>?_);clear hK K
  try simp only[Act.put,zyO,zyZ,zyW]
  refine tk 4 (hy:=by intro w h;obtain ⟨_,_,_⟩:=plc h;go_simp;try with_reducible rfl) ?_
  try simp only[Act.put,zyO]
  refine rd1 5 rfl fun K hK=>?_
  go_simp
  rw[<-Av.o ei];obtain ⟨cM,hq⟩:∃ b,w3.heap.size=b:=⟨_,rfl⟩;have MB:=zab (Blk.new w3 (ml ei) 81);have G3:Hid (Fr (fun _=>False) w3 (w3.alloc (.cells (ml ei).toArray 81))):=zab ((Fr.refl _ _).alloc _);have HM:=zab hq;rw[hq]at MB
  try rw[hq]
  clear hq;generalize w3.alloc (.cells (ml ei).toArray 81)=w4 at MB G3 ⊢;refine hK.out _ _ (SB.o _ ((G1.o.trans G2.o).trans G3.o)) (fun ax=>?_);clear hK K
  try simp only[Act.put,zyO,zyZ,zyW]
  refine rd1 7 rfl fun K hK=>?_
  all_goals
   have l2:=VB.o.lt;have l3:=MB.o.lt;have s0:=G0.o.size;have g1:=G1.o;have g2:=G2.o;have g3:=G3.o;have FR:Fr (fun _=>False) w1 w4:=by first|exact (g1.trans g2).trans g3|exact ((G0.o.trans g1).trans g2).trans g3
   have VB:Blk w4 bm [.pointer none] 75:=by first|exact VB.o|exact Fr.blk VB.o g3 (by simp)|exact Fr.blk (Fr.blk VB.o g2 (by simp)) g3 (by simp)
   have MB:Blk w4 cM (ml ei) 81:=by first|exact MB.o|exact Fr.blk MB.o g3 (by simp)
   have l1:=WB.o.lt;have WB:=by first|exact Fr.blk WB.o g3 (by simp)|exact Fr.blk (Fr.blk WB.o g2 (by simp)) g3 (by simp)
   have hv:=HV.o;have hm:=HM.o;have hw:=HW.o;have s1:=g1.size;have s2:=g2.size;have s3:=g3.size;have z:w1.heap.size<=bm/\w1.heap.size<=cM/\w1.heap.size<=ei/\bm≠cM/\bm≠ei/\cM≠ei:=by omega
   have J5:=zab VB;have v0:=Blk.cell VB 0;have vf:=Blk.frozen VB 0;simp at v0;clear VB g1 g2 g3 s0 s1 s2 s3 hv hm hw l1 l2 l3
   go_simp
   refine hK.out _ _ (SB.o _ (FR.set _ _ (.inr z.1))) (fun ax=>?_);clear hK K
   try simp only[Act.put,zyO,zyZ,zyW]
   refine wpAnyH_done (by kernel_rfl) ?_ _;go_wp2_with fail
   go_meet
   case rel=>exact ⟨_,cM,ei,rfl,J5.o.set 0 _,ztG (Av.o _ ▸ MB.other _ _ z.2.2.2.1.symm) (WB.other _ _ z.2.2.2.2.1.symm) z.2.2.2.2.2 oh pW,FR.set _ _ (.inr z.1),z.1,z.2.1,z.2.2.1,z.2.2.2.1,z.2.2.2.2.1⟩
 case rest=>
  obtain ⟨bm,mb,wb,rfl,tx,hm,ak,h1,h2,h3,iK,jq⟩:=hcut;have aW:=uj.o;have kA:=zab (F1.o.trans ak);have jV:CAt wc mb wb (.slice none 0 0) (.slice (some ⟨pb,0,none⟩) cd.length cap) cd:=(HC.o mb wb (by omega) (by omega)).fr (kA.o.mono (fun _ h=>h.elim));have mx:=zab jV;have HM:=zab hm;have vd:=zab tx;have vg:=zab (Fr.blk BO.o ak (by simp));have nu:Hid (w.heap.size+1≠mb/\w.heap.size+1≠bm):=zab (by omega);have lU:Hid (w.heap.size+1<wc.heap.size/\bm<wc.heap.size/\w.heap.size<mb/\w.heap.size<wb/\w.heap.size+1<mb/\w.heap.size+1<wb):=zab (by have:=ak.size;have:=tx.lt;omega);have b0:=Blk.cell tx 0;simp at b0;have hr:=HR.o;unfold runM at hr;clear jV tx ak hm p0 p1 p2 aW h1 h2 h3 BP;cases dY:(MSt.new (.slice (some ⟨pb,0,none⟩) cd.length cap) nf main words fuel).start (cd.map Prod.fst) with
  |none=>rw[dY]at hr;cases hr
  |some r1=>
  rw[dY]at hr;have CS:=zab (zon HM.o mx.o.zac rfl rfl jZ dY);have pK:=zab dY;have Cw:=zab hr;clear dY hr;go_wp2_with fail
  refine CS.o.mono ?_;rintro e w2 ⟨f2,h2⟩;have oj:=zab (Fr.blk vd.o f2 (by rintro (e|e);exact iK e;exact jq e));have qi:=zab (Fr.blk vg.o f2 (by have:=lU.o;rintro (e|e) <;> omega));have ql:=zab (kA.o.drop f2 (fun i hi=>by have:=lU.o;rintro (e|e) <;> omega));have hr:=Cw.o;rcases r1 with j|m1
  cases hr;obtain ⟨rfl,fv,m',fO,dB⟩:=h2;have rS:=fO.sat.blk;have JV:=oj.o;have JW:=qi.o;have JT:=ql.o
  rotate_left
  focus
   obtain ⟨rfl,fv,jo,dB⟩:=h2;cases tB:MSt.work cd g m1 with
   |none=>simp only[tB]at hr;cases hr
   |some r2=>_
   simp only[tB]at hr;have fJ:=mx.o.mv f2 dB;have iN:m1.o.pb=.slice (some ⟨pb,0,none⟩) cd.length cap:=zwl pK.o;rw[<-iN]at fJ;have CW:=zab (zq2 jo fJ tB);have du:=zab dB;have Cy:=zab hr;have c2:=Blk.cell oj.o 0;simp at c2;clear f2 jo dB fJ b0 tB hr iN;go_wp2_with fail
   refine CW.o.mono ?_;rintro e w3 ⟨f3,h3⟩;have dB:=du.o;have aj:=lU.o;have tU:=zab (Fr.blk oj.o f3 (by rintro (e|e|e);exact iK e;exact jq e;have:=dB _ e;omega));have ve:=zab (Fr.blk qi.o f3 (by rintro (e|e|e);omega;omega;have:=dB _ e;omega));have vm:=zab (ql.o.drop f3 (fun i hi=>by rintro (e|e|e);omega;omega;have:=dB _ e;omega));have hr:=Cy.o;rcases r2 with j|m2
   cases hr;obtain ⟨rfl,m',fO⟩:=h3;have rS:=fO.sat.blk;have JV:=tU.o;have JW:=ve.o;have JT:=vm.o
   rotate_left
   focus
    obtain ⟨rfl,sH⟩:=h3;have y4:=zab sH;have C4:=zab hr;have c3:=Blk.cell tU.o 0;simp at c3;clear f3 sH c2 dB aj hr;go_wp2_with fail
    refine (zpF y4.o C4.o).mono ?_;rintro e w4 ⟨rfl,f4⟩;have Bi:=zab (Fr.blk tU.o f4 (by simp));have mj:=zab (Fr.blk ve.o f4 (by simp));have Bw:=zab (vm.o.trans f4);have Dk:=zab (Fr.blk y4.o.sat.blk f4 (by simp));obtain ⟨o0,o1,o2,o3⟩:=mj.o.c4;have g0:=Blk.frozen mj.o 0;have g1:=Blk.frozen mj.o 1;have g2:=Blk.frozen mj.o 2;have g3:=Blk.frozen mj.o 3;clear f4 c3;unfold ziu;go_wp2_with fail
    have cE:=mj.o.zHj (.int .i64 k) (.int .i64 n) (.int .i64 t) (.int .i64 a);have JT:=Bw.o.zHj (zz8 _) (.int .i64 k) (.int .i64 n) (.int .i64 t) (.int .i64 a);have nb:bm≠w.heap.size+1:=fun e=>nu.o.2 e.symm
    have nm:mb≠w.heap.size+1:=fun e=>nu.o.1 e.symm
    have ot:∀ {b:Nat} {l:List Value} {ty:TypeId},Blk w4 b l ty->b≠w.heap.size+1->Blk ((((w4.setCell ⟨w.heap.size+1,0,none⟩ (.int .i64 k)).setCell ⟨w.heap.size+1,1,none⟩ (.int .i64 n)).setCell ⟨w.heap.size+1,2,none⟩ (.int .i64 t)).setCell ⟨w.heap.size+1,3,none⟩ (.int .i64 a)) b l ty:=fun h hn=>(((h.other _ _ hn).other _ _ hn).other _ _ hn).other _ _ hn
    have zj:=ot Dk.o nm;simp only[zil,zy7,zzb]at zj;refine leaves_cons (f:=45) (args:=#[.pointer (some ⟨bm,0,none⟩),.pointer (some ⟨w.heap.size+1,0,none⟩)]) (by simp) (by simp[go_sem]) ?_;refine (zt0 bm (w.heap.size+1) mb _ _ _ _ _ _ _ _ _ _ _ _ (ot Bi.o nb) zj cE iK nu.o.1 nu.o.2).mono ?_;rintro e u' w9 ⟨rfl,rfl,jC,ff⟩
  rotate_left
  iterate 2
   simp only[zil,zy7,zzb]at rS;refine leaves_cons (f:=45) (args:=#[.pointer (some ⟨bm,0,none⟩),.pointer (some ⟨w.heap.size+1,0,none⟩)]) (by simp) (by simp[go_sem]) ?_;refine (zgd bm (w.heap.size+1) mb _ _ _ _ _ _ _ _ _ _ _ _ _ JV rS JW iK nu.o.1 nu.o.2).mono ?_;rintro e u' w9 ⟨rfl,rfl,jC,ff⟩
   rotate_left
  all_goals
   obtain ⟨r0,r1,r2,r3⟩:=jC.c4;have aj:=lU.o;refine ⟨ziu _ _ _ _,?_,rfl,?_⟩
   ·simp[results,Tryz.results34,go_sem,r0,r1,r2,r3,ziu]
   ·exact JT.drop ff (fun i hi=>by rintro (e|e) <;> omega)
end Go.Proofs.YtgahgkddaljmkaaGreatDoor
namespace Go.Proofs.YtgahgkddaljmkaaGreatDoor
open Tryz
open Go.RowKit Go.Shelf
attribute [local go_sem ↓] Go.wp_at_zero Go.wp_at_succ
attribute [local go_sem] Oper.semAt_some
variable {i:Nat}{v:Value}
theorem zjY{l:List (List UInt8)}(h:(strCells l)[i]?=some v):∃ x,l[i]?=some x/\v=.string ⟨x.toArray⟩:=by
 unfold strCells at h;rw[List.getElem?_map,zyX]at h;obtain ⟨x,h1,h2⟩:=h;exact ⟨x,h1,h2.symm⟩
theorem zdA(l:List (List UInt8)):(strCells l).length=l.length:=by simp[strCells]
variable {w:World}{sv:Value}{n:Nat}{e:TypeId}{xs:List Value}
theorem zaO(h:w.ownsRow 0 e 1 sv n xs):∃ sp cap g,sv=.slice sp n cap/\xs.length=n/\(0<n->sp=some ⟨g,0,none⟩)/\(0<n->sv.ownBlock=some g)/\∀ j v,xs[j]?=some v->w.cell? ⟨g,j,none⟩=some v:=by
 obtain ⟨h1,h2⟩:=h;rcases h2 with ⟨rfl,rfl⟩|⟨g,cap,cur,rfl,hg,hb,r⟩
 ·refine ⟨none,0,0,rfl,by simpa using h1,fun h=>absurd h (by omega),fun h=>absurd h (by omega),fun j v hv=>?_⟩;have:=(zyL.1 hv).1;omega
 ·refine ⟨some ⟨g,0,none⟩,cap,g,rfl,by simpa using h1,fun _=>rfl,fun _=>rfl,fun j v hv=>?_⟩;have hc:w.ownsRow 0 e 1 (.slice (some ⟨g,0,none⟩) n cap) n xs:=⟨h1,.inr ⟨g,cap,cur,rfl,hg,hb,r⟩⟩;have:=hc.cells (g:=g) rfl j v hv;simpa [zbe] using this
def zoj (zac:List Cp.Nm) (x:Cp.Nm):Int:=match Cp.za9 zac x with|some i=>i|none=>-1
theorem zsH(a b:List UInt8):((⟨a.toArray⟩:ByteArray).toList == (⟨b.toArray⟩:ByteArray).toList)=(a == b):=by
 rw[ByteArray.toList_eq,ByteArray.toList_eq]
variable {zac:List Cp.Nm}{x:Cp.Nm}
theorem zrY{c:Nat}(h:zac[c]?=some x):Cp.zcq zac x (c+1)=some c:=by rw[Cp.zcq,if_pos h]
theorem zpQ{c:Nat}(h:¬ zac[c]?=some x):Cp.zcq zac x (c+1)=Cp.zcq zac x c:=by rw[Cp.zcq,if_neg h]
variable {base:Nat}{W:World}
theorem zg3{d:Nat}(h:W.heap[d]?=some (.deferred (some [])))(hb:base<=d):Marks base W [{ target:=.collected d,args:=#[] }]:=
 ⟨[d],rfl,by simp,fun d' iH=>by simp only[zzo,zzZ,or_false]at iH;subst iH;exact ⟨hb,h⟩⟩
variable {Z:Nat->Prop}{cb bb:Nat}{rv kv:Value}{fns:List Cp.Nm}{q:Cp.Bs}
theorem zok(h:BS Z w cb bb rv sv kv fns q)(x:Cp.Nm)(hl:q.zac.length<=1000000000):
  Calls prog 149 #[.pointer (some ⟨bb,0,none⟩),.string ⟨x.toArray⟩] w fun e w'=>e=.returned (.int .i64 (zoj q.zac x))/\Fr (fun _=>False) w w':=by
 obtain ⟨sp,cap,g,bA,dk,eB,jr,aN⟩:=zaO h.ziW;have c1:=Blk.cell h.zbY 1;simp at c1;have cV:=h.zbY.lt;subst bA;have fX:0<q.zac.length->g<w.heap.size:=fun h0=>h.slt g (jr h0)
 have qm:=zab aN;have Cd:=zab fX;have eg:=enters_of (P:=prog) func257 (by kernel_rfl) rfl;have HE:=zab eg;clear h aN fX jr eg;refine callsIn_wide.1 (callsIn_of_wp_marks (n:=5) func149 rfl trivial (wpIn_wide.2 ?_) rfl);simp only[ntmps149,zzr,zy8,zzm,Nat.reduceAdd,Nat.reduceSub,zzB,zzC,zzH,zzE,zzb,zy7];obtain ⟨Q,hQ⟩:∃ Q,bodyPostM Fence.wide 5 prog Tryz.f149 (fun e w'=>e=.returned (.int .i64 (zoj q.zac x))/\Fr (fun _=>False) w w')=Q:=⟨_,rfl⟩;have HQ:=zab hQ;rw[hQ];clear hQ;have n0:w.heap.size≠bb:=by omega
 have n1:w.heap.size+1≠bb:=by omega
 go_wp2_with fail
 refine (znr sp q.zac.length cap _).mono ?_;rintro e w2 ⟨rfl,aB⟩;simp only[World.size_alloc]at aB ⊢;have F2:Hid (Fr (fun _=>False) w w2):=zab (by rw[aB];exact (((Fr.refl _ _).alloc _).alloc _).alloc _);have BN:Hid (Blk w2 w.heap.size [.string ⟨x.toArray⟩] 9):=zab (by rw[aB];exact Fr.blk (K:=fun _=>False) (Blk.new w [.string ⟨x.toArray⟩] 9) (((Fr.refl _ _).alloc _).alloc _) (by simp));have BR:Hid (Blk w2 (w.heap.size+1) [.int .i64 0] 3):=zab (by
  rw[aB];have:=Blk.new (w.alloc (.cells #[.string ⟨x.toArray⟩] 9)) [.int .i64 0] 3;rw[World.size_alloc]at this;exact Fr.blk (K:=fun _=>False) this ((Fr.refl _ _).alloc _) (by simp))
 have BB:Hid (Blk w2 (w.heap.size+2) [.slice sp q.zac.length cap] 38):=zab (by
  rw[aB];have:=Blk.new ((w.alloc (.cells #[.string ⟨x.toArray⟩] 9)).alloc (.cells #[.int .i64 0] 3)) [.slice sp q.zac.length cap] 38;rw[World.size_alloc,World.size_alloc]at this;exact this)
 have mB:Hid (w2.heap.size=w.heap.size+3):=zab (by rw[aB];simp);clear aB c1 n0 n1;go_wp2_with fail
 have dJ:(strCells q.zac).length=q.zac.length:=zdA _;have l9:Iter 257 (w.heap.size+2) cap sp g (strCells q.zac):=fun l J Jr hY hJc W h0=>znq l _ cap sp g (strCells q.zac) (by omega) (fun h0=>eB (by omega)) J Jr hY hJc W h0
 obtain ⟨J,hJ⟩:∃ J:Nat->World->Prop,∀ i W,J i W↔(Fr (fun _=>False) w2 W/\i<=q.zac.length/\Cp.zcq q.zac x (q.zac.length-i)=Cp.za9 q.zac x):=⟨_,fun _ _=>zAz⟩;obtain ⟨Jr,zN⟩:∃ Jr:World->Prop,∀ W,Jr W↔(Fr (fun k=>k=w.heap.size+1) w2 W/\∃ c:Nat,Cp.za9 q.zac x=some c/\Blk W (w.heap.size+1) [.int .i64 c] 3):=⟨_,fun _=>zAz⟩;have HJ:=zab hJ;have ud:=zab zN;clear hJ zN;refine zp9 HE.o l9 rfl J Jr ?hall ?hput ?hputr ?h0 ?hJc ?hround ?hdone ?hret
 case hall=>exact fun i W o hW=>(HJ.o _ _).2 ⟨((HJ.o _ _).1 hW).1.alloc _,((HJ.o _ _).1 hW).2⟩
 case hput=>exact fun i W l xo o hW hl hx hc=>(HJ.o _ _).2 ⟨((HJ.o _ _).1 hW).1.putObj _ hl,((HJ.o _ _).1 hW).2⟩
 case hputr=>
  intro W l xo o hW hl hx hc;obtain ⟨h1,c,h2,h3⟩:=(ud.o W).1 hW;exact (ud.o _).2 ⟨h1.putObj _ hl,c,h2,h3.putObj hx hc _⟩
 case h0=>exact (HJ.o _ _).2 ⟨Fr.refl _ _,zy5 _,rfl⟩
 case hJc=>
  intro i W hW;obtain ⟨h1,h2,h3⟩:=(HJ.o i W).1 hW;refine ⟨?_,fun j v hv=>?_⟩
  ·rw[dJ];simpa using Blk.cell (Fr.blk BB.o h1 (by simp)) 0
  ·have h4:=qm.o j v hv;have hj:=(zyL.1 hv).1;exact (World.cell?_of_block (a:=⟨g,j,none⟩) (w:=w) ((F2.o.trans h1).block g (Cd.o (by omega)) (by simp))).trans h4
 case hdone=>
  intro W hW hD;obtain ⟨h1,h2,h3⟩:=(HJ.o _ W).1 hW;have aK:Cp.za9 q.zac x=none:=by
   rw[<-h3,dJ,zAx];rfl
  have bA:zoj q.zac x=-1:=by unfold zoj;rw[aK]
  have oo:=zab (Fr.blk BR.o h1 (by simp));have r0:=Blk.cell oo.o 0;have rf:=Blk.frozen oo.o 0;simp at r0;have H1:=zab h1;have HD:=zab hD;clear h1 h2 h3 hD;go_wp2_with fail
  rw[<-HQ.o];have aI:=mB.o;refine zcg (base:=w.heap.size) (I:=fun W'=>Fr (fun _=>False) w W'/\Blk W' (w.heap.size+1) [.int .i64 (-1)] 3) (by simp) (fun W' d bQ hd iX=>⟨bQ.1.putObj _ hd,bQ.2.putObj iX (by simp) _⟩) (fun W' bQ=>?_) (zg3 ?_ (by omega)) ⟨(F2.o.trans H1.o).set _ _ (.inr (zz8 _)),oo.o.set 0 _⟩
  ·have r:=Blk.cell bQ.2 0;simp at r;refine ⟨.int .i64 (-1),?_,by rw[bA],bQ.1⟩;simp[results,Tryz.results149,go_sem,r]
  ·rw[Below.heap_setCell _ _ _ _ (by simp;omega)];exact HD.o
 case hret=>
  intro W hW hD;obtain ⟨h1,c,h2,h3⟩:=(ud.o W).1 hW;have bA:zoj q.zac x=c:=by unfold zoj;rw[h2]
  show Q _ _ _;rw[<-HQ.o];have aI:=mB.o;refine zcg (base:=w.heap.size) (I:=fun W'=>Fr (fun _=>False) w W'/\Blk W' (w.heap.size+1) [.int .i64 c] 3) (by simp) (fun W' d bQ hd iX=>⟨bQ.1.putObj _ hd,bQ.2.putObj iX (by simp) _⟩) (fun W' bQ=>?_) (zg3 hD (by omega)) ⟨F2.o.drop h1 (fun i hi=>by omega),h3⟩;have r:=Blk.cell bQ.2 0;simp at r;refine ⟨.int .i64 c,?_,by rw[bA],bQ.1⟩;simp[results,Tryz.results149,go_sem,r]
 case hround=>
  intro l i c v W hJ oU hv;obtain ⟨y,hy,rfl⟩:=zjY hv;rw[dJ]at oU;have CQ:Hid (∀ W2,J i W2->Cp.zcq q.zac x (c+1)=Cp.za9 q.zac x):=zab (fun W2 h2=>by
   obtain ⟨_,_,h3⟩:=(HJ.o i W2).1 h2
   rwa [show q.zac.length-i=c+1 by omega]at h3)
  have zg:=zab hy;clear hv hJ hy;simp only[zyO,zyZ,zyW]
  gi_wp2
  refine ⟨trivial,?_⟩;intro W2 h2 hD ma;obtain ⟨h1,hi,h3⟩:=(HJ.o i W2).1 h2;have mU:=CQ.o W2 h2;have b0:W2.cell? ⟨w.heap.size,0,none⟩=some (.string ⟨x.toArray⟩):=by simpa using Blk.cell (Fr.blk BN.o h1 (by simp)) 0
  have oo:=zab (Fr.blk BR.o h1 (by simp));have r0:=Blk.cell oo.o 0;have rf:=Blk.frozen oo.o 0;simp at r0;have qI:=zab mU;have H1:=zab h1;have aI:=mB.o;have qy:Hid (∀ u:Value,(W2.setCell ⟨w.heap.size+1,0,none⟩ u).heap[w2.heap.size]?=W2.heap[w2.heap.size]?/\(W2.setCell ⟨w.heap.size+1,0,none⟩ u).heap[w2.heap.size+1]?=W2.heap[w2.heap.size+1]?):=
   zab (fun u=>⟨Below.heap_setCell _ _ _ _ (by simp;omega),Below.heap_setCell _ _ _ _ (by simp;omega)⟩)
  clear aI mU h1 h3 h2 hD ma;have Af:=zsH y x;by_cases nh:y=x
  ·subst nh;rw[show (y == y)=true by simp]at Af
   gi_wp2
   refine ⟨(ud.o _).2 ⟨(H1.o.mono (fun _ h=>h.elim)).set _ _ (.inl rfl),c,?_,oo.o.set 0 _⟩,qy.o _⟩;rw[<-qI.o];exact zrY zg.o
  ·have aw:(y == x)=false:=by simpa using nh
   rw[aw]at Af;have bD:((⟨y.toArray⟩:ByteArray)=⟨x.toArray⟩)=False:=by
    simp only[eq_iff_iff,iff_false];intro e;exact nh (by simpa using congrArg (fun b:ByteArray=>b.data.toList) e)
   gi_wp2
   refine ⟨(HJ.o _ _).2 ⟨H1.o,by omega,?_⟩,rfl,rfl⟩;rw[show q.zac.length-(i+1)=c by omega,<-qI.o];refine (zpQ ?_).symm;rw[zg.o];simpa using nh
variable {K:Nat->Prop}{w':World}{size:Nat}
theorem Row.frc(h:Row Z w e size v n xs)(f:Fr K w w')(hK:∀ k cs t z,w.heap[k]?=some (.cells cs t z)->¬ K k):Row Z w' e size v n xs:=by
 refine ⟨?_,h.2⟩;obtain ⟨⟨h1,h2⟩,_⟩:=h;refine ⟨h1,?_⟩;rcases h2 with h2|⟨g,cap,cur,hv,hg,hb,r⟩
 ·exact .inl h2
 ·exact .inr ⟨g,cap,cur,hv,hg,by rw[f.block g (zyY.1 hb).1 (hK g _ _ _ hb)];exact hb,r⟩
theorem zhO(h:w.ownsRow 0 e size v n xs)(f:Fr K w w')(hK:∀ k cs t z,w.heap[k]?=some (.cells cs t z)->¬ K k):w'.ownsRow 0 e size v n xs:=
 (Row.frc (Z:=fun _=>True) ⟨h,fun _ _=>trivial⟩ f hK).1
theorem zo5.frc{Z K:Nat->Prop}{w w':World}{v:Value}{i:Ins}(h:zo5 Z w v i)(f:Fr K w w')(hK:∀ k cs t z,w.heap[k]?=some (.cells cs t z)->¬ K k):zo5 Z w' v i:=by
 cases i <;> first|exact h|(obtain ⟨av,h1,h2,h3⟩:=h;exact ⟨av,h1,h2.frc f hK,h3⟩)
theorem zdO.frc{Z K:Nat->Prop}{w w':World}{vs:List Value}{is:List Ins}(h:zdO Z w vs is)(f:Fr K w w')(hK:∀ k cs t z,w.heap[k]?=some (.cells cs t z)->¬ K k):zdO Z w' vs is:=
 ⟨h.1,fun j v x hv hx=>(h.2 j v x hv hx).frc f hK⟩
theorem zir.frc{Z K:Nat->Prop}{w w':World}{v:Value}{is:List Ins}(h:zir Z w v is)(f:Fr K w w')(hK:∀ k cs t z,w.heap[k]?=some (.cells cs t z)->¬ K k):zir Z w' v is:=by
 obtain ⟨vs,h1,h2⟩:=h;exact ⟨vs,h1.frc f hK,h2.frc f hK⟩
variable {vs:List Value}
theorem Blk.frc{b:Nat}{t:TypeId}(h:Blk w b vs t)(f:Fr K w w')(hK:∀ k cs t z,w.heap[k]?=some (.cells cs t z)->¬ K k):Blk w' b vs t:=Fr.blk h f (hK b _ _ _ h)
theorem BS.frc{Z K:Nat->Prop}{w w':World}{cb bb:Nat}{rv sv kv:Value}{fns:List Cp.Nm}{q:Cp.Bs}(h:BS Z w cb bb rv sv kv fns q)(f:Fr K w w')(hK:∀ k cs t z,w.heap[k]?=some (.cells cs t z)->¬ K k):BS Z w' cb bb rv sv kv fns q:=by
 obtain ⟨fv,bH,bT⟩:=h.zkt;obtain ⟨cP,dd,cg,jc⟩:=h.zkI;obtain ⟨vs,cK,aG⟩:=h.znV;exact ⟨⟨fv,bH.frc f hK,bT.frc f hK⟩,h.zbY.frc f hK,⟨cP,dd,zhO cg f hK,fun i b cv h1 h2=>(jc i b cv h1 h2).frc f hK⟩,zhO h.ziW f hK,⟨vs,zhO cK f hK,aG.frc f hK⟩,fun k hk=>zyS (h.zlt k hk) f.size,h.zk,h.ne,h.rc,h.sc,h.kc,h.rs,h.rk,h.sk⟩
theorem BS.fr0(h:BS Z w cb bb rv sv kv fns q)(f0:Fr (fun _=>False) w w'):BS Z w' cb bb rv sv kv fns q:=h.frc f0 (by simp)
theorem zhN{k:Nat}(h:w.ownsRow 0 e size v n xs)(hk:v.ownBlock=some k):∃ cs t z,w.heap[k]?=some (.cells cs t z):=by
 rcases h.2 with ⟨rfl,_⟩|⟨g,cap,cur,rfl,_,hb,_⟩
 ·cases hk
 ·simp only[Value.ownBlock,zyP]at hk;subst hk;exact ⟨_,_,_,hb⟩
theorem BS.zfx{k:Nat}(h:BS Z w cb bb rv sv kv fns q)(hk:KL cb bb rv sv kv k):∃ cs t z,w.heap[k]?=some (.cells cs t z):=by
 obtain ⟨fv,bH,_⟩:=h.zkt;obtain ⟨cP,_,cg,_⟩:=h.zkI;obtain ⟨vs,cK,_⟩:=h.znV;rcases hk with rfl|rfl|e|e|e
 ·exact ⟨_,_,_,bH⟩
 ·exact ⟨_,_,_,h.zbY⟩
 ·exact zhN cg e
 ·exact zhN h.ziW e
 ·exact zhN cK e
theorem ztT{l:Nat}{x:Obj}(hx:w.heap[l]?=some x)(hc:∀ cs t f,x≠.cells cs t f):∀ k cs t z,w.heap[k]?=some (.cells cs t z)->¬ k=l:=by
 intro k cs t z hk e;subst e;rw[hk]at hx;cases hx;exact hc _ _ _ rfl
theorem Did.alloc{Z:Nat->Prop}{w w':World}{cb bb:Nat}{rv sv kv:Value}{fns:List Cp.Nm}{q:Cp.Bs}(h:Did Z w cb bb rv sv kv fns q w')(o:Obj):Did Z w cb bb rv sv kv fns q (w'.alloc o):=by
 obtain ⟨Z',aO,sv',bG,h1,h2,h3,h4,h5,h6⟩:=h;exact ⟨Z',aO,sv',bG,h1,h2.fr0 ((Fr.refl _ _).alloc _),h3.alloc _,h4,h5,h6⟩
theorem Did.putObj{Z:Nat->Prop}{w w':World}{cb bb l:Nat}{rv sv kv:Value}{fns:List Cp.Nm}{q:Cp.Bs}(h:Did Z w cb bb rv sv kv fns q w'){x:Obj}(o:Obj)(hl:w.heap.size<=l)(hx:w'.heap[l]?=some x)(hc:∀ cs t f,x≠.cells cs t f):Did Z w cb bb rv sv kv fns q (w'.putObj l o):=by
 obtain ⟨Z',aO,sv',bG,h1,h2,h3,h4,h5,h6⟩:=h;have f:Fr (fun k=>k=l) w' (w'.putObj l o):=⟨rfl,rfl,rfl,by rw[World.putObj_size];exact zyN _,fun i _ hi=>World.putObj_heap_other hi⟩;exact ⟨Z',aO,sv',bG,h1,h2.frc f (ztT hx hc),h3.putObj _ hl,h4,h5,h6⟩
theorem Did.fr0{w1 w2:World}{q2:Cp.Bs}(f0:Fr (fun _=>False) w w1)(d:Did Z w1 cb bb rv sv kv fns q2 w2):Did Z w cb bb rv sv kv fns q2 w2:=
 Did.trans (fun _ _=>zAz) (f0.mono (fun _ h=>h.elim)) (New.refl _ _) (New.refl _ _) (New.refl _ _) d
theorem zyi{a b:List UInt8}:((⟨a.toArray⟩:ByteArray)=⟨b.toArray⟩)↔a=b:=by
 constructor
 ·intro e;simpa using congrArg (fun b:ByteArray=>b.data.toList) e
 ·rintro rfl;rfl
theorem zls(x:Cp.Nm):∀ (l:List Cp.Nm) (i:Nat),x∈l->Lib.idxFromS (l.map fun s=>(⟨s.toArray⟩:ByteArray)) ⟨x.toArray⟩ i=((i+l.idxOf x:Nat):Int)
 |[],_,h=>by cases h
 |y::l,i,h=>by
  by_cases nh:y=x
  ·subst nh;simp[Lib.idxFromS]
  ·have hx:x∈l:=by
    rcases zzo.1 h with e|e
    ·exact absurd e.symm nh
    ·exact e
   have ih:=zls x l (i+1) hx;have aH:¬ ((⟨y.toArray⟩:ByteArray)=⟨x.toArray⟩):=fun e=>nh (zyi.1 e)
   simp only[zza,Lib.idxFromS,aH,if_false,ih];rw[List.idxOf_cons];simp only[show (y == x)=false by simpa using nh,cond_false];omega
variable {l:List Cp.Nm}
theorem zrX(h:x∈l):Lib.idxOfS (l.map fun s=>(⟨s.toArray⟩:ByteArray)) ⟨x.toArray⟩=(l.idxOf x:Int):=by
 unfold Lib.idxOfS;rw[zls x l 0 h,zzG]
variable {fv:Value}
theorem znS(h:Row Z w 9 1 fv fns.length (strCells fns))(hl:fns.length<=1000000000)(hx:x∈fns):
  Calls prog 55 #[fv,.string ⟨x.toArray⟩] w fun e w'=>e=.returned (.int .i64 (fns.idxOf x:Nat))/\w'=w:=by
 have bp:0<fns.length:=List.length_pos_of_mem hx;obtain ⟨sp,cap,g,rfl,dk,eB,_,aN⟩:=zaO h.1;rw[eB bp];have e:=Tryz.slices_Index_string g 0 fns.length cap (fns.map fun s=>(⟨s.toArray⟩:ByteArray)) ⟨x.toArray⟩ w (by simp) (by omega) (fun j hj=>by
  rw[List.length_map]at hj;have h1:(strCells fns)[j]?=some (.string ⟨(fns[j]).toArray⟩):=by simp[strCells,hj]
  have:=aN j _ h1;simpa [hj] using this)
 rw[zy9 (by simp),zrX hx]at e;exact e
theorem zuK(h:BS Z w cb bb rv sv kv fns q)(x:Cp.Nm)(hin:Cp.za9 q.zac x=none->x∈fns)(hl:q.code.length<=1000000000)(aC:q.zac.length<=1000000000)(cW:fns.length<=1000000000):
  Calls prog 164 #[.pointer (some ⟨bb,0,none⟩),.string ⟨x.toArray⟩] w fun e w'=>e=.returned (.tuple #[])/\Did Z w cb bb rv sv kv fns (q.use fns x) w':=by
 have CS:=zab (zok h x aC);have HH:=zab h;clear h;unfold zoj at CS;unfold Cp.Bs.use;cases hs:Cp.za9 q.zac x with
 |some i=>
  rw[hs]at CS;simp only at CS;clear hin hs;have dt:(0:Int)<=(i:Int):=by omega
  go_enter func164,ntmps164
  go_wp2_with fail
  refine CS.o.mono ?_;rintro e w1 ⟨rfl,f1⟩;have F1:=zab f1;have CP:=zab (zbn (i:=.push i) (HH.o.fr0 f1) rfl hl aC);clear f1 CS;go_wp2_with fail
  refine CP.o.mono ?_;rintro e w2 ⟨rfl,D2⟩;have HD:=zab (Did.fr0 F1.o D2);clear D2;go_wp2_with fail
  first|go_end0|refine bodyPost_ret (results_none rfl _ _ _) rfl ?_
  exact ⟨rfl,HD.o⟩
 |none=>
  rw[hs]at CS;simp only at CS;have hx:=hin hs;clear hin hs;go_enter func164,ntmps164
  go_wp2_with fail
  refine CS.o.mono ?_;rintro e w1 ⟨rfl,f1⟩;have F1:=zab f1;have aA:=HH.o.fr0 f1;obtain ⟨fv,bH,bT⟩:=aA.zkt;have CI:=zab (znS bT cW hx);have b0:=Blk.cell aA.zbY 0;have d0:=Blk.cell bH 0;simp at b0 d0;have CP:=zab (zbn (i:=.zcW (fns.idxOf x)) aA rfl hl aC);clear f1 CS aA bH bT;go_wp2_with fail
  refine CI.o.mono ?_;rintro e w2 ⟨rfl,aB⟩;subst w2;clear b0 d0 CI;go_wp2_with fail
  refine CP.o.mono ?_;rintro e w2 ⟨rfl,D2⟩;have HD:=zab (Did.fr0 F1.o D2);clear D2;go_wp2_with fail
  first|go_end0|refine bodyPost_ret (results_none rfl _ _ _) rfl ?_
  exact ⟨rfl,HD.o⟩
theorem zjU{zac:List Cp.Nm}{x:Cp.Nm}(hx:x≠[]):∀ k,k<=zac.length->Cp.zcq (zac++[[]]) x k=Cp.zcq zac x k
 |0,_=>rfl
 |k+1,hk=>by
  rw[Cp.zcq,Cp.zcq,zzc (by omega),zjU hx k (by omega)]
theorem zpR(hx:x≠[]):Cp.za9 (zac++[[]]) x=Cp.za9 zac x:=by
 unfold Cp.za9;rw[zyT,zy0,Cp.zcq,if_neg,zjU hx _ (zyN _)];rw[zy3 (zyN _),zAx];simpa using hx
theorem zoR(fns:List Cp.Nm)(q:Cp.Bs)(x:Cp.Nm):(q.use fns x).zac=q.zac++[[]]/\(q.use fns x).code.length=q.code.length+1/\(q.use fns x).blocks=q.blocks:=by
 unfold Cp.Bs.use;split <;> simp[Cp.Bs.push]
theorem zbv(fns:List Cp.Nm):∀ (l:List Cp.Nm) (q:Cp.Bs),(l.foldl (Cp.Bs.use fns) q).zac.length=q.zac.length+l.length/\(l.foldl (Cp.Bs.use fns) q).code.length=q.code.length+l.length/\(∀ x,x≠[]->Cp.za9 (l.foldl (Cp.Bs.use fns) q).zac x=Cp.za9 q.zac x)
 |[],q=>⟨rfl,rfl,fun _ _=>rfl⟩
 |y::l,q=>by
  obtain ⟨h1,h2,h3⟩:=zbv fns l (q.use fns y);obtain ⟨u1,u2,_⟩:=zoR fns q y;simp only[zz2,zy8];refine ⟨by rw[h1,u1,zyT,zy0];omega,by rw[h2,u2];omega,fun x hx=>?_⟩;rw[h3 x hx,u1,zpR hx]
variable {nv:Value}
theorem zbU{names:List Cp.Nm}(h:BS Z w cb bb rv sv kv fns q)(af:Row Z w 9 1 nv names.length (strCells names))(hin:∀ x∈names,x≠[]/\(Cp.za9 q.zac x=none->x∈fns))(hl:q.code.length+names.length<=1000000000)(aC:q.zac.length+names.length<=1000000000)(cW:fns.length<=1000000000):
  Calls prog 153 #[.pointer (some ⟨bb,0,none⟩),nv] w fun e w'=>e=.returned (.tuple #[])/\Did Z w cb bb rv sv kv fns (q.zak fns names) w':=by
 obtain ⟨sp,cap,g,ay,dk,eB,jr,aN⟩:=zaO af.1;subst ay;have AZ:0<names.length->Z g:=fun h0=>af.2 g (jr h0)
 have qm:=zab aN;have Dd:=zab AZ;have HE:=zab (enters_of (P:=prog) func257 (by kernel_rfl) rfl);have HH:=zab h;have oz:=zab hin;have cV:=h.zbY.lt;clear h aN AZ jr af hin;refine callsIn_wide.1 (callsIn_of_wp_marks (n:=5) func153 rfl trivial (wpIn_wide.2 ?_) rfl);simp only[ntmps153,zzr,zy8,zzm,Nat.reduceAdd,Nat.reduceSub,zzB,zzC,zzH,zzE,zzb,zy7];obtain ⟨Q,hQ⟩:∃ Q,bodyPostM Fence.wide 5 prog Tryz.f153 (fun e w'=>e=.returned (.tuple #[])/\Did Z w cb bb rv sv kv fns (q.zak fns names) w')=Q:=⟨_,rfl⟩;have HQ:=zab hQ;rw[hQ];clear hQ;go_wp2_with fail
 refine (znr sp names.length cap _).mono ?_;rintro e w2 ⟨rfl,aB⟩;simp only[World.size_alloc]at aB ⊢;have F2:Hid (Fr (fun _=>False) w w2):=zab (by rw[aB];exact ((Fr.refl _ _).alloc _).alloc _);have qh:Hid (Blk w2 w.heap.size [.pointer (some ⟨bb,0,none⟩)] 100):=zab (by rw[aB];exact Fr.blk (K:=fun _=>False) (Blk.new w [.pointer (some ⟨bb,0,none⟩)] 100) ((Fr.refl _ _).alloc _) (by simp));have uX:Hid (Blk w2 (w.heap.size+1) [.slice sp names.length cap] 38):=zab (by
  rw[aB];have:=Blk.new (w.alloc (.cells #[.pointer (some ⟨bb,0,none⟩)] 100)) [.slice sp names.length cap] 38;rw[World.size_alloc]at this;exact this)
 have mB:Hid (w2.heap.size=w.heap.size+2):=zab (by rw[aB];simp);clear aB;go_wp2_with fail
 have dJ:(strCells names).length=names.length:=zdA _;have l9:Iter 257 (w.heap.size+1) cap sp g (strCells names):=fun l J Jr hY hJc W h0=>znq l _ cap sp g (strCells names) (by omega) (fun h0=>eB (by omega)) J Jr hY hJc W h0
 obtain ⟨J,hJ⟩:∃ J:Nat->World->Prop,∀ i W,J i W↔(i<=names.length/\Did Z w2 cb bb rv sv kv fns ((names.drop (names.length-i)).reverse.foldl (Cp.Bs.use fns) q) W):=⟨_,fun _ _=>zAz⟩;have HJ:=zab hJ;clear hJ;have ga:Hid (∀ k,w.heap.size<=k->¬ KL cb bb rv sv kv k):=zab (fun k hk he=>by
  have h:=HH.o;rcases he with e|e|e|e|e
  ·have:=h.clt;omega
  ·omega
  ·have:=h.rlt k e;omega
  ·have:=h.slt k e;omega
  ·have:=h.klt k e;omega)
 refine zp9 HE.o l9 rfl J (fun _=>False) ?hall ?hput ?hputr ?h0 ?hJc ?hround ?hdone ?hret
 case hall=>exact fun i W o hW=>(HJ.o _ _).2 ⟨((HJ.o _ _).1 hW).1,((HJ.o _ _).1 hW).2.alloc _⟩
 case hput=>exact fun i W l xo o hW hl hx hc=>(HJ.o _ _).2 ⟨((HJ.o _ _).1 hW).1,((HJ.o _ _).1 hW).2.putObj _ hl hx hc⟩
 case hputr=>exact fun _ _ _ _ h=>h.elim
 case h0=>exact (HJ.o _ _).2 ⟨zy5 _,by rw[zAl,zz6 (zyN _)];exact Did.refl (HH.o.fr0 F2.o)⟩
 case hJc=>
  intro i W hW;obtain ⟨_,Z',aO,sv',bG,_,_,f3,_⟩:=(HJ.o i W).1 hW;refine ⟨?_,fun j v hv=>?_⟩
  ·rw[dJ];simpa using Blk.cell (Fr.blk uX.o f3 (ga.o _ (by omega))) 0
  ·have h4:=qm.o j v hv;have hj:=(zyL.1 hv).1;have hg:=Dd.o (by omega);have fX:=HH.o.zlt g hg;refine (World.cell?_of_block (a:=⟨g,j,none⟩) (w:=w) ?_).trans h4;exact (f3.block g (zyS fX F2.o.size) (HH.o.zk g hg)).trans (F2.o.block g fX (by simp))
 case hret=>exact fun _ h=>h.elim
 case hdone=>
  intro W hW hD;obtain ⟨_,hd⟩:=(HJ.o _ W).1 hW;rw[dJ,zAx,zzY]at hd;show Q _ _ _;rw[<-HQ.o];refine zcg (base:=w2.heap.size) (I:=fun W'=>Did Z w2 cb bb rv sv kv fns (q.zak fns names) W') (by simp) (fun W' d bQ iH iX=>bQ.putObj _ iH iX (by simp)) (fun W' bQ=>?_) (zg3 hD (zyN _)) hd;exact ⟨_,results_none rfl _ _ _,rfl,Did.fr0 F2.o bQ⟩
 case hround=>
  intro l i c v W hJ oU hv;obtain ⟨y,hy,rfl⟩:=zjY hv;rw[dJ]at oU;have yl:=(zyL.1 hy).1;have HY:=zab hy;clear hv hJ hy;simp only[zyO,zyZ,zyW]
  gi_wp2
  refine ⟨trivial,?_⟩;intro W2 h2 hD ma;obtain ⟨hi,Z',aO,sv',bG,hz,hb,f3,n1,n2,n3⟩:=(HJ.o i W2).1 h2;obtain ⟨u1,u2,u3⟩:=zbv fns (names.drop (names.length-i)).reverse q;rw[zy4,zzu]at u1 u2;obtain ⟨bE,lL⟩:=oz.o y (zy1 HY.o);have b0:W2.cell? ⟨w.heap.size,0,none⟩=some (.pointer (some ⟨bb,0,none⟩)):=by simpa using Blk.cell (Fr.blk qh.o f3 (ga.o _ (zyN _))) 0
  have CU:=zab (zuK hb y (by rw[u3 y bE];exact lL) (by omega) (by omega) cW);have vB:Hid ((names.drop (names.length-(i+1))).reverse.foldl (Cp.Bs.use fns) q=Cp.Bs.use fns ((names.drop (names.length-i)).reverse.foldl (Cp.Bs.use fns) q) y):=zab (by
   have e1:names.length-(i+1)=c:=by omega
   have e2:names.length-i=c+1:=by omega
   rw[e1,e2,zzs yl,show names[c]=y from (zyL.1 HY.o).2,List.reverse_cons,List.foldl_append];rfl)
  have qy:Hid (∀ w6,Fr (KL cb bb aO sv' bG) W2 w6->w6.heap[w2.heap.size]?=W2.heap[w2.heap.size]?/\w6.heap[w2.heap.size+1]?=W2.heap[w2.heap.size+1]?):=zab (fun w6 f6=>by
   obtain ⟨rl,bd⟩:=ma;refine ⟨f6.block _ (zyY.1 hD).1 (fun e=>?_),f6.block _ (zyY.1 bd).1 (fun e=>?_)⟩
   ·obtain ⟨_,_,_,h9⟩:=hb.zfx e;rw[hD]at h9;cases h9
   ·obtain ⟨_,_,_,h9⟩:=hb.zfx e;rw[bd]at h9;cases h9)
  have qp:=zab (And.intro hi (And.intro hz (And.intro f3 (And.intro n1 (And.intro n2 n3)))));clear h2 hD ma hi hz hb f3 n1 n2 n3 u1 u2 u3 bE lL
  gi_wp2
  refine ⟨trivial,rfl,(zcY CU.o).mono ?_⟩;rintro e w6 ⟨rfl,D6⟩;have qo:=zab D6;clear D6 b0
  gi_wp2
  refine ⟨(HJ.o _ _).2 ⟨by omega,?_⟩,?_⟩
  ·rw[vB.o];obtain ⟨hi,hz,f3,n1,n2,n3⟩:=qp.o;exact Did.trans hz f3 n1 n2 n3 qo.o
  ·obtain ⟨_,_,_,_,_,_,f6,_⟩:=qo.o;exact qy.o _ f6
end Go.Proofs.YtgahgkddaljmkaaGreatDoor
namespace Go.Proofs.YtgahgkddaljmkaaGreatDoor
open Tryz
open Go.RowKit Go.Shelf
attribute [local go_sem ↓] Go.wp_at_zero Go.wp_at_succ
theorem zyB(w:World):(binOp .eql 38 (.slice none 0 0) (.slice none 0 0)).run prog w=.ok (.bool true) w:=by kernel_rfl
theorem zxQ(a:Addr)(n c:Nat)(w:World):(binOp .eql 38 (.slice (some a) n c) (.slice none 0 0)).run prog w=.ok (.bool false) w:=by kernel_rfl
variable {Z:Nat->Prop}{w:World}{nv:Value}{l:List Cp.Nm}
theorem zny(h:Row Z w 9 1 nv l.length (strCells l))(hl:l.length<=1000000):
  Calls prog 147 #[nv] w fun e w'=>∃ v',e=.returned v'/\w'.ownsRow w.heap.size 9 1 v' l.length (strCells l)/\Fr (fun _=>False) w w':=by
 have HH:=zab h;rcases zan h with hv|⟨g,cap,hv⟩
 ·subst hv;have da:l=[]:=by
   rcases h.1.2 with ⟨_,h0⟩|⟨_,_,_,h0,_⟩
   ·exact zzn.1 h0
   ·cases h0
  subst da;have qn:=zyB;clear h HH;go_enter func147,ntmps147
  go_wp2_with fail
  go_ret
  exact ⟨_,rfl,World.ownsRow_nil _ _ _ _,Fr.refl _ _⟩
 ·subst hv;have qn:=zxQ;clear h;go_enter func147,ntmps147
  have HV:Hid ((w.alloc (.cells #[] 9)).ownsRow w.heap.size 9 1 (.slice (some ⟨w.heap.size,0,none⟩) 0 0) ([]:List Cp.Nm).length (strCells [])):=zab ⟨rfl,.inr ⟨w.heap.size,0,#[],rfl,zyN _,Blk.new w [] 9,by simp,by simp[maxLen],rfl,rfl⟩⟩;have HX:Hid (Row Z (w.alloc (.cells #[] 9)) 9 1 (.slice (some ⟨g,0,none⟩) l.length cap) l.length (strCells l)):=zab (HH.o.frc (K:=fun _=>False) ((Fr.refl _ _).alloc _) (by simp));go_wp2_with (at_builtin;refine zfG (v:=.slice (some ⟨w.heap.size,0,none⟩) 0 0) (xv:=.slice (some ⟨g,0,none⟩) l.length cap) rfl _ _ rfl (l1:=[]) (l2:=l) (base:=w.heap.size) (S:=Z) rfl rfl HV.o HX.o (by simp) (by omega) (by simp) ?_;intro v' w' ho hg;have HO:=zab ho;have HG:=zab hg;clear ho hg)
  go_ret
  refine ⟨v',rfl,HO.o,((Fr.refl (fun _=>False) w).alloc (.cells #[] 9)).zjj HG.o (fun k hk e=>?_)⟩;simp only[Value.ownBlock,zyP]at e;omega
def zqf (w0:World) (g gf:Nat) (lb:Array Value) (p:Cp.Nm->Bool):Prop:=
 ∀ (W:World) (x:Cp.Nm),Fr (fun k=>k=g) w0 W->Calls prog gf (#[.string ⟨x.toArray⟩]++lb) W fun e W'=>e=.returned (.bool (p x))/\Fr (fun _=>False) W W'
def zic (p:Cp.Nm->Bool):List Cp.Nm->Nat->Int
 |[],_=>-1
 |x::l,i=>if p x=true then i else zic p l (i+1)
variable {g cap:Nat}
theorem zmp{gf:Nat}{lb:Array Value}{p:Cp.Nm->Bool}(eg:∀ args w,(callFunc gf args).run prog w=.ok (.enter gf args) w)(hp:zqf w g gf lb p)(h:w.ownsRow 0 9 1 (.slice (some ⟨g,0,none⟩) l.length cap) l.length (strCells l))(hl:l.length<=1000000):
  Calls prog 211 #[.slice (some ⟨g,0,none⟩) l.length cap,.func (.func gf) #[] lb] w fun e w'=>e=.returned (.int .i64 (zic p l 0))/\Fr (fun _=>False) w w':=by
 obtain ⟨_,_,g',bA,dk,_,_,aN⟩:=zaO h;have HH:=zab h;have HP:=zab hp;have EG:=eg;clear h hp aN eg;go_enter func211,ntmps211
 go_wp2_with fail
 go_loopg [8] l.length (fun gk iv wr=>∃ i:Nat,iv=.int .i64 i/\i+gk=l.length/\zic p (l.drop i) i=zic p l 0/\Fr (fun _=>False) w wr)
 case atStart=>exact ⟨0,rfl,by omega,rfl,Fr.refl _ _⟩
 case round=>
  obtain ⟨i,rfl,hi,hf,ak⟩:=hrel;have cY:=zab ak;clear ak;cases gk with
  |zero=>
   have nP:¬ (i:Int)<(l.length:Int):=by omega
   rw[zz6 (by omega)]at hf;have HF:=zab hf;clear hf;go_wp2_with fail
   go_ret
   exact ⟨by rw[<-HF.o];rfl,cY.o⟩
  |succ gk=>
   have nP:(i:Int)<(l.length:Int):=by omega
   have dt:(0:Int)<=(i:Int):=by omega
   obtain ⟨x,hx⟩:∃ x,l[i]?=some x:=⟨_,zyM (by omega)⟩;rw[zzs (by omega),show l[i]=x from (zyL.1 hx).2,zic]at hf;have ai:=zhO HH.o cY.o (by simp);have cx:wr.cell? ⟨g,i,none⟩=some (.string ⟨x.toArray⟩):=by
    have:=ai.cells (g:=g) rfl i (.string ⟨x.toArray⟩) (by simp[strCells,hx]);simpa [zbe] using this
   have CP:=zab (HP.o wr x (cY.o.mono (fun _ h=>h.elim)));have HF:=zab hf;clear hf ai hx;go_wp2_with fail
   refine CP.o.mono ?_;rintro e w2 ⟨rfl,f2⟩;have F2:=zab (cY.o.trans f2);clear f2 cx CP;cases hpx:p x with
   |true=>
    have hf:=HF.o;rw[hpx,if_pos rfl]at hf;have qq:=zab hf;clear hf hpx;go_wp2_with fail
    go_ret
    exact ⟨by rw[<-qq.o];rfl,F2.o⟩
   |false=>
    have hf:=HF.o;rw[hpx,if_neg (by simp)]at hf;have qq:=zab hf;clear hf hpx;go_wp2_with fail
    go_roundg gk
    case measure=>omega
    case rel=>exact ⟨i+1,by go_num,by omega,qq.o,F2.o⟩
variable {W:World}{i n:Nat}{vs:List Value}
theorem zsO(c:Nat)(ty:TypeId)(h:Blk W g vs 9)(hi:i<n)(hn:n<=vs.length):
  (Builtin.clear_ #[38] ty #[.slice (some ⟨g,i,none⟩) (n-i) c]).run prog W=.ok (.tuple #[]) (W.setRow g (vs.take i++List.replicate (n-i) (Value.string ⟨#[]⟩)++vs.drop n).toArray):=by
 obtain ⟨i0,dt,bq,aP,bF⟩:=info_parts zeR;have hu:prog.underlying 38=some (.slice 9):=underlying38;obtain ⟨m,hm⟩:∃ m,n-i=m+1:=⟨n-i-1,by omega⟩;have hz:(zeroValue 9).run prog W=.ok (.string ⟨#[]⟩) W:=by kernel_rfl
 have FD:(Builtin.zeroCells (Value.cells (.string ⟨#[]⟩)) (m+1)).toList=List.replicate (m+1) (Value.string ⟨#[]⟩):=by
  apply List.ext_getElem
  ·simp[Builtin.zeroCells,Value.cells]
  ·intro j h1 h2;simp[Builtin.zeroCells,Value.cells,Nat.mod_one]
 have dY:=run_storeCells_at (P:=prog) g i 9 (List.replicate (m+1) (Value.string ⟨#[]⟩)) 0 vs.toArray W h (by simp;omega) (by intro v hv;rw[zzQ hv];rfl);rw[hm];unfold Builtin.clear_;simp[Sem.run_bind,run_underlying hu,Result.andThen,hz,FD,dY];rw[show i+(m+1)=n by omega]
theorem zjf(p:Cp.Nm->Bool):∀ (l:List Cp.Nm) (i:Nat),(zic p l i=-1/\l.filter (fun x=>!p x)=l)\/∃ k,zic p l i=((i+k:Nat):Int)/\k<l.length/\(l.take (k+1)).filter (fun x=>!p x)=l.take k
 |[],_=>.inl ⟨rfl,rfl⟩
 |x::l,i=>by
  rw[zic];cases hp:p x with
  |true=>
   right;refine ⟨0,by simp,by simp,?_⟩;simp[hp]
  |false=>
   rw[if_neg (by simp)];rcases zjf p l (i+1) with ⟨h1,h2⟩|⟨k,h1,h2,h3⟩
   ·exact .inl ⟨h1,by rw[List.filter_cons,hp];simp[h2]⟩
   ·refine .inr ⟨k+1,by rw[h1];congr 1;omega,by simp;omega,?_⟩;rw[List.take_succ_cons,List.filter_cons,hp];simp only[Bool.not_false,if_true];rw[h3,List.take_succ_cons]
variable {base:Nat}{xs:List Value}
theorem ztI(h:w.ownsRow base 9 1 (.slice (some ⟨g,0,none⟩) n cap) n xs):∃ vs,Blk w g vs 9/\vs.length=cap/\n<=cap/\cap<=maxLen/\base<=g/\vs.take n=xs:=by
 rcases h.2 with ⟨h0,_⟩|⟨g',dU,cur,h0,hb,hg,hn,hm,hc,ht⟩
 ·cases h0
 ·cases h0;exact ⟨cur.toList,hg,by simpa using hc,hn,hm,hb,by simpa using ht⟩
theorem zgj(h:Blk w g vs 9)(h1:vs.length=cap)(h2:n<=cap)(h3:cap<=maxLen)(h4:base<=g)(h5:vs.take n=xs):w.ownsRow base 9 1 (.slice (some ⟨g,0,none⟩) n cap) n xs:=by
 refine ⟨by rw[<-h5,zzf];omega,.inr ⟨g,cap,vs.toArray,rfl,h4,h,h2,h3,by simp[h1],by simpa using h5⟩⟩
theorem zvl(hi:i<n)(hn:n<=cap):∀ W:World,(Instr.slice 38 (.slice (some ⟨g,0,none⟩) n cap) (some (.int .i64 (i:Int))) none none).run prog W=.ok (.slice (some ⟨g,i,none⟩) (n-i) (cap-i)) W:=by
 intro W;rw[run_slice_l W 38 _ _ _ underlying38 .i64 _ (by omega) (by omega)];have e3:prog.elem 38=9:=by kernel_rfl
 rw[e3,sizeOf9];simp only[Result.andThen,sliced,zy2,zAt,zzP,zbe,zzG];rw[if_neg (by omega)]
theorem zrU{vs':List Value}(h:Blk W g vs 9):Blk (W.setRow g vs'.toArray) g vs' 9/\Fr (fun k=>k=g) W (W.setRow g vs'.toArray):=by
 refine ⟨?_,(Fr.refl _ _).setRow g _ rfl⟩;unfold Blk at *;exact setRow_heap W g _ _ 9 _ h
theorem zf4{gf:Nat}{lb:Array Value}{p:Cp.Nm->Bool}(eg:∀ args w,(callFunc gf args).run prog w=.ok (.enter gf args) w)(hp:zqf w g gf lb p)(h:w.ownsRow base 9 1 (.slice (some ⟨g,0,none⟩) l.length cap) l.length (strCells l))(hl:l.length<=1000000):
  Calls prog 146 #[.slice (some ⟨g,0,none⟩) l.length cap,.func (.func gf) #[] lb] w fun e w'=>∃ n',e=.returned (.slice (some ⟨g,0,none⟩) n' cap)/\n'=(l.filter (fun x=>!p x)).length/\w'.ownsRow base 9 1 (.slice (some ⟨g,0,none⟩) n' cap) n' (strCells (l.filter (fun x=>!p x)))/\Fr (fun k=>k=g) w w':=by
 obtain ⟨uV,kf,AR,o6,lY,rR,mg⟩:=ztI h;have CI:=zab (zmp eg hp (za0 h (zy5 _)) hl);have HP:=zab hp;have dS:=zab kf;have HH:=zab h;have EG:=eg;clear h hp eg kf;rcases zjf p l 0 with ⟨h1,h2⟩|⟨k,h1,h2,h3⟩
 ·rw[h1]at CI;have HF:=zab h2;clear h1 h2;go_enter func146,ntmps146
  go_wp2_with fail
  refine CI.o.mono ?_;rintro e w1 ⟨rfl,f1⟩;have F1:=zab f1;clear f1;go_wp2_with fail
  go_ret
  refine ⟨l.length,rfl,by rw[HF.o],?_,F1.o.mono (fun _ h=>h.elim)⟩;rw[HF.o];exact zgj (Fr.blk dS.o F1.o (by simp)) AR o6 lY rR mg
 ·rw[h1,zzG]at CI;have EK:((k:Int) == -1)=false:=by rw[beq_eq_false_iff_ne];omega
  have HF:=zab h3;clear h1 h3;go_enter func146,ntmps146
  go_wp2_with fail
  refine CI.o.mono ?_;rintro e w1 ⟨rfl,f1⟩;have F1:=zab f1;clear f1;go_wp2_with fail
  go_loopg [5,6] (l.length-(k+1)) (fun gk iv jv wr=>∃ (i j:Nat) (vs:List Value),iv=.int .i64 i/\jv=.int .i64 j/\j+gk=l.length/\i<j/\Blk wr g vs 9/\vs.length=cap/\vs.take i=strCells ((l.take j).filter (fun x=>!p x))/\(∀ t,j<=t->t<l.length->vs[t]?=(strCells l)[t]?)/\Fr (fun k=>k=g) w wr)
  case atStart=>
   refine ⟨k,k+1,uV,rfl,by go_num,by omega,by omega,Fr.blk dS.o F1.o (by simp),AR,?_,fun t h1 h2=>?_,F1.o.mono (fun _ h=>h.elim)⟩
   ·rw[HF.o];have:uV.take k=(uV.take l.length).take k:=by rw[zAq,zzV (by omega)]
    rw[this,mg];simp[strCells]
   ·rw[<-mg,List.getElem?_take_of_lt h2]
  case round=>
   obtain ⟨i,j,vs,rfl,rfl,jm,ki,hb,dJ,qb,fR,ak⟩:=hrel;cases gk with
   |zero=>
    have sA:j=l.length:=by omega
    subst sA;have sy:¬ (l.length:Int)<(l.length:Int):=by omega
    rw[zy9 (zyN _)]at qb;have FL:=fun ty=>zsO (cap-i) ty hb (show i<l.length by omega) (show l.length<=vs.length by omega)
    have py:=zvl (g:=g) ki o6;have FM:=zql (g:=g) (n:=l.length) (d:=i) (show i<=cap by omega);obtain ⟨aw,zz⟩:=zrU (vs':=vs.take i++List.replicate (l.length-i) (Value.string ⟨#[]⟩)++vs.drop l.length) hb;have wI:=ak.trans zz;obtain ⟨W3,xb⟩:∃ W3,wr.setRow g (vs.take i++List.replicate (l.length-i) (Value.string ⟨#[]⟩)++vs.drop l.length).toArray=W3:=⟨_,rfl⟩;rw[xb]at aw wI;simp only[xb]at FL;have gA:=zab aw;have Bv:=zab wI;have uo:=zab qb;have As:(vs.take i++List.replicate (l.length-i) (Value.string ⟨#[]⟩)++vs.drop l.length).length=cap:=by simp;omega
    have aj:(vs.take i++List.replicate (l.length-i) (Value.string ⟨#[]⟩)++vs.drop l.length).take i=vs.take i:=by
     rw[zzk,List.take_append_of_le_length (by rw[zzf];omega),zAq,Nat.min_self]
    have yZ:=zab (And.intro As aj);have br:i=(l.filter (fun x=>!p x)).length:=by
     have e9:(vs.take i).length=(strCells (l.filter (fun x=>!p x))).length:=by rw[qb]
     rw[zdA,zzf,zzV (by omega)]at e9;exact e9
    have Ch:=zab br;clear hb aw zz wI xb ak qb As aj fR br;go_wp2_with fail
    go_ret
    refine ⟨i,rfl,Ch.o,?_,Bv.o⟩;exact zgj gA.o yZ.o.1 (by omega) lY rR (yZ.o.2.trans uo.o)
   |succ gk=>
    have gT:j<l.length:=by omega
    have sy:(j:Int)<(l.length:Int):=by omega
    have GG:(0:Int)<=(j:Int):=by omega
    have dt:(0:Int)<=(i:Int):=by omega
    have nP:(i:Int)<(l.length:Int):=by omega
    obtain ⟨x,hx⟩:∃ x,l[j]?=some x:=⟨_,zyM gT⟩;have cx:wr.cell? ⟨g,j,none⟩=some (.string ⟨x.toArray⟩):=by
     have:=Blk.cell hb j;rw[fR j (zyN _) gT]at this;rw[this];simp[strCells,hx]
    have CP:=zab (HP.o wr x ak);have qf:l.take (j+1)=l.take j++[x]:=zaJ hx;have zf:=zab qf;have BG:=zab hb;have kA:=zab ak;have uo:=zab qb;have y9:=zab fR;clear hb ak qb fR qf hx;go_wp2_with fail
    refine CP.o.mono ?_;rintro e w2 ⟨rfl,f2⟩;have F2:=zab (kA.o.trans (f2.mono (fun _ h=>h.elim)));have B2:=zab (Fr.blk BG.o f2 (by simp));clear f2 cx CP;cases hpx:p x with
    |true=>
     have HE:Hid ((l.take (j+1)).filter (fun x=>!p x)=(l.take j).filter (fun x=>!p x)):=zab (by rw[zf.o,List.filter_append];simp[hpx]);clear hpx;go_wp2_with fail
     go_roundg gk
     case measure=>omega
     case rel=>exact ⟨i,j+1,vs,rfl,by go_num,by omega,by omega,B2.o,dJ,by rw[HE.o];exact uo.o,fun t h1 h2=>y9.o t (by omega) h2,F2.o⟩
    |false=>
     have HE:Hid ((l.take (j+1)).filter (fun x=>!p x)=(l.take j).filter (fun x=>!p x)++[x]):=zab (by rw[zf.o,List.filter_append];simp[hpx]);have ci:=Blk.cell B2.o i;have AV:vs[i]?=some vs[i]:=zyM (by omega);rw[AV]at ci;have cf:=Blk.frozen B2.o i;have mw:=zab (B2.o.set i (.string ⟨x.toArray⟩));have qs:Hid (Fr (fun k=>k=g) w (w2.setCell ⟨g,i,none⟩ (.string ⟨x.toArray⟩))):=zab (F2.o.set _ _ (.inl rfl));clear hpx AV;go_wp2_with fail
     go_roundg gk
     case measure=>omega
     case rel=>
      refine ⟨i+1,j+1,vs.set i (.string ⟨x.toArray⟩),by go_num,by go_num,by omega,by omega,mw.o,by simpa using dJ,?_,fun t h1 h2=>?_,qs.o⟩
      ·rw[HE.o];have e1:(vs.set i (Value.string ⟨x.toArray⟩)).take (i+1)=vs.take i++[.string ⟨x.toArray⟩]:=by
        rw[zaJ (List.getElem?_set_self (by omega)),List.take_set_of_le (zyN _)]
       rw[e1,uo.o];simp[strCells]
      ·rw[zAo (by omega)];exact y9.o t (by omega) h2
variable {fv:Value}
theorem zmq :
  Calls prog 211 #[.slice none 0 0,fv] w fun e w'=>e=.returned (.int .i64 (-1))/\w'=w:=by
 go_enter func211,ntmps211
 go_wp2_with fail
 refine wp_loop_rounds 1 ?_;rw[rounds_succ];go_wp2_with fail
 go_ret
 exact ⟨rfl,rfl⟩
theorem zf5 :
  Calls prog 146 #[.slice none 0 0,fv] w fun e w'=>e=.returned (.slice none 0 0)/\w'=w:=by
 go_enter func146,ntmps146
 go_wp2_with fail
 refine zmq.mono ?_;rintro e w1 ⟨rfl,aD⟩;subst w1;go_wp2_with fail
 go_ret
 exact ⟨rfl,rfl⟩
variable {gv:Value}{gone:List Cp.Nm}
theorem zoY{bx:Nat}(hb:Blk w bx [gv] 38)(hr:w.ownsRow 0 9 1 gv gone.length (strCells gone))(hl:gone.length<=1000000)(x:Cp.Nm):
  Calls prog 213 #[.string ⟨x.toArray⟩,.pointer (some ⟨bx,0,none⟩)] w fun e w'=>e=.returned (.bool (gone.contains x))/\Fr (fun _=>False) w w':=by
 have c0:=Blk.cell hb 0;simp at c0;have tW:=zcJ hr hl ⟨x.toArray⟩;have e0:(⟨x.toArray⟩:ByteArray).data.toList=x:=by simp
 rw[e0]at tW;generalize gone.contains x=bv at tW ⊢;have CC:=zab tW;clear hb hr tW;go_enter func213,ntmps213
 go_wp2_with fail
 refine CC.o.mono ?_;rintro e w1 ⟨rfl,aD⟩;subst w1;go_wp2_with fail
 go_ret
 exact ⟨rfl,Fr.refl _ _⟩
variable {Z1 Z2:Nat->Prop}{lv:Value}
theorem zkm(h1:Row Z1 w 9 1 lv l.length (strCells l))(h2:Row Z2 w 9 1 gv gone.length (strCells gone))(aL:l.length<=1000000)(aC:gone.length<=1000000):
  Calls prog 152 #[lv,gv] w fun e w'=>∃ v',e=.returned v'/\w'.ownsRow w.heap.size 9 1 v' (Cp.zaH l gone).length (strCells (Cp.zaH l gone))/\Fr (fun _=>False) w w':=by
 have mc:∀ (fn:Fn) (first cap:Array Value) (w:World),(Instr.makeFunc fn first cap).run prog w=.ok (.func fn first cap) w:=fun _ _ _ _=>rfl
 obtain ⟨gp,gc,gg,ie,_⟩:=zaO h2.1;subst ie;have F1:Hid (Fr (fun _=>False) w (w.alloc (.cells #[.slice gp gone.length gc] 38))):=zab ((Fr.refl _ _).alloc _);have B1:=zab (Blk.new w [.slice gp gone.length gc] 38);have CC:=zab (zny (h1.frc F1.o (by simp)) aL);have H2:=zab h2;have EG:=enters_of (P:=prog) func213 (by kernel_rfl) rfl;have vy:=zab EG;clear h1 h2 EG;go_enter func152,ntmps152
 go_wp2_with fail
 refine CC.o.mono ?_;rintro e w2 ⟨v',rfl,ai,f2⟩;have F2:=zab (F1.o.trans f2);have B2:=zab (Fr.blk B1.o f2 (by simp));have HO:=zab ai;have cT:=World.size_alloc w (.cells #[.slice gp gone.length gc] 38);rcases zan (Row.zaE ai) with hv|⟨g,cap,hv⟩
 ·subst hv;have da:l=[]:=by
   rcases ai.2 with ⟨_,h0⟩|⟨_,_,_,h0,_⟩
   ·exact zzn.1 h0
   ·cases h0
  subst da;clear ai f2 CC cT;go_wp2_with fail
  refine zf5.mono ?_;rintro e w3 ⟨rfl,bL⟩;subst w3;go_wp2_with fail
  go_ret
  exact ⟨_,rfl,World.ownsRow_nil _ _ _ _,F2.o⟩
 ·subst hv;have fX:w.heap.size+1<=g:=by have:=(ai.lt g rfl).1;omega
  have hp:zqf w2 g 213 #[.pointer (some ⟨w.heap.size,0,none⟩)] (fun x=>gone.contains x):=fun W x fW=>by
   have hr:Row (fun _=>True) W 9 1 (.slice gp gone.length gc) gone.length (strCells gone):=by
    refine Row.frz (Z:=fun k=>k<w.heap.size) (K:=fun k=>k=g) ?_ fW (fun k hk hz e=>by omega) (fun _ _ _=>trivial);exact ⟨(Row.frc H2.o F2.o (by simp)).1,fun k hk=>(H2.o.1.lt k hk).2⟩
   exact zoY (Fr.blk B2.o fW (by omega)) hr.1 aC x
  have CD:=zab (zf4 vy.o hp ai aL);clear ai f2 CC hp cT;go_wp2_with fail
  refine CD.o.mono ?_;rintro e w3 ⟨n',rfl,hn,nU,f3⟩;have qB:=zab nU;have F3:=zab (F2.o.drop f3 (fun i hi e=>by omega));have HN:=zab hn;clear nU f3 CD hn;go_wp2_with fail
  go_ret
  have hn:=HN.o;subst hn;exact ⟨_,rfl,za0 qB.o (by rw[World.size_alloc];omega),F3.o⟩
variable {cb bb:Nat}{rv sv kv:Value}{fns:List Cp.Nm}{q:Cp.Bs}
theorem zth{bx:Nat}(hb:Blk w bx [.pointer (some ⟨bb,0,none⟩)] 100)(h:BS Z w cb bb rv sv kv fns q)(hl:q.zac.length<=1000000000)(x:Cp.Nm):
  Calls prog 148 #[.string ⟨x.toArray⟩,.pointer (some ⟨bx,0,none⟩)] w fun e w'=>e=.returned (.bool (!(Cp.za9 q.zac x).isSome))/\Fr (fun _=>False) w w':=by
 have c0:=Blk.cell hb 0;simp at c0;have CC:=zab (zok h x hl);clear hb h;unfold zoj at CC;cases hs:Cp.za9 q.zac x with
 |none=>
  rw[hs]at CC;simp only at CC;clear hs;go_enter func148,ntmps148
  go_wp2_with fail
  refine CC.o.mono ?_;rintro e w1 ⟨rfl,f1⟩;have F1:=zab f1;clear f1;go_wp2_with fail
  go_ret
  exact ⟨rfl,F1.o⟩
 |some i=>
  rw[hs]at CC;simp only at CC;have hi:¬ (i:Int)<0:=by omega
  clear hs;go_enter func148,ntmps148
  go_wp2_with fail
  refine CC.o.mono ?_;rintro e w1 ⟨rfl,f1⟩;have F1:=zab f1;clear f1;go_wp2_with fail
  go_ret
  refine ⟨?_,F1.o⟩;simp[hi]
theorem zcl(h:BS Z w cb bb rv sv kv fns q)(h1:Row Z1 w 9 1 lv l.length (strCells l))(aL:l.length<=1000000)(aC:q.zac.length<=1000000000):
  Calls prog 88 #[.pointer (some ⟨bb,0,none⟩),lv] w fun e w'=>∃ v',e=.returned v'/\w'.ownsRow w.heap.size 9 1 v' (Cp.zai q.zac l).length (strCells (Cp.zai q.zac l))/\Fr (fun _=>False) w w':=by
 have mc:∀ (fn:Fn) (first cap:Array Value) (w:World),(Instr.makeFunc fn first cap).run prog w=.ok (.func fn first cap) w:=fun _ _ _ _=>rfl
 have F1:Hid (Fr (fun _=>False) w (w.alloc (.cells #[.pointer (some ⟨bb,0,none⟩)] 100))):=zab ((Fr.refl _ _).alloc _);have B1:=zab (Blk.new w [.pointer (some ⟨bb,0,none⟩)] 100);have CC:=zab (zny (h1.frc F1.o (by simp)) aL);have HH:=zab h;have vy:=zab (enters_of (P:=prog) func148 (by kernel_rfl) rfl);clear h1 h;go_enter func88,ntmps88
 go_wp2_with fail
 refine CC.o.mono ?_;rintro e w2 ⟨v',rfl,ai,f2⟩;have F2:=zab (F1.o.trans f2);have B2:=zab (Fr.blk B1.o f2 (by simp));have cT:=World.size_alloc w (.cells #[.pointer (some ⟨bb,0,none⟩)] 100);rcases zan (Row.zaE ai) with hv|⟨g,cap,hv⟩
 ·subst hv;have da:l=[]:=by
   rcases ai.2 with ⟨_,h0⟩|⟨_,_,_,h0,_⟩
   ·exact zzn.1 h0
   ·cases h0
  subst da;clear ai f2 CC cT;go_wp2_with fail
  refine zf5.mono ?_;rintro e w3 ⟨rfl,bL⟩;subst w3;go_wp2_with fail
  go_ret
  exact ⟨_,rfl,World.ownsRow_nil _ _ _ _,F2.o⟩
 ·subst hv;have fX:w.heap.size+1<=g:=by have:=(ai.lt g rfl).1;omega
  have hp:zqf w2 g 148 #[.pointer (some ⟨w.heap.size,0,none⟩)] (fun x=>!(Cp.za9 q.zac x).isSome):=fun W x fW=>by
   have DH:Fr (fun _=>False) w W:=F2.o.drop fW (fun i hi e=>by omega);exact zth (Fr.blk B2.o fW (by omega)) (HH.o.fr0 DH) aC x
  have CD:=zab (zf4 vy.o hp ai aL);clear ai f2 CC hp cT;go_wp2_with fail
  refine CD.o.mono ?_;rintro e w3 ⟨n',rfl,hn,nU,f3⟩;have qB:=zab nU;have F3:=zab (F2.o.drop f3 (fun i hi e=>by omega));have HN:=zab hn;clear nU f3 CD hn;go_wp2_with fail
  go_ret
  have hn:=HN.o;subst hn;have e9:Cp.zai q.zac l=l.filter (fun x=>!!(Cp.za9 q.zac x).isSome):=by simp[Cp.zai]
  rw[e9];exact ⟨_,rfl,za0 qB.o (by rw[World.size_alloc];omega),F3.o⟩
end Go.Proofs.YtgahgkddaljmkaaGreatDoor
namespace Go.Proofs.YtgahgkddaljmkaaGreatDoor
open Tryz
open Go.RowKit
abbrev TY (a b:TypeId):Prop:=∀ (x:Value) (w:World),(Instr.typeAssert (.iface a x) 91 b true).run prog w=.ok (.tuple #[x,.bool true]) w
abbrev TN (a b:TypeId) (v:Value):Prop:=∀ (x:Value) (w:World),(Instr.typeAssert (.iface a x) 91 b true).run prog w=.ok (.tuple #[v,.bool false]) w
def TNn (a:TypeId):List (TypeId × Value)->Prop
 |[]=>True
 |(b,v)::l=>TN a b v/\TNn a l
def zl:List (TypeId × Value):=[(215,.agg #[.string ⟨#[]⟩,.int .i64 0]),(217,.agg #[.int .i64 0]),(219,.agg #[.int .i64 0,.int .i64 0]),(163,.agg #[.nilIface,.nilIface]),(166,.agg #[.string ⟨#[]⟩,.nilIface,.nilIface]),(178,.agg #[.bool false,.slice none 0 0,.nilIface]),(173,.agg #[.nilIface,.slice none 0 0]),(226,.agg #[.slice none 0 0,.nilIface])]
theorem zG6:TY 215 215/\TNn 215 (zl.eraseIdx 0):=⟨fun _ _=>by kernel_rfl,by repeat' (first|exact trivial|refine And.intro (fun _ _=>by kernel_rfl) ?_)⟩
theorem zGX:TY 217 217/\TNn 217 (zl.eraseIdx 1):=⟨fun _ _=>by kernel_rfl,by repeat' (first|exact trivial|refine And.intro (fun _ _=>by kernel_rfl) ?_)⟩
theorem zGY:TY 219 219/\TNn 219 (zl.eraseIdx 2):=⟨fun _ _=>by kernel_rfl,by repeat' (first|exact trivial|refine And.intro (fun _ _=>by kernel_rfl) ?_)⟩
theorem zG1:TY 163 163/\TNn 163 (zl.eraseIdx 3):=⟨fun _ _=>by kernel_rfl,by repeat' (first|exact trivial|refine And.intro (fun _ _=>by kernel_rfl) ?_)⟩
theorem zGV:TY 166 166/\TNn 166 (zl.eraseIdx 4):=⟨fun _ _=>by kernel_rfl,by repeat' (first|exact trivial|refine And.intro (fun _ _=>by kernel_rfl) ?_)⟩
theorem zG5:TY 178 178/\TNn 178 (zl.eraseIdx 5):=⟨fun _ _=>by kernel_rfl,by repeat' (first|exact trivial|refine And.intro (fun _ _=>by kernel_rfl) ?_)⟩
theorem zG2:TY 173 173/\TNn 173 (zl.eraseIdx 6):=⟨fun _ _=>by kernel_rfl,by repeat' (first|exact trivial|refine And.intro (fun _ _=>by kernel_rfl) ?_)⟩
theorem zGW:TY 226 226/\TNn 226 (zl.eraseIdx 7):=⟨fun _ _=>by kernel_rfl,by repeat' (first|exact trivial|refine And.intro (fun _ _=>by kernel_rfl) ?_)⟩
end Go.Proofs.YtgahgkddaljmkaaGreatDoor
namespace Go.Proofs.YtgahgkddaljmkaaGreatDoor
open Tryz
open Go.RowKit Go.Shelf
attribute [local go_sem ↓] Go.wp_at_zero Go.wp_at_succ
def Names (base:Nat) (w:World) (v:Value) (l:List Cp.Nm):Prop:=Row (fun b=>base<=b) w 9 1 v l.length (strCells l)
variable {base:Nat}{w w':World}{v:Value}{l:List Cp.Nm}
theorem Names.fr0(h:Names base w v l)(f:Fr (fun _=>False) w w'):Names base w' v l:=Row.frc h f (by simp)
theorem Names.dwn{b':Nat}(h:Names base w v l)(hb:b'<=base):Names b' w v l:=⟨h.1,fun k hk=>zyR hb (h.2 k hk)⟩
variable {n:Nat}
theorem Rep.fr0{S:Nat->Prop}{e:Th.Ex}(h:Rep S w n v e)(f:Fr (fun _=>False) w w'):Rep S w' n v e:=Rep.imp (fun _ _ _ _ _ hR=>hR.frc f (by simp)) n v e h
variable {Z1 Z2:Nat->Prop}{lv:Value}
theorem zdp{mv:Value}{more:List Cp.Nm}(h1:Row Z1 w 9 1 lv l.length (strCells l))(h2:Row Z2 w 9 1 mv more.length (strCells more))(aL:l.length<=1000000)(aC:more.length<=1000000):
  Calls prog 150 #[lv,mv] w fun e w'=>∃ v',e=.returned v'/\Names w.heap.size w' v' (Cp.union l more)/\Fr (fun _=>False) w w':=by
 obtain ⟨la,ln,lc,rfl⟩:=zaF h1.1;have CW:=zab (zkm h2 h1 aC aL);have H1:=zab h1;have eE:(Cp.zaH more l).length<=1000000:=zyR (List.length_filter_le _ _) aC;clear h1 h2;go_enter func150,ntmps150
 go_wp2_with fail
 refine CW.o.mono ?_;rintro e w2 ⟨v',rfl,ai,f2⟩;obtain ⟨va,vn,vc,rfl⟩:=zaF ai;have F2:=zab f2;have CC:=zab (zfs (H1.o.frc f2 (by simp)) (Row.zaE ai) aL eE);clear f2 ai CW;go_wp2_with fail
 refine CC.o.mono ?_;rintro e w3 ⟨a,k,c,rfl,hr,hb⟩;have HR:=zab hr;have F3:=zab (F2.o.trans (Fr.below hb));clear hr hb CC;go_wp2_with fail
 go_ret
 exact ⟨_,rfl,Names.dwn HR.o F2.o.size,F3.o⟩
def Cp.wt:Nat->Th.Ex->Nat
 |0,_=>0
 |n+1,e=>1+e.names.length+(e.zao.map fun a=>1+a.2.length).sum+(e.kids.map (Cp.wt n)).sum
theorem Cp.zbp(l g:List Cp.Nm):(Cp.zaH l g).length<=l.length:=List.length_filter_le _ _
theorem Cp.zcP(l m:List Cp.Nm):(Cp.union l m).length<=l.length+m.length:=by
 unfold Cp.union;rw[zyT];have:=Cp.zbp m l;omega
theorem Cp.zed(f:Th.Ex->List Cp.Nm)(g:Th.Ex->Nat)(hf:∀ e,(f e).length<=g e):∀ (ps:List Th.Ex) (l:List Cp.Nm),(Cp.zav f ps l).length<=l.length+(ps.map g).sum
 |[],l=>by simp[Cp.zav]
 |p::ps,l=>by
  have h1:=Cp.zed f g hf ps (Cp.union l (f p));have h2:=Cp.zcP l (f p);have h3:=hf p;simp only[Cp.zav,zza,zzd];omega
theorem Cp.zbN(f:Th.Ex->List Cp.Nm)(g:Th.Ex->Nat)(hf:∀ e,(f e).length<=g e):∀ (az:List (Nat × List Th.Tok)) (bs:List Th.Ex) (l:List Cp.Nm),(Cp.zas f az bs l).length<=l.length+(bs.map g).sum
 |[],bs,l=>by simp[Cp.zas]
 |_::_,[],l=>by simp[Cp.zas]
 |a::az,b::bs,l=>by
  have h1:=Cp.zbN f g hf az bs (Cp.union l (Cp.zaH (f b) (Th.texts a.2)));have h2:=Cp.zcP l (Cp.zaH (f b) (Th.texts a.2));have h3:=Cp.zbp (f b) (Th.texts a.2);have h4:=hf b;simp only[Cp.zas,zza,zzd];omega
theorem Cp.zaZ:∀ (n:Nat) (e:Th.Ex),(Cp.free n e).length<=Cp.wt n e
 |0,_=>by simp[Cp.free]
 |n+1,e=>by
  have ih:=Cp.zaZ n;rw[Cp.free,Cp.wt];split
  ·simp;omega
  ·split
   ·split
    ·next b hk=>
     have h1:=Cp.zbp (Cp.free n b) (Th.texts e.names);have h2:=ih b;rw[hk];simp;omega
    ·simp
   ·split
    ·split
     ·next a b hk=>
      have h1:=Cp.zcP (Cp.free n a) (Cp.free n b);have h2:=ih a;have h3:=ih b;rw[hk];simp;omega
     ·simp
    ·split
     ·split
      ·next b ps hk=>
       have h1:=Cp.zcP (Cp.zav (Cp.free n) ps []) (Cp.zaH (Cp.free n b) (Th.texts e.names));have h2:=Cp.zed (Cp.free n) (Cp.wt n) ih ps [];have h3:=Cp.zbp (Cp.free n b) (Th.texts e.names);have h4:=ih b;rw[hk];simp at h2 ⊢;omega
      ·simp
     ·split
      ·split
       ·next b ps hk=>
        have h1:=Cp.zcP (Cp.zaH (Cp.zav (Cp.free n) ps []) (Th.texts e.names)) (Cp.zaH (Cp.free n b) (Th.texts e.names));have h2:=Cp.zed (Cp.free n) (Cp.wt n) ih ps [];have h5:=Cp.zbp (Cp.zav (Cp.free n) ps []) (Th.texts e.names);have h3:=Cp.zbp (Cp.free n b) (Th.texts e.names);have h4:=ih b;rw[hk];simp at h2 ⊢;omega
       ·simp
      ·split
       ·split
        ·next b ps hk=>
         have h1:=Cp.zcP (Cp.free n b) (Cp.zas (Cp.free n) e.zao ps []);have h2:=Cp.zbN (Cp.free n) (Cp.wt n) ih e.zao ps [];have h4:=ih b;rw[hk];simp at h2 ⊢;omega
        ·simp
       ·simp
def zye (n:Nat):Prop:=∀ {S:Nat->Prop} {w:World} {v:Value} {e:Th.Ex},Rep S w n v e->Cp.wt n e<=1000000 ->
 Calls prog 89 #[v] w fun r w'=>∃ v',r=.returned v'/\Names w.heap.size w' v' (Cp.free n e)/\Fr (fun _=>False) w w'
theorem zpt{x:Int}:
  Calls prog 89 #[.iface 217 (.agg #[.int .i64 x])] w fun r w'=>∃ v',r=.returned v'/\Names w.heap.size w' v' []/\Fr (fun _=>False) w w':=by
 obtain ⟨-,i0,-,i1,i2,i3,i4,i5,-⟩:=zGX;go_enter func89,ntmps89
 go_wp2_with fail
 go_ret
 exact ⟨_,rfl,⟨World.ownsRow_nil _ _ _ _,by simp[Value.ownBlock]⟩,Fr.refl _ _⟩
theorem zrw{x y:Int}:
  Calls prog 89 #[.iface 219 (.agg #[.int .i64 x,.int .i64 y])] w fun r w'=>∃ v',r=.returned v'/\Names w.heap.size w' v' []/\Fr (fun _=>False) w w':=by
 obtain ⟨-,i0,-,i1,i2,i3,i4,i5,-⟩:=zGY;go_enter func89,ntmps89
 go_wp2_with fail
 go_ret
 exact ⟨_,rfl,⟨World.ownsRow_nil _ _ _ _,by simp[Value.ownBlock]⟩,Fr.refl _ _⟩
variable {x:Cp.Nm}
theorem zvz{y:Int}:
  Calls prog 89 #[.iface 215 (.agg #[.string ⟨x.toArray⟩,.int .i64 y])] w fun r w'=>∃ v',r=.returned v'/\Names w.heap.size w' v' [x]/\Fr (fun _=>False) w w':=by
 obtain ⟨i0,-⟩:=zG6;go_enter func89,ntmps89
 go_wp2_with fail
 go_ret
 refine ⟨_,rfl,?_,((Fr.refl _ _).alloc _).alloc _⟩;have hB:=Blk.new (w.alloc (.cells #[.string ⟨x.toArray⟩,.int .i64 y] 215)) [.string ⟨x.toArray⟩] 9;rw[World.size_alloc]at hB;refine ⟨zgj (vs:=[.string ⟨x.toArray⟩]) hB rfl (zyN _) (by unfold maxLen;omega) (zy5 _) (by simp[strCells]),fun k hk=>?_⟩;simp[Value.ownBlock]at hk;omega
variable {t1:TypeId}{x1:Value}{l1 l2:List Cp.Nm}
theorem ztb{t2:TypeId}{x2:Value}(aL:l1.length<=1000000)(aC:l2.length<=1000000)(c1:∀ W,Fr (fun _=>False) w W->Calls prog 89 #[.iface t1 x1] W fun r w'=>∃ v',r=.returned v'/\Names W.heap.size w' v' l1/\Fr (fun _=>False) W w')(c2:∀ W,Fr (fun _=>False) w W->Calls prog 89 #[.iface t2 x2] W fun r w'=>∃ v',r=.returned v'/\Names W.heap.size w' v' l2/\Fr (fun _=>False) W w'):
  Calls prog 89 #[.iface 163 (.agg #[.iface t1 x1,.iface t2 x2])] w fun r w'=>∃ v',r=.returned v'/\Names w.heap.size w' v' (Cp.union l1 l2)/\Fr (fun _=>False) w w':=by
 have C1:=zab c1;have C2:=zab c2;clear c1 c2;obtain ⟨i1,i0,-⟩:=zG1;have B0:=zab (Blk.new w [.iface t1 x1,.iface t2 x2] 163);have F0:Hid (Fr (fun _=>False) w (w.alloc (.cells #[.iface t1 x1,.iface t2 x2] 163))):=zab ((Fr.refl _ _).alloc _);go_enter func89,ntmps89
 go_wp2_with fail
 generalize w.alloc (.cells #[.iface t1 x1,.iface t2 x2] 163)=w1 at B0 F0 ⊢;have B1:=B0;clear i0 i1 B0;have FC:Hid (Fr (fun _=>False) w1 w1.drew):=zab (Fr.refl _ _).drew;have q0:=Blk.cell B1.o 0;have q1:=Blk.cell B1.o 1;simp at q0 q1
 go_region_held3 (fun W=>W.cell? ⟨w.heap.size,0,none⟩=some (.iface t1 x1)/\W.cell? ⟨w.heap.size,1,none⟩=some (.iface t2 x2)) (first|(refine ⟨?_,?_⟩ <;> assumption)|go_keep) (first
  |(go_at_call 89;with_reducible refine (C1.o _ (F0.o.trans FC.o)).mono ?_;rintro e wA ⟨va,rfl,ra,fa⟩;have dO:=zab (FC.o.trans fa);(try (have jA:=zab (RB.o.fr0 fa);clear RB;have RB:=jA;clear jA));have RA:=zab (ra.dwn (zy5 _));clear FC;have FC:=dO;clear dO;have wx:wA.cell? ⟨w.heap.size,0,none⟩=some (.iface t1 x1):=(by simpa using Blk.cell (Fr.blk B1.o FC.o (by simp)) 0);have wE:wA.cell? ⟨w.heap.size,1,none⟩=some (.iface t2 x2):=(by simpa using Blk.cell (Fr.blk B1.o FC.o (by simp)) 1);clear ra fa)
  |(go_at_call 89;with_reducible refine (C2.o _ (F0.o.trans FC.o)).mono ?_;rintro e wB ⟨vb,rfl,rb,fb⟩;have dO:=zab (FC.o.trans fb);(try (have jz:=zab (RA.o.fr0 fb);clear RA;have RA:=jz;clear jz));have RB:=zab (rb.dwn (zy5 _));clear FC;have FC:=dO;clear dO;have wC:wB.cell? ⟨w.heap.size,0,none⟩=some (.iface t1 x1):=(by simpa using Blk.cell (Fr.blk B1.o FC.o (by simp)) 0);have wF:wB.cell? ⟨w.heap.size,1,none⟩=some (.iface t2 x2):=(by simpa using Blk.cell (Fr.blk B1.o FC.o (by simp)) 1);clear rb fb)
  |(go_at_call 150;refine (zdp RA.o RB.o aL aC).mono ?_;rintro e wU ⟨vu,rfl,ru,fu⟩;have FU:=zab (FC.o.trans fu);have RU:=zab ru;have jP:=zab FC.o.size;have wD:wU.cell? ⟨w.heap.size,0,none⟩=some (.iface t1 x1):=(by simpa using Blk.cell (Fr.blk B1.o FU.o (by simp)) 0);have uw:wU.cell? ⟨w.heap.size,1,none⟩=some (.iface t2 x2):=(by simpa using Blk.cell (Fr.blk B1.o FU.o (by simp)) 1);clear ru fu))
 all_goals
  go_wp2_with fail
  go_ret
  exact ⟨_,rfl,RU.o.dwn (zyR F0.o.size jP.o),F0.o.trans FU.o⟩
theorem zkB{t2:TypeId}{x2:Value}{s:ByteArray}(aL:l1.length<=1000000)(aC:l2.length<=1000000)(c1:∀ W,Fr (fun _=>False) w W->Calls prog 89 #[.iface t1 x1] W fun r w'=>∃ v',r=.returned v'/\Names W.heap.size w' v' l1/\Fr (fun _=>False) W w')(c2:∀ W,Fr (fun _=>False) w W->Calls prog 89 #[.iface t2 x2] W fun r w'=>∃ v',r=.returned v'/\Names W.heap.size w' v' l2/\Fr (fun _=>False) W w'):
  Calls prog 89 #[.iface 166 (.agg #[.string s,.iface t1 x1,.iface t2 x2])] w fun r w'=>∃ v',r=.returned v'/\Names w.heap.size w' v' (Cp.union l1 l2)/\Fr (fun _=>False) w w':=by
 have C1:=zab c1;have C2:=zab c2;clear c1 c2;obtain ⟨i2,i0,-,-,i1,-⟩:=zGV;have B0:=zab (Blk.new w [.string s,.iface t1 x1,.iface t2 x2] 166);have F0:Hid (Fr (fun _=>False) w (w.alloc (.cells #[.string s,.iface t1 x1,.iface t2 x2] 166))):=zab ((Fr.refl _ _).alloc _);go_enter func89,ntmps89
 go_wp2_with fail
 generalize w.alloc (.cells #[.string s,.iface t1 x1,.iface t2 x2] 166)=w1 at B0 F0 ⊢;have B1:=B0;clear i0 i1 i2 B0;have FC:Hid (Fr (fun _=>False) w1 w1.drew):=zab (Fr.refl _ _).drew;have q0:=Blk.cell B1.o 1;have q1:=Blk.cell B1.o 2;simp at q0 q1
 go_region_held3 (fun W=>W.cell? ⟨w.heap.size,1,none⟩=some (.iface t1 x1)/\W.cell? ⟨w.heap.size,2,none⟩=some (.iface t2 x2)) (first|(refine ⟨?_,?_⟩ <;> assumption)|go_keep) (first
  |(go_at_call 89;with_reducible refine (C1.o _ (F0.o.trans FC.o)).mono ?_;rintro e wA ⟨va,rfl,ra,fa⟩;have dO:=zab (FC.o.trans fa);(try (have jA:=zab (RB.o.fr0 fa);clear RB;have RB:=jA;clear jA));have RA:=zab (ra.dwn (zy5 _));clear FC;have FC:=dO;clear dO;have wx:wA.cell? ⟨w.heap.size,1,none⟩=some (.iface t1 x1):=(by simpa using Blk.cell (Fr.blk B1.o FC.o (by simp)) 1);have wE:wA.cell? ⟨w.heap.size,2,none⟩=some (.iface t2 x2):=(by simpa using Blk.cell (Fr.blk B1.o FC.o (by simp)) 2);clear ra fa)
  |(go_at_call 89;with_reducible refine (C2.o _ (F0.o.trans FC.o)).mono ?_;rintro e wB ⟨vb,rfl,rb,fb⟩;have dO:=zab (FC.o.trans fb);(try (have jz:=zab (RA.o.fr0 fb);clear RA;have RA:=jz;clear jz));have RB:=zab (rb.dwn (zy5 _));clear FC;have FC:=dO;clear dO;have wC:wB.cell? ⟨w.heap.size,1,none⟩=some (.iface t1 x1):=(by simpa using Blk.cell (Fr.blk B1.o FC.o (by simp)) 1);have wF:wB.cell? ⟨w.heap.size,2,none⟩=some (.iface t2 x2):=(by simpa using Blk.cell (Fr.blk B1.o FC.o (by simp)) 2);clear rb fb)
  |(go_at_call 150;refine (zdp RA.o RB.o aL aC).mono ?_;rintro e wU ⟨vu,rfl,ru,fu⟩;have FU:=zab (FC.o.trans fu);have RU:=zab ru;have jP:=zab FC.o.size;have wD:wU.cell? ⟨w.heap.size,1,none⟩=some (.iface t1 x1):=(by simpa using Blk.cell (Fr.blk B1.o FU.o (by simp)) 1);have uw:wU.cell? ⟨w.heap.size,2,none⟩=some (.iface t2 x2):=(by simpa using Blk.cell (Fr.blk B1.o FU.o (by simp)) 2);clear ru fu))
 all_goals
  go_wp2_with fail
  go_ret
  exact ⟨_,rfl,RU.o.dwn (zyR F0.o.size jP.o),F0.o.trans FU.o⟩
variable {gv:Value}{gone:List Cp.Nm}
theorem zcQ(h1:Row Z1 w 9 1 lv l.length (strCells l))(h2:Row Z2 w 9 1 gv gone.length (strCells gone))(aL:l.length<=1000000)(aC:gone.length<=1000000):
  Calls prog 152 #[lv,gv] w fun e w'=>∃ v',e=.returned v'/\Names w.heap.size w' v' (Cp.zaH l gone)/\Fr (fun _=>False) w w':=
 (zkm h1 h2 aL aC).mono fun _ _ ⟨v',e,h,f⟩=>⟨v',e,Row.zaE h,f⟩
variable {nv:Value}
theorem zd1{S:Nat->Prop}{l:List Th.Tok}(hr:Row S w 88 2 nv l.length (zaj l))(hl:l.length<=1000000):
  Calls prog 52 #[nv] w fun e w'=>∃ v',e=.returned v'/\Names w.heap.size w' v' (Th.texts l)/\Fr (fun _=>False) w w':=
 (ze4 hr hl).mono fun _ _ ⟨v',e,h,f⟩=>⟨v',e,Row.zaE (by simpa [Th.texts] using h),Fr.below f⟩
theorem ztc{p:Option Addr}{m cp:Nat}(aL:l1.length<=1000000)(aC:l2.length<=1000000)(c1:∀ W,Fr (fun _=>False) w W->Calls prog 89 #[.iface t1 x1] W fun r w'=>∃ v',r=.returned v'/\Names W.heap.size w' v' l1/\Fr (fun _=>False) W w')(c2:∀ W,Fr (fun _=>False) w W->Calls prog 92 #[.slice p m cp] W fun r w'=>∃ v',r=.returned v'/\Names W.heap.size w' v' l2/\Fr (fun _=>False) W w'):
  Calls prog 89 #[.iface 173 (.agg #[.iface t1 x1,.slice p m cp])] w fun r w'=>∃ v',r=.returned v'/\Names w.heap.size w' v' (Cp.union l1 l2)/\Fr (fun _=>False) w w':=by
 have C1:=zab c1;have C2:=zab c2;clear c1 c2;obtain ⟨i4,i0,-,-,i1,i2,i3,-⟩:=zG2;have B0:=zab (Blk.new w [.iface t1 x1,.slice p m cp] 173);have F0:Hid (Fr (fun _=>False) w (w.alloc (.cells #[.iface t1 x1,.slice p m cp] 173))):=zab ((Fr.refl _ _).alloc _);go_enter func89,ntmps89
 go_wp2_with fail
 generalize w.alloc (.cells #[.iface t1 x1,.slice p m cp] 173)=w1 at B0 F0 ⊢;have B1:=B0;clear i0 i1 i2 i3 i4 B0;have FC:Hid (Fr (fun _=>False) w1 w1.drew):=zab (Fr.refl _ _).drew;have q0:=Blk.cell B1.o 0;have q1:=Blk.cell B1.o 1;simp at q0 q1
 go_region_held3 (fun W=>W.cell? ⟨w.heap.size,0,none⟩=some (.iface t1 x1)/\W.cell? ⟨w.heap.size,1,none⟩=some (.slice p m cp)) (first|(refine ⟨?_,?_⟩ <;> assumption)|go_keep) (first
  |(go_at_call 89;with_reducible refine (C1.o _ (F0.o.trans FC.o)).mono ?_;rintro e wA ⟨va,rfl,ra,fa⟩;have dO:=zab (FC.o.trans fa);(try (have jA:=zab (RB.o.fr0 fa);clear RB;have RB:=jA;clear jA));have RA:=zab (ra.dwn (zy5 _));clear FC;have FC:=dO;clear dO;have wx:wA.cell? ⟨w.heap.size,0,none⟩=some (.iface t1 x1):=(by simpa using Blk.cell (Fr.blk B1.o FC.o (by simp)) 0);have wE:wA.cell? ⟨w.heap.size,1,none⟩=some (.slice p m cp):=(by simpa using Blk.cell (Fr.blk B1.o FC.o (by simp)) 1);clear ra fa)
  |(go_at_call 92;with_reducible refine (C2.o _ (F0.o.trans FC.o)).mono ?_;rintro e wB ⟨vb,rfl,rb,fb⟩;have dO:=zab (FC.o.trans fb);(try (have jz:=zab (RA.o.fr0 fb);clear RA;have RA:=jz;clear jz));have RB:=zab (rb.dwn (zy5 _));clear FC;have FC:=dO;clear dO;have wC:wB.cell? ⟨w.heap.size,0,none⟩=some (.iface t1 x1):=(by simpa using Blk.cell (Fr.blk B1.o FC.o (by simp)) 0);have wF:wB.cell? ⟨w.heap.size,1,none⟩=some (.slice p m cp):=(by simpa using Blk.cell (Fr.blk B1.o FC.o (by simp)) 1);clear rb fb)
  |(go_at_call 150;refine (zdp RA.o RB.o aL aC).mono ?_;rintro e wU ⟨vu,rfl,ru,fu⟩;have FU:=zab (FC.o.trans fu);have RU:=zab ru;have jP:=zab FC.o.size;have wD:wU.cell? ⟨w.heap.size,0,none⟩=some (.iface t1 x1):=(by simpa using Blk.cell (Fr.blk B1.o FU.o (by simp)) 0);have uw:wU.cell? ⟨w.heap.size,1,none⟩=some (.slice p m cp):=(by simpa using Blk.cell (Fr.blk B1.o FU.o (by simp)) 1);clear ru fu))
 all_goals
  go_wp2_with fail
  go_ret
  exact ⟨_,rfl,RU.o.dwn (zyR F0.o.size jP.o),F0.o.trans FU.o⟩
theorem zps{p:Option Addr}{m cp:Nat}(aL:l1.length<=1000000)(aC:l2.length<=1000000)(c1:∀ W,Fr (fun _=>False) w W->Calls prog 89 #[.iface t1 x1] W fun r w'=>∃ v',r=.returned v'/\Names W.heap.size w' v' l1/\Fr (fun _=>False) W w')(c2:∀ W,Fr (fun _=>False) w W->Calls prog 52 #[.slice p m cp] W fun r w'=>∃ v',r=.returned v'/\Names W.heap.size w' v' l2/\Fr (fun _=>False) W w'):
  Calls prog 89 #[.iface 226 (.agg #[.slice p m cp,.iface t1 x1])] w fun r w'=>∃ v',r=.returned v'/\Names w.heap.size w' v' (Cp.zaH l1 l2)/\Fr (fun _=>False) w w':=by
 have C1:=zab c1;have C2:=zab c2;clear c1 c2;obtain ⟨i5,i0,-,-,i1,i2,i3,i4,-⟩:=zGW;have B0:=zab (Blk.new w [.slice p m cp,.iface t1 x1] 226);have F0:Hid (Fr (fun _=>False) w (w.alloc (.cells #[.slice p m cp,.iface t1 x1] 226))):=zab ((Fr.refl _ _).alloc _);go_enter func89,ntmps89
 go_wp2_with fail
 generalize w.alloc (.cells #[.slice p m cp,.iface t1 x1] 226)=w1 at B0 F0 ⊢;have B1:=B0;clear i0 i1 i2 i3 i4 i5 B0;have FC:Hid (Fr (fun _=>False) w1 w1.drew):=zab (Fr.refl _ _).drew;have q0:=Blk.cell B1.o 1;have q1:=Blk.cell B1.o 0;simp at q0 q1
 go_region_held3 (fun W=>W.cell? ⟨w.heap.size,1,none⟩=some (.iface t1 x1)/\W.cell? ⟨w.heap.size,0,none⟩=some (.slice p m cp)) (first|(refine ⟨?_,?_⟩ <;> assumption)|go_keep) (first
  |(go_at_call 89;with_reducible refine (C1.o _ (F0.o.trans FC.o)).mono ?_;rintro e wA ⟨va,rfl,ra,fa⟩;have dO:=zab (FC.o.trans fa);(try (have jA:=zab (RB.o.fr0 fa);clear RB;have RB:=jA;clear jA));have RA:=zab (ra.dwn (zy5 _));clear FC;have FC:=dO;clear dO;have wx:wA.cell? ⟨w.heap.size,1,none⟩=some (.iface t1 x1):=(by simpa using Blk.cell (Fr.blk B1.o FC.o (by simp)) 1);have wE:wA.cell? ⟨w.heap.size,0,none⟩=some (.slice p m cp):=(by simpa using Blk.cell (Fr.blk B1.o FC.o (by simp)) 0);clear ra fa)
  |(go_at_call 52;with_reducible refine (C2.o _ (F0.o.trans FC.o)).mono ?_;rintro e wB ⟨vb,rfl,rb,fb⟩;have dO:=zab (FC.o.trans fb);(try (have jz:=zab (RA.o.fr0 fb);clear RA;have RA:=jz;clear jz));have RB:=zab (rb.dwn (zy5 _));clear FC;have FC:=dO;clear dO;have wC:wB.cell? ⟨w.heap.size,1,none⟩=some (.iface t1 x1):=(by simpa using Blk.cell (Fr.blk B1.o FC.o (by simp)) 1);have wF:wB.cell? ⟨w.heap.size,0,none⟩=some (.slice p m cp):=(by simpa using Blk.cell (Fr.blk B1.o FC.o (by simp)) 0);clear rb fb)
  |(go_at_call 152;refine (zcQ RA.o RB.o aL aC).mono ?_;rintro e wU ⟨vu,rfl,ru,fu⟩;have FU:=zab (FC.o.trans fu);have RU:=zab ru;have jP:=zab FC.o.size;have wD:wU.cell? ⟨w.heap.size,1,none⟩=some (.iface t1 x1):=(by simpa using Blk.cell (Fr.blk B1.o FU.o (by simp)) 1);have uw:wU.cell? ⟨w.heap.size,0,none⟩=some (.slice p m cp):=(by simpa using Blk.cell (Fr.blk B1.o FU.o (by simp)) 0);clear ru fu))
 all_goals
  go_wp2_with fail
  go_ret
  exact ⟨_,rfl,RU.o.dwn (zyR F0.o.size jP.o),F0.o.trans FU.o⟩
end Go.Proofs.YtgahgkddaljmkaaGreatDoor
