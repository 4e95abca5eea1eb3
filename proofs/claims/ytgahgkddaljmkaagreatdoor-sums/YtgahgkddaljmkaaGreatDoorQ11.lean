/- Cmp19 .. Cmp25 -/
import Derived.Test.YtgahgkddaljmkaaGreatDoorQ10
set_option maxRecDepth 100000
set_option maxHeartbeats 4000000
namespace Go.Proofs.YtgahgkddaljmkaaGreatDoor
open Tryz
open Go.RowKit Go.Shelf
attribute [local go_sem ↓] Go.wp_at_zero Go.wp_at_succ
variable {Z:Nat->Prop}{w w2:World}{cb:Nat}{rv:Value}{fns:List Cp.Nm}{bl:List (Nat × List Ins)}
theorem zvn{Z':Nat->Prop}{w':World}{aO:Value}(f:Fr (fun _=>False) w w2)(hz:∀ k,k<w2.heap.size->(Z' k↔Z k))(hc:CS Z' w' cb aO fns bl)(f2:Fr (fun k=>k=cb\/rv.ownBlock=some k\/w.heap.size<=k) w2 w')(hn:New w2 rv aO):zfH Z w cb rv fns bl w':=by
 refine ⟨Z',aO,fun k hk=>hz k (zyS hk f.size),hc,?_,New.trans (New.refl w rv) hn f.size⟩;refine ⟨f2.os.trans f.os,f2.tape.trans f.tape,f2.output.trans f.output,zyR f.size f2.size,fun i hi hK=>(f2.block i (zyS hi f.size) (fun hn=>?_)).trans (f.block i hi (by simp))⟩;rcases hn with e|e|e
 ·exact hK (.inl e)
 ·exact hK (.inr e)
 ·omega
theorem zsU:∀ args w,(callFunc 258 args).run prog w=.ok (.enter 258 args) w:=by
 intro args w
 kernel_rfl
variable {M N n bb bx pn pc:Nat}{pp:Option Addr}{sv kv:Value}{t:TypeId}{x:Value}{q:Cp.Bs}{e:Th.Ex}
theorem zpB(hW:zbi M N n)(hx:Blk w bx [.slice pp pn pc,.iface t x] 226)(h:BS Z w cb bb rv sv kv fns q)(hr:Rep Z w n (.iface t x) e)(hf:Fit M N fns q e):
  Calls prog 258 #[.pointer (some ⟨bb,0,none⟩),.pointer (some ⟨bx,0,none⟩)] w fun r w'=>r=.returned (.tuple #[])/\Did Z w cb bb rv sv kv fns (Cp.work (Cp.free N) fns n e 0 q) w':=by
 have c0:=Blk.cell hx 1;simp at c0;have CW:=zab (hW (below:=0) h hr hf (by have:=hf.cl;omega));clear hW h hr hf hx;go_enter func258,ntmps258
 go_wp2_with fail
 refine CW.o.mono ?_;rintro r w' ⟨rfl,hd⟩;have HD:=zab hd;clear hd CW c0;go_wp2_with fail
 first|go_end0|refine bodyPost_ret (results_none rfl _ _ _) rfl ?_
 exact ⟨rfl,HD.o⟩
variable {v nv:Value}{names sl:List Cp.Nm}
theorem zrz(hW:zbi M N n){pv:Value}{l:List Th.Tok}(aK:sl=(names++Th.texts l).reverse)(hq:q=Cp.work (Cp.free N) fns n e 0 ⟨bl,sl,[]⟩)(h:CS Z w cb rv fns bl)(hr:Rep Z w n v e)(hp:Row Z w 88 2 pv l.length (zaj l))(hn:Row Z w 9 1 nv names.length (strCells names))(hf:Fit M N fns ⟨bl,sl,[]⟩ e)(ev:names.length+l.length<=1000000)(hl:q.blocks.length<=1000000000):
  Calls prog 217 #[.pointer (some ⟨cb,0,none⟩),.agg #[pv,v],nv] w fun r w'=>r=.returned (.int .i64 q.blocks.length) /\
   zfH Z w cb rv fns (q.blocks++[(sl.length,q.code)]) w':=by
 have mc:∀ (fn:Fn) (first cap:Array Value) (w:World),(Instr.makeFunc fn first cap).run prog w=.ok (.func fn first cap) w:=fun _ _ _ _=>rfl
 obtain ⟨t,x,rfl⟩:=zah hr;obtain ⟨np,nn,nc,rfl⟩:=zae hn;have xV:∃ pp pc,pv=.slice pp l.length pc:=by
  rcases hp.1.2 with ⟨h1,h0⟩|⟨g,cap,cur,h0,_⟩
  ·rw[<-h0]at h1;exact ⟨_,_,h1⟩
  ·exact ⟨_,_,h0⟩
 obtain ⟨pp,pc,rfl⟩:=xV;have f0:Fr (fun _=>False) w (w.alloc (.cells #[.slice pp l.length pc,.iface t x] 226)):=((Fr.refl _ _).alloc _);have hX:=Blk.new w [.slice pp l.length pc,.iface t x] 226;have CT:=zab (zd1 (Row.frc hp f0 (by simp)) (by omega));have HX:=zab hX;have F0:=zab f0;have HN:=zab hn;have HH:=zab (And.intro h (And.intro hr (And.intro hf hl)));have HW:=zab hW;have iw:=zab (And.intro aK hq);clear hW h hr hn hf hl hp hX f0 aK hq;go_enter func217,ntmps217
 go_wp2_with fail
 refine CT.o.mono ?_;rintro r w1 ⟨tv,rfl,eC,f1⟩;obtain ⟨ta,tn,tc,rfl⟩:=zae eC;have f10:=F0.o.trans f1;have f11:Fr (fun _=>False) w1 (w1.alloc (.cells #[.slice np nn nc,.slice ta tn tc] 38)):=(Fr.refl _ _).alloc _;have CF:=zab (zdR (Blk.new w1 [.slice np nn nc,.slice ta tn tc] 38) (Row.frc HN.o (f10.trans f11) (by simp)) (Row.frc eC f11 (by simp)) (by simp[Th.texts];omega));have F1:=zab (f1.trans f11);have b0:=Blk.cell (Fr.blk HX.o f1 (by simp)) 0;clear eC f1 f10 f11 CT;go_wp2_with fail
 refine CF.o.mono ?_;rintro r w2 ⟨sv,rfl,bA,f2⟩;rw[<-iw.o.1]at bA;obtain ⟨sp,sn,sc,rfl⟩:=zae bA;have f20:=F1.o.trans f2;have f3:=F0.o.trans f20;have bK:∀ k,(Value.slice sp sn sc).ownBlock=some k->w.heap.size<=k:=fun k hk=>zyR (zyR F0.o.size F1.o.size) (bA.2 k hk)
 have oc:Hid (∀ k,(Value.slice sp sn sc).ownBlock=some k->(w.alloc (.cells #[.slice pp l.length pc,.iface t x] 226)).heap.size<=k):=zab (fun k hk=>zyR F1.o.size (bA.2 k hk));obtain ⟨h,hr,hf,hl⟩:=HH.o;have CA:=zab (zgi (lb:=#[.pointer (some ⟨w.heap.size,0,none⟩)]) zsU (h.fr0 f3) (za0 bA.1 (zy5 _)) (fun k hk=>⟨by have:=h.clt;have:=bK k hk;omega,fun e=>by have:=h.rlt k e;have:=bK k hk;omega,fun e=>by have:=h.zlt k e;have:=bK k hk;omega⟩)
  (fun W bb bQ hb=>zpB HW.o (Fr.blk (Fr.blk HX.o f20 (by simp)) bQ (by simp)) hb (hr.fr0 (f3.trans bQ)) hf) (iw.o.2 ▸ hl))
 rw[<-iw.o.2]at CA;have HS:=zab bK;have F3:=zab f3;have tX:=zab f20;clear h hr hf hl bA f2 f3 bK CF f20;go_wp2_with fail
 refine CA.o.mono ?_;rintro r w4 ⟨rfl,Z',aO,z1,hc,f4,n4⟩;have HD:=zab (zmf F3.o HS.o z1 hc f4 n4);clear CA z1 hc f4 n4;go_wp2_with fail
 go_ret
 exact ⟨rfl,HD.o⟩
theorem zyl:∀ args w,(callFunc 215 args).run prog w=.ok (.enter 215 args) w:=by
 intro args w
 kernel_rfl
variable {tag:Nat}
theorem zu6(hW:zbi M N n)(hx:Blk w bx [.int .i64 tag,.slice pp pn pc,.iface t x] 240)(h:BS Z w cb bb rv sv kv fns q)(hr:Rep Z w n (.iface t x) e)(hf:Fit M N fns q e):
  Calls prog 215 #[.pointer (some ⟨bb,0,none⟩),.pointer (some ⟨bx,0,none⟩)] w fun r w'=>r=.returned (.tuple #[])/\Did Z w cb bb rv sv kv fns (Cp.work (Cp.free N) fns n e 0 q) w':=by
 have c0:=Blk.cell hx 2;simp at c0;have CW:=zab (hW (below:=0) h hr hf (by have:=hf.cl;omega));clear hW h hr hf hx;go_enter func215,ntmps215
 go_wp2_with fail
 refine CW.o.mono ?_;rintro r w' ⟨rfl,hd⟩;have HD:=zab hd;clear hd CW c0;go_wp2_with fail
 first|go_end0|refine bodyPost_ret (results_none rfl _ _ _) rfl ?_
 exact ⟨rfl,HD.o⟩
theorem zw6(hW:zbi M N n){pv:Value}{l:List Th.Tok}(aK:sl=(Th.texts l++names).reverse)(hq:q=Cp.work (Cp.free N) fns n e 0 ⟨bl,sl,[]⟩)(h:CS Z w cb rv fns bl)(hr:Rep Z w n v e)(hp:Row Z w 88 2 pv l.length (zaj l))(hn:Row Z w 9 1 nv names.length (strCells names))(hf:Fit M N fns ⟨bl,sl,[]⟩ e)(ev:names.length+l.length<=1000000)(hl:q.blocks.length<=1000000000):
  Calls prog 160 #[.pointer (some ⟨cb,0,none⟩),.agg #[.int .i64 tag,pv,v],nv] w fun r w'=>r=.returned (.agg #[.int .i64 tag,.int .i64 l.length,.int .i64 q.blocks.length]) /\
   zfH Z w cb rv fns (q.blocks++[(sl.length,q.code)]) w':=by
 have mc:∀ (fn:Fn) (first cap:Array Value) (w:World),(Instr.makeFunc fn first cap).run prog w=.ok (.func fn first cap) w:=fun _ _ _ _=>rfl
 obtain ⟨t,x,rfl⟩:=zah hr;obtain ⟨np,nn,nc,rfl⟩:=zae hn;have xV:∃ pp pc,pv=.slice pp l.length pc:=by
  rcases hp.1.2 with ⟨h1,h0⟩|⟨g,cap,cur,h0,_⟩
  ·rw[<-h0]at h1;exact ⟨_,_,h1⟩
  ·exact ⟨_,_,h0⟩
 obtain ⟨pp,pc,rfl⟩:=xV;have f0:Fr (fun _=>False) w ((w.alloc (.cells #[.int .i64 tag,.slice pp l.length pc,.iface t x] 240)).alloc (.cells #[.int .i64 0,.int .i64 0,.int .i64 0] 290)):=((Fr.refl _ _).alloc _).alloc _;have hX:=Blk.alloc (Blk.new w [.int .i64 tag,.slice pp l.length pc,.iface t x] 240) (.cells #[.int .i64 0,.int .i64 0,.int .i64 0] 290);have hR:=Blk.new (w.alloc (.cells #[.int .i64 tag,.slice pp l.length pc,.iface t x] 240)) [.int .i64 0,.int .i64 0,.int .i64 0] 290;rw[World.size_alloc]at hR;have CT:=zab (zd1 (Row.frc hp f0 (by simp)) (by omega));have HX:=zab hX;have F0:=zab f0;have HN:=zab hn;have HR:=zab hR;clear hR;have HH:=zab (And.intro h (And.intro hr (And.intro hf hl)));have HW:=zab hW;have iw:=zab (And.intro aK hq);clear hW h hr hn hf hl hp hX f0 aK hq;go_enter func160,ntmps160
 go_wp2_with fail
 refine CT.o.mono ?_;rintro r w1 ⟨tv,rfl,eC,f1⟩;obtain ⟨ta,tn,tc,rfl⟩:=zae eC;have f10:=F0.o.trans f1;have f11:Fr (fun _=>False) w1 (w1.alloc (.cells #[.slice ta tn tc,.slice np nn nc] 38)):=(Fr.refl _ _).alloc _;have CF:=zab (zdR (Blk.new w1 [.slice ta tn tc,.slice np nn nc] 38) (Row.frc eC f11 (by simp)) (Row.frc HN.o (f10.trans f11) (by simp)) (by simp[Th.texts];omega));have F1:=zab (f1.trans f11);have b0:=Blk.cell (Fr.blk HX.o f1 (by simp)) 0;clear eC f1 f10 f11 CT;go_wp2_with fail
 refine CF.o.mono ?_;rintro r w2 ⟨sv,rfl,bA,f2⟩;rw[<-iw.o.1]at bA;obtain ⟨sp,sn,sc,rfl⟩:=zae bA;have f20:=F1.o.trans f2;have f3:=F0.o.trans f20;have bK:∀ k,(Value.slice sp sn sc).ownBlock=some k->w.heap.size<=k:=fun k hk=>zyR (zyR F0.o.size F1.o.size) (bA.2 k hk)
 have oc:Hid (∀ k,(Value.slice sp sn sc).ownBlock=some k->((w.alloc (.cells #[.int .i64 tag,.slice pp l.length pc,.iface t x] 240)).alloc (.cells #[.int .i64 0,.int .i64 0,.int .i64 0] 290)).heap.size<=k):=zab (fun k hk=>zyR F1.o.size (bA.2 k hk));obtain ⟨h,hr,hf,hl⟩:=HH.o;have CA:=zab (zgi (lb:=#[.pointer (some ⟨w.heap.size,0,none⟩)]) zyl (h.fr0 f3) (za0 bA.1 (zy5 _)) (fun k hk=>⟨by have:=h.clt;have:=bK k hk;omega,fun e=>by have:=h.rlt k e;have:=bK k hk;omega,fun e=>by have:=h.zlt k e;have:=bK k hk;omega⟩)
  (fun W bb bQ hb=>zu6 HW.o (Fr.blk (Fr.blk HX.o f20 (by simp)) bQ (by simp)) hb (hr.fr0 (f3.trans bQ)) hf) (iw.o.2 ▸ hl))
 rw[<-iw.o.2]at CA;have HS:=zab bK;have F3:=zab f3;have tX:=zab f20;clear h hr hf hl bA f2 f3 bK CF f20;go_wp2_with fail
 refine CA.o.mono ?_;rintro r w4 ⟨rfl,Z',aO,z1,hc,f4,n4⟩;obtain ⟨h,hr,hf,hl⟩:=HH.o;have aB:w.heap.size+1<w2.heap.size:=(Fr.blk HR.o tX.o (by simp)).lt;have wT:∀ j,j=w.heap.size\/j=w.heap.size+1->¬ (j=cb\/rv.ownBlock=some j\/(Value.slice sp sn sc).ownBlock=some j):=by
  rintro j hj (e|e|e)
  ·have:=h.clt;omega
  ·have:=h.rlt j e;omega
  ·have:=oc.o j e;rw[World.size_alloc,World.size_alloc]at this;omega
 have xe:=Fr.blk (Fr.blk HX.o tX.o (by simp)) f4 (wT _ (.inl rfl));have nJ:=Fr.blk (Fr.blk HR.o tX.o (by simp)) f4 (wT _ (.inr rfl));have x0:=Blk.cell xe 0;have x1:=Blk.cell xe 1;have r0:=Blk.cell nJ 0;have r1:=Blk.cell nJ 1;have r2:=Blk.cell nJ 2;have z0:=Blk.frozen nJ 0;have z3:=Blk.frozen nJ 1;have z4:=Blk.frozen nJ 2;simp at x0 x1 r0 r1 r2;have uU:¬ Z' (w.heap.size+1):=fun e=>by have:=h.zlt _ ((z1 _ aB).1 e);omega
 have sJ:aO.ownBlock≠some (w.heap.size+1):=fun e=>by
  rcases n4 _ e with e|e
  ·have:=h.rlt _ e;omega
  ·omega
 have rT:w.heap.size+1≠cb:=by have:=h.clt;omega
 have HC:=zab (And.intro z1 (And.intro hc (And.intro f4 (And.intro n4 (And.intro uU (And.intro sJ rT))))));have vR:=zab nJ;clear h hr hf hl xe nJ z1 hc f4 n4 uU sJ wT CA aB rT b0;go_wp2_with fail
 have hq:=(((Blk.set vR.o 0 (.int .i64 tag)).set 1 (.int .i64 l.length)).set 2 (.int .i64 q.blocks.length));refine bodyPost_ret (results_cell_row rfl _ _ (w.heap.size+1) _ _ _ _ rfl hq underlying290 rfl (by kernel_rfl)) rfl ?_;obtain ⟨z1,hc,f4,n4,uU,sJ,rT⟩:=HC.o;refine ⟨rfl,zvn F3.o z1 (hc.frk (((((Fr.refl (fun k=>k=w.heap.size+1) _).set _ _ (.inl rfl)).set _ _ (.inl rfl)).set _ _ (.inl rfl))) ?_) ?_ n4⟩
 ·rintro k (e|e|e) rfl
  ·exact uU e
  ·exact rT e
  ·exact sJ e
 ·have f5:Fr (fun k=>k=cb\/rv.ownBlock=some k\/w.heap.size<=k) w2 w4:=f4.mono (fun k hk=>by
   rcases hk with e|e|e
   ·exact .inl e
   ·exact .inr (.inl e)
   ·exact .inr (.inr (HS.o k e)))
  exact Fr.set (Fr.set (Fr.set f5 _ _ (.inl (.inr (.inr (zz8 _))))) _ _ (.inl (.inr (.inr (zz8 _))))) _ _ (.inl (.inr (.inr (zz8 _))))
theorem zro:∀ args w,(callFunc 214 args).run prog w=.ok (.enter 214 args) w:=by
 intro args w
 kernel_rfl
variable {sg:ByteArray}
theorem znD(hx:Blk w bx [.string sg] 9)(h:BS Z w cb bb rv sv kv fns q)(hl:q.code.length<=1000000):
  Calls prog 214 #[.pointer (some ⟨bb,0,none⟩),.pointer (some ⟨bx,0,none⟩)] w fun r w'=>r=.returned (.tuple #[])/\Did Z w cb bb rv sv kv fns ((q.write (.comp sg)).write .enter) w':=by
 have c0:=Blk.cell hx 0;simp at c0;have CW:=zab (zbS (i:=.comp sg) h rfl (by omega));clear h hx;go_enter func214,ntmps214
 go_wp2_with fail
 refine CW.o.mono ?_;rintro r w1 ⟨rfl,Z1,bh,bf,cA,z1,hb,f1,n1,n2,n3⟩;have CE:=zab (zbS (i:=.enter) hb rfl (by simp[Cp.Bs.write];omega));have HD:=zab (And.intro z1 (And.intro f1 (And.intro n1 (And.intro n2 n3))));clear CW c0 z1 hb f1 n1 n2 n3;go_wp2_with fail
 refine CE.o.mono ?_;rintro r w2 ⟨rfl,hd⟩;have HE:=zab hd;clear hd CE;go_wp2_with fail
 first|go_end0|refine bodyPost_ret (results_none rfl _ _ _) rfl ?_
 exact ⟨rfl,Did.trans HD.o.1 HD.o.2.1 HD.o.2.2.1 HD.o.2.2.2.1 HD.o.2.2.2.2 HE.o⟩
theorem zvq:∀ args w,(callFunc 259 args).run prog w=.ok (.enter 259 args) w:=by
 intro args w
 kernel_rfl
theorem zrJ{ar:Nat}(hx:Blk w bx [.int .i64 tag,.int .i64 ar] 219)(h:BS Z w cb bb rv sv kv fns q)(hl:q.code.length<=1000000):
  Calls prog 259 #[.pointer (some ⟨bb,0,none⟩),.pointer (some ⟨bx,0,none⟩)] w fun r w'=>r=.returned (.tuple #[])/\Did Z w cb bb rv sv kv fns ((q.write (.pack tag ar)).write .enter) w':=by
 have c0:=Blk.cell hx 0;have c1:=Blk.cell hx 1;simp at c0 c1;have CW:=zab (zbS (i:=.pack tag ar) h rfl (by omega));clear h hx;go_enter func259,ntmps259
 go_wp2_with fail
 refine CW.o.mono ?_;rintro r w1 ⟨rfl,Z1,bh,bf,cA,z1,hb,f1,n1,n2,n3⟩;have CE:=zab (zbS (i:=.enter) hb rfl (by simp[Cp.Bs.write];omega));have HD:=zab (And.intro z1 (And.intro f1 (And.intro n1 (And.intro n2 n3))));clear CW c0 c1 z1 hb f1 n1 n2 n3;go_wp2_with fail
 refine CE.o.mono ?_;rintro r w2 ⟨rfl,hd⟩;have HE:=zab hd;clear hd CE;go_wp2_with fail
 first|go_end0|refine bodyPost_ret (results_none rfl _ _ _) rfl ?_
 exact ⟨rfl,Did.trans HD.o.1 HD.o.2.1 HD.o.2.2.1 HD.o.2.2.2.1 HD.o.2.2.2.2 HE.o⟩
theorem znE(h:CS Z w cb rv fns bl)(hl:bl.length<=1000000000):
  Calls prog 158 #[.pointer (some ⟨cb,0,none⟩),.string sg] w fun r w'=>r=.returned (.int .i64 bl.length)/\zfH Z w cb rv fns (bl++[(2,[.comp sg,.enter])]) w':=by
 have mc:∀ (fn:Fn) (first cap:Array Value) (w:World),(Instr.makeFunc fn first cap).run prog w=.ok (.func fn first cap) w:=fun _ _ _ _=>rfl
 have HX:=zab (Blk.new w [.string sg] 9);have F0:Hid (Fr (fun _=>False) w (w.alloc (.cells #[.string sg] 9))):=zab ((Fr.refl _ _).alloc _);have HH:=zab h;clear h;go_enter func158,ntmps158
 go_wp2_with fail
 generalize w.alloc (.cells #[.string sg] 9)=w0 at HX F0 ⊢;refine (zdV _).mono ?_;rintro r w1 ⟨rfl,aD⟩;have F1:Hid (Fr (fun _=>False) w0 w1):=zab (aD ▸ (Fr.refl _ _).alloc _);have A1:Hid (Blk w1 w0.heap.size [.string ⟨#[]⟩] 9):=zab (aD ▸ Blk.new w0 [.string ⟨#[]⟩] 9);clear aD;go_wp2_with fail
 refine (zdV _).mono ?_;rintro r w2 ⟨rfl,aB⟩;have F2:Hid (Fr (fun _=>False) w1 w2):=zab (aB ▸ (Fr.refl _ _).alloc _);have A2:Hid (Blk w2 w1.heap.size [.string ⟨#[]⟩] 9):=zab (aB ▸ Blk.new w1 [.string ⟨#[]⟩] 9);clear aB;have f3:Fr (fun _=>False) w2 (w2.alloc (.cells #[.slice (some ⟨w0.heap.size,0,none⟩) 1 1,.slice (some ⟨w1.heap.size,0,none⟩) 1 1] 38)):=(Fr.refl _ _).alloc _;have one:∀ {W:World} {g:Nat},Blk W g [.string ⟨#[]⟩] 9->Row (fun _=>True) W 9 1 (.slice (some ⟨g,0,none⟩) 1 1) ([[]]:List Cp.Nm).length (strCells [[]]):=fun hb=>⟨zgj (base:=0) hb rfl (zyN _) (by unfold maxLen;omega) (zy5 _) rfl,fun _ _=>trivial⟩
 have CF:=zab (zdR (Blk.new w2 [.slice (some ⟨w0.heap.size,0,none⟩) 1 1,.slice (some ⟨w1.heap.size,0,none⟩) 1 1] 38) (one (Fr.blk A1.o (F2.o.trans f3) (by simp))) (one (Fr.blk A2.o f3 (by simp))) (by simp));have F3:=zab f3;clear f3 one;go_wp2_with fail
 refine CF.o.mono ?_;rintro r w4 ⟨sv,rfl,bA,f4⟩;obtain ⟨sp,sn,sc,rfl⟩:=zae bA;have aK:(([[]]:List Cp.Nm)++[[]]).reverse=[[],[]]:=rfl;rw[aK]at bA;have f40:=F1.o.trans (F2.o.trans (F3.o.trans f4));have f5:=F0.o.trans f40;have bK:∀ k,(Value.slice sp sn sc).ownBlock=some k->w.heap.size<=k:=fun k hk=>zyR (zyR F0.o.size (zyR F1.o.size (zyR F2.o.size F3.o.size))) (bA.2 k hk)
 have h:=HH.o;have CA:=zab (zgi (lb:=#[.pointer (some ⟨w.heap.size,0,none⟩)]) (q:=((⟨bl,[[],[]],[]⟩:Cp.Bs).write (.comp sg)).write .enter) zro (h.fr0 f5) (za0 bA.1 (zy5 _)) (fun k hk=>⟨by have:=h.clt;have:=bK k hk;omega,fun e=>by have:=h.rlt k e;have:=bK k hk;omega,fun e=>by have:=h.zlt k e;have:=bK k hk;omega⟩)
  (fun W bb bQ hb=>znD (Fr.blk (Fr.blk HX.o f40 (by simp)) bQ (by simp)) hb (by simp)) hl)
 have HS:=zab bK;have F5:=zab f5;clear h bA f4 f40 f5 bK CF aK;go_wp2_with fail
 refine CA.o.mono ?_;rintro r w6 ⟨rfl,Z',aO,z1,hc,f6,n6⟩;have HD:=zab (zmf F5.o HS.o z1 hc f6 n6);clear CA z1 hc f6 n6;go_wp2_with fail
 go_ret
 exact ⟨rfl,HD.o⟩
theorem zvI:(prog.info? 9).map (fun i=>(i.size,i.bytes,i.zero))=some (1,16,some (.string ⟨#[]⟩)):=by kernel_rfl
theorem madeS(n:Nat):madeCells (Value.cells (.string ⟨#[]⟩)) n=(strCells (List.replicate n [])).toArray:=by
 apply Array.ext
 ·simp[madeCells,strCells]
 ·intro i h1 h2;simp[madeCells,strCells,Value.cells,Nat.mod_one]
theorem ztA(hn:n<=1000000)(W:World):(Instr.makeSlice 38 (.int .i64 (n:Int)) (.int .i64 (n:Int))).run prog W=.ok (.slice (some ⟨W.heap.size,0,none⟩) n n) (W.alloc (.cells (strCells (List.replicate n [])).toArray 9)):=by
 obtain ⟨i,hi,he⟩:=zyX.1 zvI;simp only[zzL]at he;obtain ⟨h1,h2,h3⟩:=he;have:=run_make (P:=prog) W 38 9 i (.string ⟨#[]⟩) underlying38 hi h3 .i64 .i64 n n (by omega) (by omega) (by rw[h2];omega) (by omega);rw[this,h1,zy2,zAt,madeS]
theorem zrK{ar:Nat}(aK:sl=List.replicate ar [])(h:CS Z w cb rv fns bl)(hl:bl.length<=1000000000)(pQ:ar<=1000000):
  Calls prog 218 #[.pointer (some ⟨cb,0,none⟩),.agg #[.int .i64 tag,.int .i64 ar]] w fun r w'=>r=.returned (.int .i64 bl.length)/\zfH Z w cb rv fns (bl++[(sl.length,[.pack tag ar,.enter])]) w':=by
 have mc:∀ (fn:Fn) (first cap:Array Value) (w:World),(Instr.makeFunc fn first cap).run prog w=.ok (.func fn first cap) w:=fun _ _ _ _=>rfl
 have HM:=ztA pQ;have aU:sl.length=ar:=by rw[aK];simp
 rw[<-aK]at HM;obtain ⟨vs,gW⟩:∃ vs,strCells sl=vs:=⟨_,rfl⟩;have dJ:vs.length=ar:=by rw[<-gW];simp[strCells,aU]
 rw[gW]at HM;have hX:=Blk.alloc (Blk.new w [.int .i64 tag,.int .i64 ar] 219) (.cells vs.toArray 9);have f0:Fr (fun _=>False) w ((w.alloc (.cells #[.int .i64 tag,.int .i64 ar] 219)).alloc (.cells vs.toArray 9)):=((Fr.refl _ _).alloc _).alloc _;have hB:=Blk.new (w.alloc (.cells #[.int .i64 tag,.int .i64 ar] 219)) vs 9;rw[World.size_alloc]at hB;have ai:((w.alloc (.cells #[.int .i64 tag,.int .i64 ar] 219)).alloc (.cells vs.toArray 9)).ownsRow 0 9 1 (.slice (some ⟨w.heap.size+1,0,none⟩) ar ar) sl.length (strCells sl):=by
  rw[aU,gW];exact zgj hB dJ (zyN _) (by unfold maxLen;omega) (zy5 _) (by rw[<-dJ,zz7])
 have bK:∀ k,(Value.slice (some ⟨w.heap.size+1,0,none⟩) ar ar).ownBlock=some k->w.heap.size<=k:=fun k hk=>by simp[Value.ownBlock]at hk;omega
 have CA:=zab (zgi (lb:=#[.pointer (some ⟨w.heap.size,0,none⟩)]) (q:=((⟨bl,sl,[]⟩:Cp.Bs).write (.pack tag ar)).write .enter) zvq (h.fr0 f0) ai (fun k hk=>⟨by have:=h.clt;have:=bK k hk;omega,fun e=>by have:=h.rlt k e;have:=bK k hk;omega,fun e=>by have:=h.zlt k e;have:=bK k hk;omega⟩)
  (fun W bb bQ hb=>zrJ (Fr.blk hX bQ (by simp)) hb (by simp)) hl)
 have HS:=zab bK;have F0:=zab f0;clear h bK ai hB f0 hX dJ gW aU aK;go_enter func218,ntmps218
 go_wp2_with fail
 refine CA.o.mono ?_;rintro r w6 ⟨rfl,Z',aO,z1,hc,f6,n6⟩;have HD:=zab (zmf F0.o HS.o z1 hc f6 n6);clear CA z1 hc f6 n6;go_wp2_with fail
 go_ret
 exact ⟨rfl,HD.o⟩
theorem zqn{Z':Nat->Prop}{w':World}{aO:Value}(f:Fr (fun _=>False) w w2)(hs:∀ k,sv.ownBlock=some k->w.heap.size<=k)(hz:∀ k,k<w.heap.size->(Z' k↔Z k))(hc:CS Z' w' cb aO fns bl)(f2:Fr (fun k=>k=cb\/rv.ownBlock=some k\/sv.ownBlock=some k) w2 w')(hn:New w2 rv aO):zfH Z w cb rv fns bl w':=by
 refine ⟨Z',aO,hz,hc,?_,New.trans (New.refl w rv) hn f.size⟩;refine ⟨f2.os.trans f.os,f2.tape.trans f.tape,f2.output.trans f.output,zyR f.size f2.size,fun i hi hK=>(f2.block i (zyS hi f.size) (fun hn=>?_)).trans (f.block i hi (by simp))⟩;rcases hn with e|e|e
 ·exact hK (.inl e)
 ·exact hK (.inr e)
 ·have:=hs i e;omega
variable {Z1:Nat->Prop}{w1:World}
theorem BS.box{k:Nat}{vs:List Value}(h:BS Z w cb bb rv sv kv fns q)(f:Fr (KL cb bb rv sv kv) w w1)(z:∀ k,k<w.heap.size->(Z1 k↔Z k))(hb:Blk w k vs t)(hz:Z k):Blk w1 k vs t/\Z1 k:=
 ⟨Fr.blk hb f (h.zk k hz),(z k hb.lt).2 hz⟩
theorem BS.rep(h:BS Z w cb bb rv sv kv fns q)(f:Fr (KL cb bb rv sv kv) w w1)(z:∀ k,k<w.heap.size->(Z1 k↔Z k))(hr:Rep Z w n v e):Rep Z1 w1 n v e:=
 hr.frz f (fun k _ hz=>h.zk k hz) (fun k hk hz=>(z k hk).2 hz)
theorem BS.row{size:Nat}{xs:List Value}(h:BS Z w cb bb rv sv kv fns q)(f:Fr (KL cb bb rv sv kv) w w1)(z:∀ k,k<w.heap.size->(Z1 k↔Z k))(hr:Row Z w t size v n xs):Row Z1 w1 t size v n xs:=
 hr.frz f (fun k _ hz=>h.zk k hz) (fun k hk hz=>(z k hk).2 hz)
def Cp.zjJ (wk:Cp.Bs->Cp.Bs) (sg:ByteArray) (q:Cp.Bs):Cp.Bs:=
 let q2:=(q.write .zbX).push (.push (q.zac.length-1))
 wk (Cp.Bs.push ⟨q2.blocks++[(2,[.comp sg,.enter])],q2.zac,q2.code⟩ (.wait q2.blocks.length))
theorem zrS(hW:zbi M N n){bc bo m:Nat}{lv:Value}(hm:q.zac.length=m+1)(hc:Blk w bc [.pointer (some ⟨cb,0,none⟩)] 83)(zc:Z bc)(ho:Blk w bo [.string sg,lv,.iface t x] 166)(zo:Z bo)(h:BS Z w cb bb rv sv kv fns q)(hr:Rep Z w n (.iface t x) e)(aN:q.code.length<=1000000)(aK:q.zac.length<=1000000)(cV:q.blocks.length<=1000000)(hf:∀ bl cd,bl.length=q.blocks.length+1->cd.length=q.code.length+3->Fit M N fns ⟨bl,(q.zac++[[]])++[[]],cd⟩ e)(aw:2+(M+8)*Cp.wt N e<=1000000000):
  Calls prog 156 #[.pointer (some ⟨bb,0,none⟩),.pointer (some ⟨bc,0,none⟩),.pointer (some ⟨bo,0,none⟩)] w fun r w'=>r=.returned (.tuple #[])/\Did Z w cb bb rv sv kv fns (Cp.zjJ (Cp.work (Cp.free N) fns n e 2) sg q) w':=by
 obtain ⟨sp,sc,Hc,bA,_⟩:=zaO h.ziW;rw[hm]at bA;subst bA;have c1:=Blk.cell h.zbY 1;simp at c1;have CW:=zab (zbS (i:=.zbX) h rfl (by omega));have HH:=zab (And.intro h (And.intro hr (And.intro hf (And.intro hc (And.intro zc (And.intro ho zo))))));have HW:=zab hW;have HM:=zab hm;have GL:m<=1000000:=by omega
 clear h hr hf hc zc ho zo hW hm;go_enter func156,ntmps156
 go_wp2_with fail
 refine CW.o.mono ?_;rintro r w1 ⟨rfl,Z1,bh,bf,cA,z1,b1,f1,n1,n2,n3⟩;obtain ⟨h,hr,hf,hc,zc,ho,zo⟩:=HH.o;have CP:=zab (zbn (i:=.push m) b1 rfl (by simp[Cp.Bs.write];omega) (by simp[Cp.Bs.write];omega));have X1:=zab (And.intro z1 (And.intro b1 (And.intro f1 (And.intro n1 (And.intro n2 n3)))));have Y1:=zab (And.intro (h.rep f1 z1 hr) (And.intro (h.box f1 z1 hc zc) (h.box f1 z1 ho zo)));have HF:=zab hf;clear CW c1 h hr hf hc zc ho zo z1 b1 f1 n1 n2 n3 HH;go_wp2_with fail
 refine CP.o.mono ?_;rintro r w2 ⟨rfl,Z2,im,iq,ik,z1,b1,f1,n1,n2,n3⟩;have h:=X1.o.2.1;have hc:=h.box f1 z1 Y1.o.2.1.1 Y1.o.2.1.2;have ho:=h.box f1 z1 Y1.o.2.2.1 Y1.o.2.2.2;have CC:=zab (znE (sg:=sg) b1.cs (by simp[Cp.Bs.write,Cp.Bs.push];omega));have c0:=Blk.cell hc.1 0;have o0:=Blk.cell ho.1 0;simp at c0 o0;have X2:=zab (And.intro z1 (And.intro b1 (And.intro f1 (And.intro n1 (And.intro n2 n3)))));have Y2:=zab (And.intro (h.rep f1 z1 Y1.o.1) (And.intro hc ho));clear CP h hc ho z1 b1 f1 n1 n2 n3;go_wp2_with fail
 refine CC.o.mono ?_;rintro r w3 ⟨rfl,dc⟩;obtain ⟨Z3,j8,j9,j7,z1,b1,f1,n1,n2,n3⟩:=dc.did X2.o.2.1;have h:=X2.o.2.1;have ho:=h.box f1 z1 Y2.o.2.2.1 Y2.o.2.2.2;have CP:=zab (zbn (i:=.wait q.blocks.length) b1 rfl (by simp[Cp.Bs.write,Cp.Bs.push];omega) (by simp[Cp.Bs.write,Cp.Bs.push];omega));have X3:=zab (And.intro z1 (And.intro b1 (And.intro f1 (And.intro n1 (And.intro n2 n3)))));have Y3:=zab (And.intro (h.rep f1 z1 Y2.o.1) ho);clear CC h ho z1 b1 f1 n1 n2 n3 c0 o0 dc;go_wp2_with fail
 refine CP.o.mono ?_;rintro r w4 ⟨rfl,Z4,yA,yC,yv,z1,b1,f1,n1,n2,n3⟩;have h:=X3.o.2.1;have ho:=h.box f1 z1 Y3.o.2.1 Y3.o.2.2;have o2:=Blk.cell ho.1 2;simp at o2;have CK:=zab (HW.o (below:=2) b1 (h.rep f1 z1 Y3.o.1) (HF.o _ _ (by simp[Cp.Bs.write,Cp.Bs.push]) (by simp[Cp.Bs.write,Cp.Bs.push])) aw);have X4:=zab (And.intro z1 (And.intro b1 (And.intro f1 (And.intro n1 (And.intro n2 n3)))));clear CP h ho z1 b1 f1 n1 n2 n3;go_wp2_with fail
 refine CK.o.mono ?_;rintro r w5 ⟨rfl,d5⟩;have D5:=zab d5;clear d5 CK o2;go_wp2_with fail
 first|go_end0|refine bodyPost_ret (results_none rfl _ _ _) rfl ?_
 refine ⟨rfl,?_⟩;obtain ⟨z1,b1,f1,n1,n2,n3⟩:=X1.o;refine Did.trans z1 f1 n1 n2 n3 ?_;obtain ⟨z1,b1,f1,n1,n2,n3⟩:=X2.o;refine Did.trans z1 f1 n1 n2 n3 ?_;obtain ⟨z1,b1,f1,n1,n2,n3⟩:=X3.o;refine Did.trans z1 f1 n1 n2 n3 ?_;obtain ⟨z1,b1,f1,n1,n2,n3⟩:=X4.o;refine Did.trans z1 f1 n1 n2 n3 ?_;have d5:=D5.o;unfold Cp.zjJ;rw[HM.o];simpa [Cp.Bs.write,Cp.Bs.push] using d5
theorem ztH{W:World}{g:Nat}(hb:Blk W g [.string ⟨#[]⟩] 9):Row (fun _=>True) W 9 1 (.slice (some ⟨g,0,none⟩) 1 1) ([[]]:List Cp.Nm).length (strCells [[]]):=⟨zgj (base:=0) hb rfl (zyN _) (by unfold maxLen;omega) (zy5 _) rfl,fun _ _=>trivial⟩
theorem zvr:∀ args w,(callFunc 156 args).run prog w=.ok (.enter 156 args) w:=by
 intro args w
 kernel_rfl
theorem ztY(hW:zbi M N n){t1:TypeId}{x1:Value}(aK:sl=([]::names).reverse)(hq:q=Cp.zjJ (Cp.work (Cp.free N) fns n e 2) sg ⟨bl,sl,[]⟩)(h:CS Z w cb rv fns bl)(hr:Rep Z w n v e)(hn:Row Z w 9 1 nv names.length (strCells names))(hf:∀ b2 cd,b2.length=bl.length+1->cd.length=3->Fit M N fns ⟨b2,(sl++[[]])++[[]],cd⟩ e)(aw:2+(M+8)*Cp.wt N e<=1000000000)(ev:names.length<=100000)(cV:bl.length<=1000000)(hl:q.blocks.length<=1000000000):
  Calls prog 91 #[.pointer (some ⟨cb,0,none⟩),.agg #[.string sg,.iface t1 x1,v],nv] w fun r w'=>r=.returned (.int .i64 q.blocks.length)/\zfH Z w cb rv fns (q.blocks++[(sl.length,q.code)]) w':=by
 have mc:∀ (fn:Fn) (first cap:Array Value) (w:World),(Instr.makeFunc fn first cap).run prog w=.ok (.func fn first cap) w:=fun _ _ _ _=>rfl
 obtain ⟨t,x,rfl⟩:=zah hr;obtain ⟨np,nn,nc,rfl⟩:=zae hn;have f0:Fr (fun _=>False) w ((w.alloc (.cells #[.pointer (some ⟨cb,0,none⟩)] 83)).alloc (.cells #[.string sg,.iface t1 x1,.iface t x] 166)):=((Fr.refl _ _).alloc _).alloc _;have kM:=Blk.alloc (Blk.new w [.pointer (some ⟨cb,0,none⟩)] 83) (.cells #[.string sg,.iface t1 x1,.iface t x] 166);have oP:=Blk.new (w.alloc (.cells #[.pointer (some ⟨cb,0,none⟩)] 83)) [.string sg,.iface t1 x1,.iface t x] 166;rw[World.size_alloc]at oP;have n9:sl.length=names.length+1:=by rw[aK];simp
 have eR:=zab kM;have pM:=zab oP;have F0:=zab f0;have HN:=zab hn;have HH:=zab (And.intro h (And.intro hr (And.intro hf hl)));have iw:=zab (And.intro aK (And.intro hq n9));have HW:=zab hW;clear hW h hr hn hf hl kM oP f0 aK hq n9;go_enter func91,ntmps91
 go_wp2_with fail
 generalize (w.alloc (.cells #[.pointer (some ⟨cb,0,none⟩)] 83)).alloc (.cells #[.string sg,.iface t1 x1,.iface t x] 166)=w0 at eR pM F0 ⊢;have q1:w0.cell? ⟨w.heap.size,0,none⟩=some (.pointer (some ⟨cb,0,none⟩)):=Blk.cell eR.o 0;have AA:Hid (∀ (W:World) (sp:Option Addr) (sn sc:Nat),Fr (fun _=>False) w0 W->Names w0.heap.size W (.slice sp sn sc) sl->Calls prog 154 #[.pointer (some ⟨cb,0,none⟩),.slice sp sn sc,.func (.func 156) #[] #[.pointer (some ⟨w.heap.size,0,none⟩),.pointer (some ⟨w.heap.size+1,0,none⟩)]] W fun r w'=>r=.returned (.int .i64 q.blocks.length)/\zfH Z w cb rv fns (q.blocks++[(sl.length,q.code)]) w'/\w'.cell? ⟨w.heap.size,0,none⟩=some (.pointer (some ⟨cb,0,none⟩))):=zab (by
  intro W sp sn sc f2 bA;obtain ⟨h,hr,hf,hl⟩:=HH.o;have f3:=F0.o.trans f2;have bq:=pM.o.lt;have bK:∀ k,(Value.slice sp sn sc).ownBlock=some k->w.heap.size+2<=k:=fun k hk=>by have:=bA.2 k hk;omega
  have hA:∀ k,(k=w.heap.size\/k=w.heap.size+1)->k<W.heap.size/\k≠cb/\rv.ownBlock≠some k:=fun k hk=>⟨by have:=f2.size;omega,by have:=h.clt;omega,fun e=>by have:=h.rlt k e;omega⟩
  have h3:=(h.fr0 f3).more hA;refine (zgi (q:=q) zvr h3 (za0 bA.1 (zy5 _)) (fun k hk=>⟨by have:=h.clt;have:=bK k hk;omega,fun e=>by have:=h.rlt k e;have:=bK k hk;omega,fun e=>by
    have:=bK k hk;rcases e with e|e
    ·have:=h.zlt k e;omega
    ·omega⟩) (fun W' bb bQ hb=>?_) hl).mono ?_
  ·rw[iw.o.2.1];refine zrS HW.o (m:=names.length) iw.o.2.2 (Fr.blk (Fr.blk eR.o f2 (by simp)) bQ (by simp)) (.inr (.inl rfl)) (Fr.blk (Fr.blk pM.o f2 (by simp)) bQ (by simp)) (.inr (.inr rfl)) hb ((hr.fr0 (f3.trans bQ)).mono (fun k _ hk=>.inl hk)) (by simp) (by simp[iw.o.2.2];omega) cV (fun b2 cd h1 h2=>hf b2 cd h1 h2) aw
  ·rintro r w6 ⟨rfl,Z',aO,z1,hc,f6,n6⟩;refine ⟨rfl,zqn f3 (fun k hk=>by have:=bK k hk;omega) (fun k hk=>?_) hc f6 n6,?_⟩
   ·rw[z1 k (zyS hk f3.size)];constructor
    ·rintro (e|e)
     ·exact e
     ·omega
    ·exact .inl
   ·refine Blk.cell (Fr.blk (Fr.blk eR.o f2 (by simp)) f6 ?_) 0;rintro (e|e|e)
    ·have:=h.clt;omega
    ·have:=h.rlt _ e;omega
    ·have:=bK _ e;omega)
 go_region_held3 (fun W=>W.cell? ⟨w.heap.size,0,none⟩=some (.pointer (some ⟨cb,0,none⟩))) (first|assumption|go_keep) (first
  |(go_at_call 155;refine (zdV _).mono ?_;rintro e wA ⟨rfl,pj⟩;have FA:Hid (Fr (fun _=>False) w0 wA):=zab (by rw[pj];exact ((Fr.refl _ _).drew).alloc _);have A1:Hid (Blk wA w0.heap.size [.string ⟨#[]⟩] 9):=zab (by rw[pj];exact Blk.new w0.drew [.string ⟨#[]⟩] 9);clear pj;have q2:wA.cell? ⟨w.heap.size,0,none⟩=some (.pointer (some ⟨cb,0,none⟩)):=Blk.cell (Fr.blk eR.o FA.o (by simp)) 0;
    have q5:(wA.alloc (.cells #[.slice (some ⟨w0.heap.size,0,none⟩) 1 1,.slice np nn nc] 38)).cell? ⟨w.heap.size,0,none⟩=some (.pointer (some ⟨cb,0,none⟩)):=Blk.cell (Blk.alloc (Fr.blk eR.o FA.o (by simp)) _) 0)
  |(go_at_call 51;have f11:Fr (fun _=>False) wA (wA.alloc (.cells #[.slice (some ⟨w0.heap.size,0,none⟩) 1 1,.slice np nn nc] 38)):=(Fr.refl _ _).alloc _;refine (zdR (Blk.new wA [.slice (some ⟨w0.heap.size,0,none⟩) 1 1,.slice np nn nc] 38) (ztH (Fr.blk A1.o f11 (by simp))) (Row.frc HN.o (F0.o.trans (FA.o.trans f11)) (by simp)) (by simp;omega)).mono ?_;rintro r w2 ⟨sv,rfl,bA,f2⟩;have lF:Names _ w2 sv sl:=iw.o.1 ▸ bA;obtain ⟨sp,sn,sc,rfl⟩:=zae bA;have F2:=zab (FA.o.trans (f11.trans f2));have um:=zab lF;have mo:=zab (zyR FA.o.size f11.size);clear bA lF f2 f11;have q3:w2.cell? ⟨w.heap.size,0,none⟩=some (.pointer (some ⟨cb,0,none⟩)):=Blk.cell (Fr.blk eR.o F2.o (by simp)) 0)
  |(go_at_call 154;refine (AA.o _ _ _ _ F2.o (um.o.base mo.o)).mono ?_;rintro r w6 ⟨rfl,hd,q6⟩;have HD:=zab hd;clear hd))
 all_goals
  go_wp2_with fail
  go_ret
  exact ⟨rfl,HD.o⟩
theorem BS.ins{i:Ins}(h:BS Z w cb bb rv sv kv fns q)(f:Fr (KL cb bb rv sv kv) w w1)(z:∀ k,k<w.heap.size->(Z1 k↔Z k))(hi:zo5 Z w v i):zo5 Z1 w1 v i:=
 hi.frz f (fun k _ hz=>h.zk k hz) (fun k hk hz=>(z k hk).2 hz)
theorem zgS{c:Nat}{i:Ins}(h:BS Z w cb bb rv sv kv fns q)(hi:zo5 Z w v i)(hl:q.code.length+1<=1000000000):
  Calls prog 96 #[.pointer (some ⟨bb,0,none⟩),.int .i64 c,v] w fun r w'=>r=.returned (.tuple #[])/\Did Z w cb bb rv sv kv fns (q.ends c i) w':=by
 obtain ⟨t,x,rfl⟩:=zqA hi;have CW:=zab (zbS (i:=.zci c) h rfl (by omega));have HH:=zab (And.intro h hi);clear h hi;go_enter func96,ntmps96
 go_wp2_with fail
 refine CW.o.mono ?_;rintro r w1 ⟨rfl,Z1,bh,bf,cA,z1,b1,f1,n1,n2,n3⟩;have CE:=zab (zbS b1 (HH.o.1.ins f1 z1 HH.o.2) (by simp[Cp.Bs.write];omega));have X1:=zab (And.intro z1 (And.intro f1 (And.intro n1 (And.intro n2 n3))));clear CW z1 b1 f1 n1 n2 n3;go_wp2_with fail
 refine CE.o.mono ?_;rintro r w2 ⟨rfl,hd⟩;have HE:=zab hd;clear hd CE;go_wp2_with fail
 first|go_end0|refine bodyPost_ret (results_none rfl _ _ _) rfl ?_
 exact ⟨rfl,Did.trans X1.o.1 X1.o.2.1 X1.o.2.2.1 X1.o.2.2.2.1 X1.o.2.2.2.2 HE.o⟩
variable {blk:Nat}
theorem zqY(hW:zbi M N n){below:Nat}(h:BS Z w cb bb rv sv kv fns q)(hr:Rep Z w n v e)(hn:Row Z w 9 1 nv names.length (strCells names))(hin:∀ x∈names,x≠[]/\(Cp.za9 q.zac x=none->x∈fns))(aL:q.code.length+names.length+1<=1000000000)(aC:q.zac.length+names.length+1<=1000000000)(cW:fns.length<=1000000000)(hf:Fit M N fns ((q.zak fns names).push (.wait blk)) e)(hb:below+names.length+1+(M+8)*Cp.wt N e<=1000000000):
  Calls prog 90 #[.pointer (some ⟨bb,0,none⟩),v,nv,.int .i64 blk,.int .i64 below] w fun r w'=>r=.returned (.tuple #[])/\Did Z w cb bb rv sv kv fns (Cp.work (Cp.free N) fns n e (below+names.length+1) ((q.zak fns names).push (.wait blk))) w':=by
 obtain ⟨t,x,rfl⟩:=zah hr;obtain ⟨np,nc,_,rfl,_⟩:=zaO hn.1;have CU:=zab (zbU h hn hin (by omega) (by omega) cW);have HH:=zab (And.intro h (And.intro hr hf));have HW:=zab hW;have iC:below+names.length+1<=1000000000:=by omega
 have HB:=zab hb;have ul:=zbv fns names.reverse q;have eI:(q.zak fns names).code.length<=1000000000:=by unfold Cp.Bs.zak;rw[ul.2.1,zy4];omega
 have eN:(q.zak fns names).zac.length<=1000000000:=by unfold Cp.Bs.zak;rw[ul.1,zy4];omega
 obtain ⟨qu,AI⟩:∃ qu,q.zak fns names=qu:=⟨_,rfl⟩;rw[AI]at CU HH eI eN ⊢;clear h hr hn hin hf hW hb ul AI aL aC;go_enter func90,ntmps90
 go_wp2_with fail
 refine CU.o.mono ?_;rintro r w1 ⟨rfl,Z1,bh,bf,cA,z1,b1,f1,n1,n2,n3⟩;obtain ⟨h,hr,hf⟩:=HH.o;have CP:=zab (zbn (i:=.wait blk) b1 rfl eI eN);have X1:=zab (And.intro z1 (And.intro b1 (And.intro f1 (And.intro n1 (And.intro n2 n3)))));have Y1:=zab (h.rep f1 z1 hr);have HF:=zab hf;clear CU z1 b1 f1 n1 n2 n3 h hr hf HH;go_wp2_with fail
 refine CP.o.mono ?_;rintro r w2 ⟨rfl,Z2,im,iq,ik,z1,b1,f1,n1,n2,n3⟩;have CK:=zab (HW.o (below:=below+names.length+1) b1 (X1.o.2.1.rep f1 z1 Y1.o) HF.o HB.o);have X2:=zab (And.intro z1 (And.intro f1 (And.intro n1 (And.intro n2 n3))));clear CP z1 b1 f1 n1 n2 n3;rw[show ((below+names.length+1:Nat):Int)=(below:Int)+(names.length:Int)+1 by omega]at CK;go_wp2_with fail
 refine CK.o.mono ?_;rintro r w3 ⟨rfl,hd⟩;have D3:=zab hd;clear hd CK;go_wp2_with fail
 first|go_end0|refine bodyPost_ret (results_none rfl _ _ _) rfl ?_
 refine ⟨rfl,?_⟩;obtain ⟨z1,b1,f1,n1,n2,n3⟩:=X1.o;refine Did.trans z1 f1 n1 n2 n3 ?_;obtain ⟨z1,f1,n1,n2,n3⟩:=X2.o;exact Did.trans z1 f1 n1 n2 n3 D3.o
def znm (Z:Nat->Prop) (w:World) (cb bb:Nat) (rv sv kv:Value) (fns:List Cp.Nm) (q':Cp.Bs) (w':World) (nv:Value) (names:List Cp.Nm):Prop:=
 ∃ Z' aO sv' bG,(∀ k,k<w.heap.size->(Z' k↔Z k))/\BS Z' w' cb bb aO sv' bG fns q'/\Fr (KL cb bb rv sv kv) w w'/\New w rv aO/\New w sv sv'/\New w kv bG/\Row Z' w' 9 1 nv names.length (strCells names)
theorem zfH.fr0(f:Fr (fun _=>False) w w1)(d:zfH Z w1 cb rv fns bl w2):zfH Z w cb rv fns bl w2:=by
 obtain ⟨Z',aO,h1,h2,h3,h4⟩:=d;refine ⟨Z',aO,fun k hk=>h1 k (zyS hk f.size),h2,(f.mono (fun _ x=>x.elim)).trans h3,New.trans (New.refl w rv) h4 f.size⟩
theorem BS.zp5(h:BS Z w cb bb rv sv kv fns q)(f2:Fr (fun _=>False) w w2)(ay:Names w.heap.size w2 nv names):BS (fun k=>Z k\/nv.ownBlock=some k) w2 cb bb rv sv kv fns q:=by
 have hs:=h.slt;have hk:=h.klt;have hr:=h.rlt;have hb:=h.zbY.lt;have hc:=h.clt;refine (h.fr0 f2).more (fun k fy=>⟨(ay.1.lt k fy).2,?_⟩);have nO:=ay.2 k fy;rintro (e|e|e|e|e)
 ·omega
 ·omega
 ·have:=hr k e;omega
 ·have:=hs k e;omega
 ·have:=hk k e;omega
theorem zeM{w3:World}(h:BS Z w cb bb rv sv kv fns q)(f2:Fr (fun _=>False) w w2)(ay:Names w.heap.size w2 nv names)(hd:zfH (fun k=>Z k\/nv.ownBlock=some k) w2 cb rv fns bl w3):znm Z w cb bb rv sv kv fns ⟨bl,q.zac,q.code⟩ w3 nv names:=by
 have hb:=h.zp5 f2 ay;obtain ⟨Z',aO,sv',bG,z1,b1,f1,n1,n2,n3⟩:=hd.did hb;have af:Row (fun k=>Z k\/nv.ownBlock=some k) w2 9 1 nv names.length (strCells names):=⟨ay.1,fun k hk=>.inr hk⟩;refine ⟨Z',aO,sv',bG,fun k hk=>?_,b1,(f2.mono (fun _ x=>x.elim)).trans f1,New.trans (New.refl w rv) n1 f2.size,New.trans (New.refl w sv) n2 f2.size,New.trans (New.refl w kv) n3 f2.size,hb.row f1 z1 af⟩;rw[z1 k (zyS hk f2.size)];constructor
 ·rintro (e|e)
  ·exact e
  ·have:=ay.2 k e;omega
 ·exact .inl
theorem Did4{w3 w4:World}(h:BS Z w cb bb rv sv kv fns q)(f2:Fr (fun _=>False) w w2)(_hnv:Names w.heap.size w2 nv names)(f3:Fr (fun _=>False) w2 w3)(hd:zfH (fun k=>Z k\/nv.ownBlock=some k) w3.drew cb rv fns bl w4):
  Blk w4 bb [.pointer (some ⟨cb,0,none⟩),sv,kv] 159/\∀ k vs t,w2.heap.size<=k->Blk w3 k vs t->Blk w4 k vs t:=by
 have hc:=h.clt;have hr:=h.rlt;have h2:=f2.size;obtain ⟨Z',aO,z1,b1,f1,n1⟩:=hd;refine ⟨Fr.blk (a:=w3.drew) (((h.fr0 f2).fr0 f3).zbY) f1 ?_,fun k vs t hk hb=>Fr.blk (a:=w3.drew) hb f1 ?_⟩
 ·rintro (e|e)
  ·exact h.ne e.symm
  ·exact h.rc.2 e
 ·rintro (e|e)
  ·omega
  ·have:=hr k e;omega
variable {l:List Cp.Nm}
theorem zkz(h:BS Z w cb bb rv sv kv fns q)(ak:Calls prog 89 #[.iface 217 x] w fun r w'=>∃ v',r=.returned v'/\Names w.heap.size w' v' l/\Fr (fun _=>False) w w')(bu:names=Cp.zai q.zac l)(aL:l.length<=1000000)(aC:q.zac.length<=1000000000)(hc:∀ W nv,Fr (fun _=>False) w W->Names w.heap.size W nv names->Calls prog 161 #[.pointer (some ⟨cb,0,none⟩),.iface 217 x,nv] W fun r w'=>r=.returned (.int .i64 blk)/\zfH (fun k=>Z k\/nv.ownBlock=some k) W cb rv fns bl w'):
  Calls prog 165 #[.pointer (some ⟨bb,0,none⟩),.iface 217 x] w fun r w'=>∃ nv,r=.returned (.tuple #[.int .i64 blk,nv])/\znm Z w cb bb rv sv kv fns ⟨bl,q.zac,q.code⟩ w' nv names:=by
 have i0:=zeA;have i1:=zki;have CF:=zab ak;have HH:=zab h;have HC:=zab hc;have HN:=zab bu;clear h ak hc bu;go_enter func165,ntmps165
 go_wp2_with fail
 refine CF.o.mono ?_;rintro r w1 ⟨fv,rfl,bI,f1⟩;obtain ⟨fa,fn,fc,rfl⟩:=zae bI;have dN:=zab (zcl (HH.o.fr0 f1) bI aL aC);have F1:=zab f1;clear CF bI f1;go_wp2_with fail
 refine dN.o.mono ?_;rintro r w2 ⟨nv,rfl,ay,f2⟩;rw[<-HN.o]at ay;obtain ⟨na,nn,nc,rfl⟩:=zaF ay;have F2:=zab (F1.o.trans f2);have cZ:Hid (Names w.heap.size w2 (.slice na nn nc) names):=zab (Names.base (Row.zaE ay) F1.o.size);have b0:=Blk.cell (HH.o.fr0 F2.o).zbY 0;simp at b0;have CA:=zab (HC.o w2 _ F2.o cZ.o);clear dN ay f2;go_wp2_with fail
 refine CA.o.mono ?_;rintro r w3 ⟨rfl,hd⟩;have HD:=zab (zeM HH.o F2.o cZ.o hd);clear hd CA b0 i0 i1;go_wp2_with fail
 refine bodyPost_ret (results_tmp2 rfl _ _ _) rfl ?_;exact ⟨_,rfl,HD.o⟩
theorem zph(h:BS Z w cb bb rv sv kv fns q)(ak:Calls prog 89 #[.iface 215 x] w fun r w'=>∃ v',r=.returned v'/\Names w.heap.size w' v' l/\Fr (fun _=>False) w w')(bu:names=Cp.zai q.zac l)(aL:l.length<=1000000)(aC:q.zac.length<=1000000000)(hc:∀ W nv,Fr (fun _=>False) w W->Names w.heap.size W nv names->Calls prog 161 #[.pointer (some ⟨cb,0,none⟩),.iface 215 x,nv] W fun r w'=>r=.returned (.int .i64 blk)/\zfH (fun k=>Z k\/nv.ownBlock=some k) W cb rv fns bl w'):
  Calls prog 165 #[.pointer (some ⟨bb,0,none⟩),.iface 215 x] w fun r w'=>∃ nv,r=.returned (.tuple #[.int .i64 blk,nv])/\znm Z w cb bb rv sv kv fns ⟨bl,q.zac,q.code⟩ w' nv names:=by
 have i0:=znc;have i1:=zoQ;have CF:=zab ak;have HH:=zab h;have HC:=zab hc;have HN:=zab bu;clear h ak hc bu;go_enter func165,ntmps165
 go_wp2_with fail
 refine CF.o.mono ?_;rintro r w1 ⟨fv,rfl,bI,f1⟩;obtain ⟨fa,fn,fc,rfl⟩:=zae bI;have dN:=zab (zcl (HH.o.fr0 f1) bI aL aC);have F1:=zab f1;clear CF bI f1;go_wp2_with fail
 refine dN.o.mono ?_;rintro r w2 ⟨nv,rfl,ay,f2⟩;rw[<-HN.o]at ay;obtain ⟨na,nn,nc,rfl⟩:=zaF ay;have F2:=zab (F1.o.trans f2);have cZ:Hid (Names w.heap.size w2 (.slice na nn nc) names):=zab (Names.base (Row.zaE ay) F1.o.size);have b0:=Blk.cell (HH.o.fr0 F2.o).zbY 0;simp at b0;have CA:=zab (HC.o w2 _ F2.o cZ.o);clear dN ay f2;go_wp2_with fail
 refine CA.o.mono ?_;rintro r w3 ⟨rfl,hd⟩;have HD:=zab (zeM HH.o F2.o cZ.o hd);clear hd CA b0 i0 i1;go_wp2_with fail
 refine bodyPost_ret (results_tmp2 rfl _ _ _) rfl ?_;exact ⟨_,rfl,HD.o⟩
theorem znz(h:BS Z w cb bb rv sv kv fns q)(ak:Calls prog 89 #[.iface 163 x] w fun r w'=>∃ v',r=.returned v'/\Names w.heap.size w' v' l/\Fr (fun _=>False) w w')(bu:names=Cp.zai q.zac l)(aL:l.length<=1000000)(aC:q.zac.length<=1000000000)(hc:∀ W nv,Fr (fun _=>False) w W->Names w.heap.size W nv names->Calls prog 161 #[.pointer (some ⟨cb,0,none⟩),.iface 163 x,nv] W fun r w'=>r=.returned (.int .i64 blk)/\zfH (fun k=>Z k\/nv.ownBlock=some k) W cb rv fns bl w'):
  Calls prog 165 #[.pointer (some ⟨bb,0,none⟩),.iface 163 x] w fun r w'=>∃ nv,r=.returned (.tuple #[.int .i64 blk,nv])/\znm Z w cb bb rv sv kv fns ⟨bl,q.zac,q.code⟩ w' nv names:=by
 have i0:=zk4;have i1:=zhv;have CF:=zab ak;have HH:=zab h;have HC:=zab hc;have HN:=zab bu;clear h ak hc bu;go_enter func165,ntmps165
 go_wp2_with fail
 refine CF.o.mono ?_;rintro r w1 ⟨fv,rfl,bI,f1⟩;obtain ⟨fa,fn,fc,rfl⟩:=zae bI;have dN:=zab (zcl (HH.o.fr0 f1) bI aL aC);have F1:=zab f1;clear CF bI f1;go_wp2_with fail
 refine dN.o.mono ?_;rintro r w2 ⟨nv,rfl,ay,f2⟩;rw[<-HN.o]at ay;obtain ⟨na,nn,nc,rfl⟩:=zaF ay;have F2:=zab (F1.o.trans f2);have cZ:Hid (Names w.heap.size w2 (.slice na nn nc) names):=zab (Names.base (Row.zaE ay) F1.o.size);have b0:=Blk.cell (HH.o.fr0 F2.o).zbY 0;simp at b0;have CA:=zab (HC.o w2 _ F2.o cZ.o);clear dN ay f2;go_wp2_with fail
 refine CA.o.mono ?_;rintro r w3 ⟨rfl,hd⟩;have HD:=zab (zeM HH.o F2.o cZ.o hd);clear hd CA b0 i0 i1;go_wp2_with fail
 refine bodyPost_ret (results_tmp2 rfl _ _ _) rfl ?_;exact ⟨_,rfl,HD.o⟩
theorem zhH(h:BS Z w cb bb rv sv kv fns q)(ak:Calls prog 89 #[.iface 166 x] w fun r w'=>∃ v',r=.returned v'/\Names w.heap.size w' v' l/\Fr (fun _=>False) w w')(bu:names=Cp.zai q.zac l)(aL:l.length<=1000000)(aC:q.zac.length<=1000000000)(hc:∀ W nv,Fr (fun _=>False) w W->Names w.heap.size W nv names->Calls prog 161 #[.pointer (some ⟨cb,0,none⟩),.iface 166 x,nv] W fun r w'=>r=.returned (.int .i64 blk)/\zfH (fun k=>Z k\/nv.ownBlock=some k) W cb rv fns bl w'):
  Calls prog 165 #[.pointer (some ⟨bb,0,none⟩),.iface 166 x] w fun r w'=>∃ nv,r=.returned (.tuple #[.int .i64 blk,nv])/\znm Z w cb bb rv sv kv fns ⟨bl,q.zac,q.code⟩ w' nv names:=by
 have i0:=zgE;have i1:=zdD;have CF:=zab ak;have HH:=zab h;have HC:=zab hc;have HN:=zab bu;clear h ak hc bu;go_enter func165,ntmps165
 go_wp2_with fail
 refine CF.o.mono ?_;rintro r w1 ⟨fv,rfl,bI,f1⟩;obtain ⟨fa,fn,fc,rfl⟩:=zae bI;have dN:=zab (zcl (HH.o.fr0 f1) bI aL aC);have F1:=zab f1;clear CF bI f1;go_wp2_with fail
 refine dN.o.mono ?_;rintro r w2 ⟨nv,rfl,ay,f2⟩;rw[<-HN.o]at ay;obtain ⟨na,nn,nc,rfl⟩:=zaF ay;have F2:=zab (F1.o.trans f2);have cZ:Hid (Names w.heap.size w2 (.slice na nn nc) names):=zab (Names.base (Row.zaE ay) F1.o.size);have b0:=Blk.cell (HH.o.fr0 F2.o).zbY 0;simp at b0;have CA:=zab (HC.o w2 _ F2.o cZ.o);clear dN ay f2;go_wp2_with fail
 refine CA.o.mono ?_;rintro r w3 ⟨rfl,hd⟩;have HD:=zab (zeM HH.o F2.o cZ.o hd);clear hd CA b0 i0 i1;go_wp2_with fail
 refine bodyPost_ret (results_tmp2 rfl _ _ _) rfl ?_;exact ⟨_,rfl,HD.o⟩
theorem zpg(h:BS Z w cb bb rv sv kv fns q)(ak:Calls prog 89 #[.iface 178 x] w fun r w'=>∃ v',r=.returned v'/\Names w.heap.size w' v' l/\Fr (fun _=>False) w w')(bu:names=Cp.zai q.zac l)(aL:l.length<=1000000)(aC:q.zac.length<=1000000000)(hc:∀ W nv,Fr (fun _=>False) w W->Names w.heap.size W nv names->Calls prog 161 #[.pointer (some ⟨cb,0,none⟩),.iface 178 x,nv] W fun r w'=>r=.returned (.int .i64 blk)/\zfH (fun k=>Z k\/nv.ownBlock=some k) W cb rv fns bl w'):
  Calls prog 165 #[.pointer (some ⟨bb,0,none⟩),.iface 178 x] w fun r w'=>∃ nv,r=.returned (.tuple #[.int .i64 blk,nv])/\znm Z w cb bb rv sv kv fns ⟨bl,q.zac,q.code⟩ w' nv names:=by
 have i0:=zna;have i1:=zio;have CF:=zab ak;have HH:=zab h;have HC:=zab hc;have HN:=zab bu;clear h ak hc bu;go_enter func165,ntmps165
 go_wp2_with fail
 refine CF.o.mono ?_;rintro r w1 ⟨fv,rfl,bI,f1⟩;obtain ⟨fa,fn,fc,rfl⟩:=zae bI;have dN:=zab (zcl (HH.o.fr0 f1) bI aL aC);have F1:=zab f1;clear CF bI f1;go_wp2_with fail
 refine dN.o.mono ?_;rintro r w2 ⟨nv,rfl,ay,f2⟩;rw[<-HN.o]at ay;obtain ⟨na,nn,nc,rfl⟩:=zaF ay;have F2:=zab (F1.o.trans f2);have cZ:Hid (Names w.heap.size w2 (.slice na nn nc) names):=zab (Names.base (Row.zaE ay) F1.o.size);have b0:=Blk.cell (HH.o.fr0 F2.o).zbY 0;simp at b0;have CA:=zab (HC.o w2 _ F2.o cZ.o);clear dN ay f2;go_wp2_with fail
 refine CA.o.mono ?_;rintro r w3 ⟨rfl,hd⟩;have HD:=zab (zeM HH.o F2.o cZ.o hd);clear hd CA b0 i0 i1;go_wp2_with fail
 refine bodyPost_ret (results_tmp2 rfl _ _ _) rfl ?_;exact ⟨_,rfl,HD.o⟩
theorem znA(h:BS Z w cb bb rv sv kv fns q)(ak:Calls prog 89 #[.iface 173 x] w fun r w'=>∃ v',r=.returned v'/\Names w.heap.size w' v' l/\Fr (fun _=>False) w w')(bu:names=Cp.zai q.zac l)(aL:l.length<=1000000)(aC:q.zac.length<=1000000000)(hc:∀ W nv,Fr (fun _=>False) w W->Names w.heap.size W nv names->Calls prog 161 #[.pointer (some ⟨cb,0,none⟩),.iface 173 x,nv] W fun r w'=>r=.returned (.int .i64 blk)/\zfH (fun k=>Z k\/nv.ownBlock=some k) W cb rv fns bl w'):
  Calls prog 165 #[.pointer (some ⟨bb,0,none⟩),.iface 173 x] w fun r w'=>∃ nv,r=.returned (.tuple #[.int .i64 blk,nv])/\znm Z w cb bb rv sv kv fns ⟨bl,q.zac,q.code⟩ w' nv names:=by
 have i0:=zk6;have i1:=zhw;have CF:=zab ak;have HH:=zab h;have HC:=zab hc;have HN:=zab bu;clear h ak hc bu;go_enter func165,ntmps165
 go_wp2_with fail
 refine CF.o.mono ?_;rintro r w1 ⟨fv,rfl,bI,f1⟩;obtain ⟨fa,fn,fc,rfl⟩:=zae bI;have dN:=zab (zcl (HH.o.fr0 f1) bI aL aC);have F1:=zab f1;clear CF bI f1;go_wp2_with fail
 refine dN.o.mono ?_;rintro r w2 ⟨nv,rfl,ay,f2⟩;rw[<-HN.o]at ay;obtain ⟨na,nn,nc,rfl⟩:=zaF ay;have F2:=zab (F1.o.trans f2);have cZ:Hid (Names w.heap.size w2 (.slice na nn nc) names):=zab (Names.base (Row.zaE ay) F1.o.size);have b0:=Blk.cell (HH.o.fr0 F2.o).zbY 0;simp at b0;have CA:=zab (HC.o w2 _ F2.o cZ.o);clear dN ay f2;go_wp2_with fail
 refine CA.o.mono ?_;rintro r w3 ⟨rfl,hd⟩;have HD:=zab (zeM HH.o F2.o cZ.o hd);clear hd CA b0 i0 i1;go_wp2_with fail
 refine bodyPost_ret (results_tmp2 rfl _ _ _) rfl ?_;exact ⟨_,rfl,HD.o⟩
theorem zky(h:BS Z w cb bb rv sv kv fns q)(ak:Calls prog 89 #[.iface 226 (.agg #[.slice pp pn pc,.iface t x])] w fun r w'=>∃ v',r=.returned v'/\Names w.heap.size w' v' l/\Fr (fun _=>False) w w')(bu:names=Cp.zai q.zac l)(aL:l.length<=1000000)(aC:q.zac.length<=1000000000)(hc:∀ W nv,Fr (fun _=>False) w W->Names w.heap.size W nv names->Calls prog 217 #[.pointer (some ⟨cb,0,none⟩),.agg #[.slice pp pn pc,.iface t x],nv] W fun r w'=>r=.returned (.int .i64 blk)/\zfH (fun k=>Z k\/nv.ownBlock=some k) W cb rv fns bl w'):
  Calls prog 165 #[.pointer (some ⟨bb,0,none⟩),.iface 226 (.agg #[.slice pp pn pc,.iface t x])] w fun r w'=>∃ nv,r=.returned (.tuple #[.int .i64 blk,nv])/\znm Z w cb bb rv sv kv fns ⟨bl,q.zac,q.code⟩ w' nv names:=by
 have i0:=zey;have CF:=zab ak;have HH:=zab h;have HC:=zab hc;have HN:=zab bu;clear h ak hc bu;go_enter func165,ntmps165
 go_wp2_with fail
 refine CF.o.mono ?_;rintro r w1 ⟨fv,rfl,bI,f1⟩;obtain ⟨fa,fn,fc,rfl⟩:=zae bI;have dN:=zab (zcl (HH.o.fr0 f1) bI aL aC);have F1:=zab f1;clear CF bI f1;go_wp2_with fail
 refine dN.o.mono ?_;rintro r w2 ⟨nv,rfl,ay,f2⟩;rw[<-HN.o]at ay;obtain ⟨na,nn,nc,rfl⟩:=zaF ay;have F2:=zab (F1.o.trans f2);have cZ:Hid (Names w.heap.size w2 (.slice na nn nc) names):=zab (Names.base (Row.zaE ay) F1.o.size);have b0:=Blk.cell (HH.o.fr0 F2.o).zbY 0;simp at b0;have f3:Fr (fun _=>False) w2 (w2.alloc (.cells #[.slice pp pn pc,.iface t x] 226)):=(Fr.refl _ _).alloc _;have CA:=zab (HC.o (w2.alloc (.cells #[.slice pp pn pc,.iface t x] 226)).drew _ ((F2.o.trans f3).drew) (cZ.o.fr0 f3.drew));have B3:=zab (Blk.new w2 [.slice pp pn pc,.iface t x] 226);have F3:=zab f3;have b3:=Blk.cell ((HH.o.fr0 F2.o).fr0 f3).zbY 0;simp at b3;clear dN ay f2 f3;go_wp2_with fail
 generalize (w2.alloc (.cells #[.slice pp pn pc,.iface t x] 226))=w3 at CA B3 F3 b3 ⊢;have p0:=Blk.cell B3.o 0;have p1:=Blk.cell B3.o 1;simp at p0 p1
 go_region_held3 (fun W=>W.cell? ⟨w2.heap.size,0,none⟩=some (.slice pp pn pc)/\W.cell? ⟨w2.heap.size,1,none⟩=some (.iface t x)/\W.cell? ⟨bb,0,none⟩=some (.pointer (some ⟨cb,0,none⟩))) (first|(refine ⟨?_,?_,?_⟩ <;> assumption)|go_keep) (first
  |(go_at_call 217;refine CA.o.mono ?_;rintro r w4 ⟨rfl,hd⟩;have HD:=zab hd;have mL:=(Did4 HH.o F2.o cZ.o F3.o hd);have b4:=Blk.cell mL.1 0;simp at b4;have r0:=Blk.cell (mL.2 w2.heap.size _ _ (zyN _) B3.o) 0;have r1:=Blk.cell (mL.2 w2.heap.size _ _ (zyN _) B3.o) 1;simp at r0 r1;clear hd mL))
 all_goals
  go_wp2_with fail
  refine bodyPost_ret (results_tmp2 rfl _ _ _) rfl ?_;exact ⟨_,rfl,zeM HH.o F2.o cZ.o (HD.o.fr0 F3.o.drew)⟩
theorem zmb{tag ar:Int}(h:BS Z w cb bb rv sv kv fns q)(ak:Calls prog 89 #[.iface 219 (.agg #[.int .i64 tag,.int .i64 ar])] w fun r w'=>∃ v',r=.returned v'/\Names w.heap.size w' v' l/\Fr (fun _=>False) w w')(bu:names=Cp.zai q.zac l)(aL:l.length<=1000000)(aC:q.zac.length<=1000000000)(hc:∀ W nv,Fr (fun _=>False) w W->Names w.heap.size W nv names->Calls prog 218 #[.pointer (some ⟨cb,0,none⟩),.agg #[.int .i64 tag,.int .i64 ar]] W fun r w'=>r=.returned (.int .i64 blk)/\zfH (fun k=>Z k\/nv.ownBlock=some k) W cb rv fns bl w'):
  Calls prog 165 #[.pointer (some ⟨bb,0,none⟩),.iface 219 (.agg #[.int .i64 tag,.int .i64 ar])] w fun r w'=>∃ nv,r=.returned (.tuple #[.int .i64 blk,nv])/\znm Z w cb bb rv sv kv fns ⟨bl,q.zac,q.code⟩ w' nv names:=by
 have i0:=zfh;have i1:=zdL;have CF:=zab ak;have HH:=zab h;have HC:=zab hc;have HN:=zab bu;clear h ak hc bu;go_enter func165,ntmps165
 go_wp2_with fail
 refine CF.o.mono ?_;rintro r w1 ⟨fv,rfl,bI,f1⟩;obtain ⟨fa,fn,fc,rfl⟩:=zae bI;have dN:=zab (zcl (HH.o.fr0 f1) bI aL aC);have F1:=zab f1;clear CF bI f1;go_wp2_with fail
 refine dN.o.mono ?_;rintro r w2 ⟨nv,rfl,ay,f2⟩;rw[<-HN.o]at ay;obtain ⟨na,nn,nc,rfl⟩:=zaF ay;have F2:=zab (F1.o.trans f2);have cZ:Hid (Names w.heap.size w2 (.slice na nn nc) names):=zab (Names.base (Row.zaE ay) F1.o.size);have b0:=Blk.cell (HH.o.fr0 F2.o).zbY 0;simp at b0;have f3:Fr (fun _=>False) w2 (w2.alloc (.cells #[.int .i64 tag,.int .i64 ar] 219)):=(Fr.refl _ _).alloc _;have CA:=zab (HC.o (w2.alloc (.cells #[.int .i64 tag,.int .i64 ar] 219)).drew _ ((F2.o.trans f3).drew) (cZ.o.fr0 f3.drew));have B3:=zab (Blk.new w2 [.int .i64 tag,.int .i64 ar] 219);have F3:=zab f3;have b3:=Blk.cell ((HH.o.fr0 F2.o).fr0 f3).zbY 0;simp at b3;clear dN ay f2 f3;go_wp2_with fail
 generalize (w2.alloc (.cells #[.int .i64 tag,.int .i64 ar] 219))=w3 at CA B3 F3 b3 ⊢;have p0:=Blk.cell B3.o 0;have p1:=Blk.cell B3.o 1;simp at p0 p1
 go_region_held3 (fun W=>W.cell? ⟨w2.heap.size,0,none⟩=some (.int .i64 tag)/\W.cell? ⟨w2.heap.size,1,none⟩=some (.int .i64 ar)/\W.cell? ⟨bb,0,none⟩=some (.pointer (some ⟨cb,0,none⟩))) (first|(refine ⟨?_,?_,?_⟩ <;> assumption)|go_keep) (first
  |(go_at_call 218;refine CA.o.mono ?_;rintro r w4 ⟨rfl,hd⟩;have HD:=zab hd;have mL:=(Did4 HH.o F2.o cZ.o F3.o hd);have b4:=Blk.cell mL.1 0;simp at b4;have r0:=Blk.cell (mL.2 w2.heap.size _ _ (zyN _) B3.o) 0;have r1:=Blk.cell (mL.2 w2.heap.size _ _ (zyN _) B3.o) 1;simp at r0 r1;clear hd mL))
 all_goals
  go_wp2_with fail
  refine bodyPost_ret (results_tmp2 rfl _ _ _) rfl ?_;exact ⟨_,rfl,zeM HH.o F2.o cZ.o (HD.o.fr0 F3.o.drew)⟩
theorem zvC{at_:Int}(h:BS Z w cb bb rv sv kv fns q)(x:Cp.Nm)(hin:Cp.za9 q.zac x=none->x∈fns)(hl:q.code.length<=1000000000)(aC:q.zac.length<=1000000000)(cW:fns.length<=1000000000):
  Calls prog 95 #[.pointer (some ⟨bb,0,none⟩),.iface 215 (.agg #[.string ⟨x.toArray⟩,.int .i64 at_])] w fun r w'=>r=.returned (.tuple #[])/\Did Z w cb bb rv sv kv fns (q.use fns x) w':=by
 have i0:=zlW;have F0:Hid (Fr (fun _=>False) w (w.alloc (.cells #[.string ⟨x.toArray⟩,.int .i64 at_] 215))):=zab ((Fr.refl _ _).alloc _);have CU:=zab (zuK (h.fr0 F0.o) x hin hl aC cW);clear h hin;go_enter func95,ntmps95
 go_wp2_with fail
 refine CU.o.mono ?_;rintro r w1 ⟨rfl,hd⟩;have HD:=zab (Did.fr0 F0.o hd);clear hd CU i0;go_wp2_with fail
 first|go_end0|refine bodyPost_ret (results_none rfl _ _ _) rfl ?_
 exact ⟨rfl,HD.o⟩
theorem zpy{x:Int}(h:BS Z w cb bb rv sv kv fns q)(hl:q.code.length<=1000000000)(aC:q.zac.length<=1000000000):
  Calls prog 95 #[.pointer (some ⟨bb,0,none⟩),.iface 217 (.agg #[.int .i64 x])] w fun r w'=>r=.returned (.tuple #[])/\Did Z w cb bb rv sv kv fns (q.push (.num x)) w':=by
 have i0:=zhB;have i1:=ziJ;have F0:Hid (Fr (fun _=>False) w (w.alloc (.cells #[.int .i64 x] 217))):=zab ((Fr.refl _ _).alloc _);have CU:=zab (zbn (i:=.num x) (h.fr0 F0.o) rfl hl aC);clear h;go_enter func95,ntmps95
 go_wp2_with fail
 refine CU.o.mono ?_;rintro r w1 ⟨rfl,hd⟩;have HD:=zab (Did.fr0 F0.o hd);clear hd CU i0 i1;go_wp2_with fail
 first|go_end0|refine bodyPost_ret (results_none rfl _ _ _) rfl ?_
 exact ⟨rfl,HD.o⟩
theorem zpx(h:BS Z w cb bb rv sv kv fns q)(hl:q.code.length<=1000000000)(aC:q.zac.length<=1000000000):
  Calls prog 95 #[.pointer (some ⟨bb,0,none⟩),.iface 219 (.agg #[.int .i64 tag,.int .i64 0])] w fun r w'=>r=.returned (.tuple #[])/\Did Z w cb bb rv sv kv fns (q.push (.pack tag 0)) w':=by
 have i0:=zfj;have i1:=zfi;have i2:=zdL;have F0:Hid (Fr (fun _=>False) w (w.alloc (.cells #[.int .i64 tag,.int .i64 0] 219))):=zab ((Fr.refl _ _).alloc _);have CU:=zab (zbn (i:=.pack tag 0) (h.fr0 F0.o) rfl hl aC);clear h;go_enter func95,ntmps95
 go_wp2_with fail
 refine CU.o.mono ?_;rintro r w1 ⟨rfl,hd⟩;have HD:=zab (Did.fr0 F0.o hd);clear hd CU i0 i1 i2;go_wp2_with fail
 first|go_end0|refine bodyPost_ret (results_none rfl _ _ _) rfl ?_
 exact ⟨rfl,HD.o⟩
variable {q1:Cp.Bs}
theorem zrx{tag ar:Int}(_h:BS Z w cb bb rv sv kv fns q)(pQ:ar≠0)(hc:∀ W,Fr (fun _=>False) w W->Calls prog 165 #[.pointer (some ⟨bb,0,none⟩),.iface 219 (.agg #[.int .i64 tag,.int .i64 ar])] W fun r w'=>∃ nv,r=.returned (.tuple #[.int .i64 blk,nv])/\znm Z W cb bb rv sv kv fns q1 w' nv names)(hin:∀ x∈names,x≠[]/\(Cp.za9 q1.zac x=none->x∈fns))(hl:q1.code.length+names.length<=1000000000)(aC:q1.zac.length+names.length<=1000000000)(cW:fns.length<=1000000000):
  Calls prog 95 #[.pointer (some ⟨bb,0,none⟩),.iface 219 (.agg #[.int .i64 tag,.int .i64 ar])] w fun r w'=>r=.returned (.tuple #[])/\Did Z w cb bb rv sv kv fns (((q1.zak fns names).drop names.length).push (.close blk names.length)) w':=by
 have i0:=zfj;have i1:=zfi;have i2:=zdL;have Gw:(ar == 0)=false:=by simpa using pQ
 have ul:=zbv fns names.reverse q1;have eI:(q1.zak fns names).code.length<=1000000000:=by unfold Cp.Bs.zak;rw[ul.2.1,zy4];omega
 have eN:(q1.zak fns names).zac.length<=1000000000:=by unfold Cp.Bs.zak;rw[ul.1,zy4];omega
 have gL:names.length<=(q1.zak fns names).zac.length:=by unfold Cp.Bs.zak;rw[ul.1,zy4];omega
 have iQ:((q1.zak fns names).drop names.length).zac.length<=1000000000:=by simp[Cp.Bs.drop];omega
 have f0:Fr (fun _=>False) w _:=(Fr.refl _ _).alloc (.cells #[.int .i64 tag,.int .i64 ar] 219);have CC:=zab (hc _ f0);have F0:=zab f0;have HU:=zab (And.intro eI (And.intro eN (And.intro gL (And.intro iQ hin))));clear _h hc hin eI eN gL iQ f0 ul;go_enter func95,ntmps95
 go_wp2_with fail
 refine CC.o.mono ?_;rintro r w1 ⟨nv,rfl,Z1,bh,bf,cA,z1,b1,f1,n1,n2,n3,af⟩;obtain ⟨np,nc,_,rfl,_⟩:=zaO af.1;have CU:=zab (zbU b1 af HU.o.2.2.2.2 hl aC cW);have X1:=zab (And.intro z1 (And.intro f1 (And.intro n1 (And.intro n2 n3))));clear CC z1 b1 f1 n1 n2 n3 af i0 i1 i2;go_wp2_with fail
 refine CU.o.mono ?_;rintro r w2 ⟨rfl,Z2,im,iq,ik,z1,b1,f1,n1,n2,n3⟩;have CD:=zab (zeg b1 HU.o.2.1 HU.o.2.2.1);have X2:=zab (And.intro z1 (And.intro f1 (And.intro n1 (And.intro n2 n3))));clear CU z1 b1 f1 n1 n2 n3;go_wp2_with fail
 refine CD.o.mono ?_;rintro r w3 ⟨rfl,Z3,j8,j9,j7,z1,b1,f1,n1,n2,n3⟩;have CP:=zab (zbn (i:=.close blk names.length) b1 rfl HU.o.1 HU.o.2.2.2.1);have X3:=zab (And.intro z1 (And.intro f1 (And.intro n1 (And.intro n2 n3))));clear CD z1 b1 f1 n1 n2 n3;go_wp2_with fail
 refine CP.o.mono ?_;rintro r w4 ⟨rfl,hd⟩;have D4:=zab hd;clear CP hd;go_wp2_with fail
 first|go_end0|refine bodyPost_ret (results_none rfl _ _ _) rfl ?_
 refine ⟨rfl,Did.fr0 F0.o ?_⟩;obtain ⟨z1,f1,n1,n2,n3⟩:=X1.o;refine Did.trans z1 f1 n1 n2 n3 ?_;obtain ⟨z1,f1,n1,n2,n3⟩:=X2.o;refine Did.trans z1 f1 n1 n2 n3 ?_;obtain ⟨z1,f1,n1,n2,n3⟩:=X3.o;exact Did.trans z1 f1 n1 n2 n3 D4.o
theorem ztj(_h:BS Z w cb bb rv sv kv fns q)(hc:∀ W,Fr (fun _=>False) w W->Calls prog 165 #[.pointer (some ⟨bb,0,none⟩),.iface 163 x] W fun r w'=>∃ nv,r=.returned (.tuple #[.int .i64 blk,nv])/\znm Z W cb bb rv sv kv fns q1 w' nv names)(hin:∀ x∈names,x≠[]/\(Cp.za9 q1.zac x=none->x∈fns))(hl:q1.code.length+names.length<=1000000000)(aC:q1.zac.length+names.length<=1000000000)(cW:fns.length<=1000000000):
  Calls prog 95 #[.pointer (some ⟨bb,0,none⟩),.iface 163 x] w fun r w'=>r=.returned (.tuple #[])/\Did Z w cb bb rv sv kv fns (((q1.zak fns names).drop names.length).push (.close blk names.length)) w':=by
 have i0:=zkf;have i1:=zk5;have i2:=zhv;have ul:=zbv fns names.reverse q1;have eI:(q1.zak fns names).code.length<=1000000000:=by unfold Cp.Bs.zak;rw[ul.2.1,zy4];omega
 have eN:(q1.zak fns names).zac.length<=1000000000:=by unfold Cp.Bs.zak;rw[ul.1,zy4];omega
 have gL:names.length<=(q1.zak fns names).zac.length:=by unfold Cp.Bs.zak;rw[ul.1,zy4];omega
 have iQ:((q1.zak fns names).drop names.length).zac.length<=1000000000:=by simp[Cp.Bs.drop];omega
 have f0:Fr (fun _=>False) w _:=Fr.refl _ _;have CC:=zab (hc _ f0);have F0:=zab f0;have HU:=zab (And.intro eI (And.intro eN (And.intro gL (And.intro iQ hin))));clear _h hc hin eI eN gL iQ f0 ul;go_enter func95,ntmps95
 go_wp2_with fail
 refine CC.o.mono ?_;rintro r w1 ⟨nv,rfl,Z1,bh,bf,cA,z1,b1,f1,n1,n2,n3,af⟩;obtain ⟨np,nc,_,rfl,_⟩:=zaO af.1;have CU:=zab (zbU b1 af HU.o.2.2.2.2 hl aC cW);have X1:=zab (And.intro z1 (And.intro f1 (And.intro n1 (And.intro n2 n3))));clear CC z1 b1 f1 n1 n2 n3 af i0 i1 i2;go_wp2_with fail
 refine CU.o.mono ?_;rintro r w2 ⟨rfl,Z2,im,iq,ik,z1,b1,f1,n1,n2,n3⟩;have CD:=zab (zeg b1 HU.o.2.1 HU.o.2.2.1);have X2:=zab (And.intro z1 (And.intro f1 (And.intro n1 (And.intro n2 n3))));clear CU z1 b1 f1 n1 n2 n3;go_wp2_with fail
 refine CD.o.mono ?_;rintro r w3 ⟨rfl,Z3,j8,j9,j7,z1,b1,f1,n1,n2,n3⟩;have CP:=zab (zbn (i:=.close blk names.length) b1 rfl HU.o.1 HU.o.2.2.2.1);have X3:=zab (And.intro z1 (And.intro f1 (And.intro n1 (And.intro n2 n3))));clear CD z1 b1 f1 n1 n2 n3;go_wp2_with fail
 refine CP.o.mono ?_;rintro r w4 ⟨rfl,hd⟩;have D4:=zab hd;clear CP hd;go_wp2_with fail
 first|go_end0|refine bodyPost_ret (results_none rfl _ _ _) rfl ?_
 refine ⟨rfl,Did.fr0 F0.o ?_⟩;obtain ⟨z1,f1,n1,n2,n3⟩:=X1.o;refine Did.trans z1 f1 n1 n2 n3 ?_;obtain ⟨z1,f1,n1,n2,n3⟩:=X2.o;refine Did.trans z1 f1 n1 n2 n3 ?_;obtain ⟨z1,f1,n1,n2,n3⟩:=X3.o;exact Did.trans z1 f1 n1 n2 n3 D4.o
theorem zkC(_h:BS Z w cb bb rv sv kv fns q)(hc:∀ W,Fr (fun _=>False) w W->Calls prog 165 #[.pointer (some ⟨bb,0,none⟩),.iface 166 x] W fun r w'=>∃ nv,r=.returned (.tuple #[.int .i64 blk,nv])/\znm Z W cb bb rv sv kv fns q1 w' nv names)(hin:∀ x∈names,x≠[]/\(Cp.za9 q1.zac x=none->x∈fns))(hl:q1.code.length+names.length<=1000000000)(aC:q1.zac.length+names.length<=1000000000)(cW:fns.length<=1000000000):
  Calls prog 95 #[.pointer (some ⟨bb,0,none⟩),.iface 166 x] w fun r w'=>r=.returned (.tuple #[])/\Did Z w cb bb rv sv kv fns (((q1.zak fns names).drop names.length).push (.close blk names.length)) w':=by
 have i0:=zeB;have i1:=zgF;have i2:=zdD;have ul:=zbv fns names.reverse q1;have eI:(q1.zak fns names).code.length<=1000000000:=by unfold Cp.Bs.zak;rw[ul.2.1,zy4];omega
 have eN:(q1.zak fns names).zac.length<=1000000000:=by unfold Cp.Bs.zak;rw[ul.1,zy4];omega
 have gL:names.length<=(q1.zak fns names).zac.length:=by unfold Cp.Bs.zak;rw[ul.1,zy4];omega
 have iQ:((q1.zak fns names).drop names.length).zac.length<=1000000000:=by simp[Cp.Bs.drop];omega
 have f0:Fr (fun _=>False) w _:=Fr.refl _ _;have CC:=zab (hc _ f0);have F0:=zab f0;have HU:=zab (And.intro eI (And.intro eN (And.intro gL (And.intro iQ hin))));clear _h hc hin eI eN gL iQ f0 ul;go_enter func95,ntmps95
 go_wp2_with fail
 refine CC.o.mono ?_;rintro r w1 ⟨nv,rfl,Z1,bh,bf,cA,z1,b1,f1,n1,n2,n3,af⟩;obtain ⟨np,nc,_,rfl,_⟩:=zaO af.1;have CU:=zab (zbU b1 af HU.o.2.2.2.2 hl aC cW);have X1:=zab (And.intro z1 (And.intro f1 (And.intro n1 (And.intro n2 n3))));clear CC z1 b1 f1 n1 n2 n3 af i0 i1 i2;go_wp2_with fail
 refine CU.o.mono ?_;rintro r w2 ⟨rfl,Z2,im,iq,ik,z1,b1,f1,n1,n2,n3⟩;have CD:=zab (zeg b1 HU.o.2.1 HU.o.2.2.1);have X2:=zab (And.intro z1 (And.intro f1 (And.intro n1 (And.intro n2 n3))));clear CU z1 b1 f1 n1 n2 n3;go_wp2_with fail
 refine CD.o.mono ?_;rintro r w3 ⟨rfl,Z3,j8,j9,j7,z1,b1,f1,n1,n2,n3⟩;have CP:=zab (zbn (i:=.close blk names.length) b1 rfl HU.o.1 HU.o.2.2.2.1);have X3:=zab (And.intro z1 (And.intro f1 (And.intro n1 (And.intro n2 n3))));clear CD z1 b1 f1 n1 n2 n3;go_wp2_with fail
 refine CP.o.mono ?_;rintro r w4 ⟨rfl,hd⟩;have D4:=zab hd;clear CP hd;go_wp2_with fail
 first|go_end0|refine bodyPost_ret (results_none rfl _ _ _) rfl ?_
 refine ⟨rfl,Did.fr0 F0.o ?_⟩;obtain ⟨z1,f1,n1,n2,n3⟩:=X1.o;refine Did.trans z1 f1 n1 n2 n3 ?_;obtain ⟨z1,f1,n1,n2,n3⟩:=X2.o;refine Did.trans z1 f1 n1 n2 n3 ?_;obtain ⟨z1,f1,n1,n2,n3⟩:=X3.o;exact Did.trans z1 f1 n1 n2 n3 D4.o
theorem zvB(_h:BS Z w cb bb rv sv kv fns q)(hc:∀ W,Fr (fun _=>False) w W->Calls prog 165 #[.pointer (some ⟨bb,0,none⟩),.iface 178 x] W fun r w'=>∃ nv,r=.returned (.tuple #[.int .i64 blk,nv])/\znm Z W cb bb rv sv kv fns q1 w' nv names)(hin:∀ x∈names,x≠[]/\(Cp.za9 q1.zac x=none->x∈fns))(hl:q1.code.length+names.length<=1000000000)(aC:q1.zac.length+names.length<=1000000000)(cW:fns.length<=1000000000):
  Calls prog 95 #[.pointer (some ⟨bb,0,none⟩),.iface 178 x] w fun r w'=>r=.returned (.tuple #[])/\Did Z w cb bb rv sv kv fns (((q1.zak fns names).drop names.length).push (.close blk names.length)) w':=by
 have i0:=zlV;have i1:=znb;have i2:=zio;have ul:=zbv fns names.reverse q1;have eI:(q1.zak fns names).code.length<=1000000000:=by unfold Cp.Bs.zak;rw[ul.2.1,zy4];omega
 have eN:(q1.zak fns names).zac.length<=1000000000:=by unfold Cp.Bs.zak;rw[ul.1,zy4];omega
 have gL:names.length<=(q1.zak fns names).zac.length:=by unfold Cp.Bs.zak;rw[ul.1,zy4];omega
 have iQ:((q1.zak fns names).drop names.length).zac.length<=1000000000:=by simp[Cp.Bs.drop];omega
 have f0:Fr (fun _=>False) w _:=Fr.refl _ _;have CC:=zab (hc _ f0);have F0:=zab f0;have HU:=zab (And.intro eI (And.intro eN (And.intro gL (And.intro iQ hin))));clear _h hc hin eI eN gL iQ f0 ul;go_enter func95,ntmps95
 go_wp2_with fail
 refine CC.o.mono ?_;rintro r w1 ⟨nv,rfl,Z1,bh,bf,cA,z1,b1,f1,n1,n2,n3,af⟩;obtain ⟨np,nc,_,rfl,_⟩:=zaO af.1;have CU:=zab (zbU b1 af HU.o.2.2.2.2 hl aC cW);have X1:=zab (And.intro z1 (And.intro f1 (And.intro n1 (And.intro n2 n3))));clear CC z1 b1 f1 n1 n2 n3 af i0 i1 i2;go_wp2_with fail
 refine CU.o.mono ?_;rintro r w2 ⟨rfl,Z2,im,iq,ik,z1,b1,f1,n1,n2,n3⟩;have CD:=zab (zeg b1 HU.o.2.1 HU.o.2.2.1);have X2:=zab (And.intro z1 (And.intro f1 (And.intro n1 (And.intro n2 n3))));clear CU z1 b1 f1 n1 n2 n3;go_wp2_with fail
 refine CD.o.mono ?_;rintro r w3 ⟨rfl,Z3,j8,j9,j7,z1,b1,f1,n1,n2,n3⟩;have CP:=zab (zbn (i:=.close blk names.length) b1 rfl HU.o.1 HU.o.2.2.2.1);have X3:=zab (And.intro z1 (And.intro f1 (And.intro n1 (And.intro n2 n3))));clear CD z1 b1 f1 n1 n2 n3;go_wp2_with fail
 refine CP.o.mono ?_;rintro r w4 ⟨rfl,hd⟩;have D4:=zab hd;clear CP hd;go_wp2_with fail
 first|go_end0|refine bodyPost_ret (results_none rfl _ _ _) rfl ?_
 refine ⟨rfl,Did.fr0 F0.o ?_⟩;obtain ⟨z1,f1,n1,n2,n3⟩:=X1.o;refine Did.trans z1 f1 n1 n2 n3 ?_;obtain ⟨z1,f1,n1,n2,n3⟩:=X2.o;refine Did.trans z1 f1 n1 n2 n3 ?_;obtain ⟨z1,f1,n1,n2,n3⟩:=X3.o;exact Did.trans z1 f1 n1 n2 n3 D4.o
theorem ztk(_h:BS Z w cb bb rv sv kv fns q)(hc:∀ W,Fr (fun _=>False) w W->Calls prog 165 #[.pointer (some ⟨bb,0,none⟩),.iface 173 x] W fun r w'=>∃ nv,r=.returned (.tuple #[.int .i64 blk,nv])/\znm Z W cb bb rv sv kv fns q1 w' nv names)(hin:∀ x∈names,x≠[]/\(Cp.za9 q1.zac x=none->x∈fns))(hl:q1.code.length+names.length<=1000000000)(aC:q1.zac.length+names.length<=1000000000)(cW:fns.length<=1000000000):
  Calls prog 95 #[.pointer (some ⟨bb,0,none⟩),.iface 173 x] w fun r w'=>r=.returned (.tuple #[])/\Did Z w cb bb rv sv kv fns (((q1.zak fns names).drop names.length).push (.close blk names.length)) w':=by
 have i0:=zkg;have i1:=zk7;have i2:=zhw;have ul:=zbv fns names.reverse q1;have eI:(q1.zak fns names).code.length<=1000000000:=by unfold Cp.Bs.zak;rw[ul.2.1,zy4];omega
 have eN:(q1.zak fns names).zac.length<=1000000000:=by unfold Cp.Bs.zak;rw[ul.1,zy4];omega
 have gL:names.length<=(q1.zak fns names).zac.length:=by unfold Cp.Bs.zak;rw[ul.1,zy4];omega
 have iQ:((q1.zak fns names).drop names.length).zac.length<=1000000000:=by simp[Cp.Bs.drop];omega
 have f0:Fr (fun _=>False) w _:=Fr.refl _ _;have CC:=zab (hc _ f0);have F0:=zab f0;have HU:=zab (And.intro eI (And.intro eN (And.intro gL (And.intro iQ hin))));clear _h hc hin eI eN gL iQ f0 ul;go_enter func95,ntmps95
 go_wp2_with fail
 refine CC.o.mono ?_;rintro r w1 ⟨nv,rfl,Z1,bh,bf,cA,z1,b1,f1,n1,n2,n3,af⟩;obtain ⟨np,nc,_,rfl,_⟩:=zaO af.1;have CU:=zab (zbU b1 af HU.o.2.2.2.2 hl aC cW);have X1:=zab (And.intro z1 (And.intro f1 (And.intro n1 (And.intro n2 n3))));clear CC z1 b1 f1 n1 n2 n3 af i0 i1 i2;go_wp2_with fail
 refine CU.o.mono ?_;rintro r w2 ⟨rfl,Z2,im,iq,ik,z1,b1,f1,n1,n2,n3⟩;have CD:=zab (zeg b1 HU.o.2.1 HU.o.2.2.1);have X2:=zab (And.intro z1 (And.intro f1 (And.intro n1 (And.intro n2 n3))));clear CU z1 b1 f1 n1 n2 n3;go_wp2_with fail
 refine CD.o.mono ?_;rintro r w3 ⟨rfl,Z3,j8,j9,j7,z1,b1,f1,n1,n2,n3⟩;have CP:=zab (zbn (i:=.close blk names.length) b1 rfl HU.o.1 HU.o.2.2.2.1);have X3:=zab (And.intro z1 (And.intro f1 (And.intro n1 (And.intro n2 n3))));clear CD z1 b1 f1 n1 n2 n3;go_wp2_with fail
 refine CP.o.mono ?_;rintro r w4 ⟨rfl,hd⟩;have D4:=zab hd;clear CP hd;go_wp2_with fail
 first|go_end0|refine bodyPost_ret (results_none rfl _ _ _) rfl ?_
 refine ⟨rfl,Did.fr0 F0.o ?_⟩;obtain ⟨z1,f1,n1,n2,n3⟩:=X1.o;refine Did.trans z1 f1 n1 n2 n3 ?_;obtain ⟨z1,f1,n1,n2,n3⟩:=X2.o;refine Did.trans z1 f1 n1 n2 n3 ?_;obtain ⟨z1,f1,n1,n2,n3⟩:=X3.o;exact Did.trans z1 f1 n1 n2 n3 D4.o
theorem zpw(_h:BS Z w cb bb rv sv kv fns q)(hc:∀ W,Fr (fun _=>False) w W->Calls prog 165 #[.pointer (some ⟨bb,0,none⟩),.iface 226 x] W fun r w'=>∃ nv,r=.returned (.tuple #[.int .i64 blk,nv])/\znm Z W cb bb rv sv kv fns q1 w' nv names)(hin:∀ x∈names,x≠[]/\(Cp.za9 q1.zac x=none->x∈fns))(hl:q1.code.length+names.length<=1000000000)(aC:q1.zac.length+names.length<=1000000000)(cW:fns.length<=1000000000):
  Calls prog 95 #[.pointer (some ⟨bb,0,none⟩),.iface 226 x] w fun r w'=>r=.returned (.tuple #[])/\Did Z w cb bb rv sv kv fns (((q1.zak fns names).drop names.length).push (.close blk names.length)) w':=by
 have i0:=zhy;have i1:=ziI;have i2:=zkh;have ul:=zbv fns names.reverse q1;have eI:(q1.zak fns names).code.length<=1000000000:=by unfold Cp.Bs.zak;rw[ul.2.1,zy4];omega
 have eN:(q1.zak fns names).zac.length<=1000000000:=by unfold Cp.Bs.zak;rw[ul.1,zy4];omega
 have gL:names.length<=(q1.zak fns names).zac.length:=by unfold Cp.Bs.zak;rw[ul.1,zy4];omega
 have iQ:((q1.zak fns names).drop names.length).zac.length<=1000000000:=by simp[Cp.Bs.drop];omega
 have f0:Fr (fun _=>False) w _:=Fr.refl _ _;have CC:=zab (hc _ f0);have F0:=zab f0;have HU:=zab (And.intro eI (And.intro eN (And.intro gL (And.intro iQ hin))));clear _h hc hin eI eN gL iQ f0 ul;go_enter func95,ntmps95
 go_wp2_with fail
 refine CC.o.mono ?_;rintro r w1 ⟨nv,rfl,Z1,bh,bf,cA,z1,b1,f1,n1,n2,n3,af⟩;obtain ⟨np,nc,_,rfl,_⟩:=zaO af.1;have CU:=zab (zbU b1 af HU.o.2.2.2.2 hl aC cW);have X1:=zab (And.intro z1 (And.intro f1 (And.intro n1 (And.intro n2 n3))));clear CC z1 b1 f1 n1 n2 n3 af i0 i1 i2;go_wp2_with fail
 refine CU.o.mono ?_;rintro r w2 ⟨rfl,Z2,im,iq,ik,z1,b1,f1,n1,n2,n3⟩;have CD:=zab (zeg b1 HU.o.2.1 HU.o.2.2.1);have X2:=zab (And.intro z1 (And.intro f1 (And.intro n1 (And.intro n2 n3))));clear CU z1 b1 f1 n1 n2 n3;go_wp2_with fail
 refine CD.o.mono ?_;rintro r w3 ⟨rfl,Z3,j8,j9,j7,z1,b1,f1,n1,n2,n3⟩;have CP:=zab (zbn (i:=.close blk names.length) b1 rfl HU.o.1 HU.o.2.2.2.1);have X3:=zab (And.intro z1 (And.intro f1 (And.intro n1 (And.intro n2 n3))));clear CD z1 b1 f1 n1 n2 n3;go_wp2_with fail
 refine CP.o.mono ?_;rintro r w4 ⟨rfl,hd⟩;have D4:=zab hd;clear CP hd;go_wp2_with fail
 first|go_end0|refine bodyPost_ret (results_none rfl _ _ _) rfl ?_
 refine ⟨rfl,Did.fr0 F0.o ?_⟩;obtain ⟨z1,f1,n1,n2,n3⟩:=X1.o;refine Did.trans z1 f1 n1 n2 n3 ?_;obtain ⟨z1,f1,n1,n2,n3⟩:=X2.o;refine Did.trans z1 f1 n1 n2 n3 ?_;obtain ⟨z1,f1,n1,n2,n3⟩:=X3.o;exact Did.trans z1 f1 n1 n2 n3 D4.o
end Go.Proofs.YtgahgkddaljmkaaGreatDoor
