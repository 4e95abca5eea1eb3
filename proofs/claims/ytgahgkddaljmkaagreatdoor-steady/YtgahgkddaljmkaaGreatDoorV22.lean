/- Cmp19 .. Cmp23 -/
import Derived.Test.YtgahgkddaljmkaaGreatDoorV21
import Derived.Test.YtgahgkddaljmkaaGreatDoorV5
import Derived.Test.YtgahgkddaljmkaaGreatDoorV1
set_option maxRecDepth 100000
set_option maxHeartbeats 4000000
namespace Go.Proofs.YtgahgkddaljmkaaGreatDoor
open Go.RowKit Go.Shelf
attribute [local go_sem ↓] Go.wp_at_zero Go.wp_at_succ
variable {Z:Nat->Prop}
variable {w:World}
variable {cb:Nat}
variable {rv:Value}
variable {fns:List Cp.Nm}
variable {bl:List (Nat × List Ins)}
theorem zvC{Z':Nat->Prop}{w2 w':World}{rv':Value}(f:Fr (fun _=>False) w w2)(hz:∀ k,k<w2.heap.size->(Z' k↔Z k))(hc:CS Z' w' cb rv' fns bl)(f2:Fr (fun k=>k=cb\/rv.ownBlock=some k\/w.heap.size<=k) w2 w')(hn:New w2 rv rv'):zfO Z w cb rv fns bl w':=by
 refine ⟨Z',rv',fun k hk=>hz k (zxO hk f.size),hc,?_,New.trans (New.refl w rv) hn f.size⟩;refine ⟨f2.os.trans f.os,f2.tape.trans f.tape,f2.output.trans f.output,zxN f.size f2.size,fun i hi hK=>(f2.block i (zxO hi f.size) (fun hn=>?_)).trans (f.block i hi (by simp))⟩;rcases hn with e|e|e
 ·exact hK (.inl e)
 ·exact hK (.inr e)
 ·omega
theorem ztC:∀ args w,(callFunc 258 args).run Tryz.prog w=.ok (.enter 258 args) w:=by
 intro args w
 kernel_rfl
variable {M N n bb bx:Nat}
variable {sv kv:Value}
variable {t:TypeId}
variable {x:Value}
variable {q:Cp.Bs}
variable {e:Th.Ex}
theorem zoQ(hW:zbg M N n){pn pc:Nat}{pp:Option Addr}(hx:Blk w bx [.slice pp pn pc,.iface t x] 226)(h:BS Z w cb bb rv sv kv fns q)(hr:Rep Z w n (.iface t x) e)(hf:Fit M N fns q e):
  Calls Tryz.prog 258 #[.pointer (some ⟨bb,0,none⟩),.pointer (some ⟨bx,0,none⟩)] w fun r w'=>r=.returned (.tuple #[])/\Did Z w cb bb rv sv kv fns (Cp.work (Cp.free N) fns n e 0 q) w':=by
 have c0:=Blk.cell hx 1;simp at c0;have CW:=zab (hW (below:=0) h hr hf (by have:=hf.cl;omega));clear hW h hr hf hx;go_enter Tryz.func258,Tryz.ntmps258
 go_wp2_with fail
 refine CW.o.mono ?_;rintro r w' ⟨rfl,hd⟩;have HD:=zab hd;clear hd CW c0;go_wp2_with fail
 first|go_end0|refine bodyPost_ret (results_none rfl _ _ _) rfl ?_
 exact ⟨rfl,HD.o⟩
variable {v nv:Value}
variable {names sl:List Cp.Nm}
theorem zrK(hW:zbg M N n){pv:Value}{l:List Th.Tok}(hsl:sl=(names++Th.texts l).reverse)(hq:q=Cp.work (Cp.free N) fns n e 0 ⟨bl,sl,[]⟩)(h:CS Z w cb rv fns bl)(hr:Rep Z w n v e)(hp:Row Z w 88 2 pv l.length (zaj l))(hn:Row Z w 9 1 nv names.length (strCells names))(hf:Fit M N fns ⟨bl,sl,[]⟩ e)(hnl:names.length+l.length<=1000000)(hl:q.blocks.length<=1000000000):
  Calls Tryz.prog 217 #[.pointer (some ⟨cb,0,none⟩),.agg #[pv,v],nv] w fun r w'=>r=.returned (.int .i64 q.blocks.length) /\
   zfO Z w cb rv fns (q.blocks++[(sl.length,q.code)]) w':=by
 have hmf:∀ (fn:Fn) (first cap:Array Value) (w:World),(Instr.makeFunc fn first cap).run Tryz.prog w=.ok (.func fn first cap) w:=fun _ _ _ _=>rfl
 obtain ⟨t,x,rfl⟩:=zah hr;obtain ⟨np,nn,nc,rfl⟩:=zae hn;have hpn:∃ pp pc,pv=.slice pp l.length pc:=by
  rcases hp.1.2 with ⟨h1,h0⟩|⟨g,cap,cur,h0,_⟩
  ·rw[<-h0]at h1;exact ⟨_,_,h1⟩
  ·exact ⟨_,_,h0⟩
 obtain ⟨pp,pc,rfl⟩:=hpn;have f0:Fr (fun _=>False) w (w.alloc (.cells #[.slice pp l.length pc,.iface t x] 226)):=((Fr.refl _ _).alloc _);have hX:=Blk.new w [.slice pp l.length pc,.iface t x] 226;have CT:=zab (zdK (Row.frc hp f0 (by simp)) (by omega));have HX:=zab hX;have F0:=zab f0;have HN:=zab hn;have HH:=zab (And.intro h (And.intro hr (And.intro hf hl)));have HW:=zab hW;have HSL:=zab (And.intro hsl hq);clear hW h hr hn hf hl hp hX f0 hsl hq;go_enter Tryz.func217,Tryz.ntmps217
 go_wp2_with fail
 refine CT.o.mono ?_;rintro r w1 ⟨tv,rfl,htv,f1⟩;obtain ⟨ta,tn,tc,rfl⟩:=zae htv;have f10:=F0.o.trans f1;have f11:Fr (fun _=>False) w1 (w1.alloc (.cells #[.slice np nn nc,.slice ta tn tc] 38)):=(Fr.refl _ _).alloc _;have CF:=zab (zdR (Blk.new w1 [.slice np nn nc,.slice ta tn tc] 38) (Row.frc HN.o (f10.trans f11) (by simp)) (Row.frc htv f11 (by simp)) (by simp[Th.texts];omega));have F1:=zab (f1.trans f11);have b0:=Blk.cell (Fr.blk HX.o f1 (by simp)) 0;clear htv f1 f10 f11 CT;go_wp2_with fail
 refine CF.o.mono ?_;rintro r w2 ⟨sv,rfl,hsv,f2⟩;rw[<-HSL.o.1]at hsv;obtain ⟨sp,sn,sc,rfl⟩:=zae hsv;have f20:=F1.o.trans f2;have f3:=F0.o.trans f20;have hs0:∀ k,(Value.slice sp sn sc).ownBlock=some k->w.heap.size<=k:=fun k hk=>zxN (zxN F0.o.size F1.o.size) (hsv.2 k hk)
 have hsx:Hid (∀ k,(Value.slice sp sn sc).ownBlock=some k->(w.alloc (.cells #[.slice pp l.length pc,.iface t x] 226)).heap.size<=k):=zab (fun k hk=>zxN F1.o.size (hsv.2 k hk));obtain ⟨h,hr,hf,hl⟩:=HH.o;have CA:=zab (zgy (lb:=#[.pointer (some ⟨w.heap.size,0,none⟩)]) ztC (h.fr0 f3) (zaY hsv.1 (zx1 _)) (fun k hk=>⟨by have:=h.clt;have:=hs0 k hk;omega,fun e=>by have:=h.rlt k e;have:=hs0 k hk;omega,fun e=>by have:=h.zlt k e;have:=hs0 k hk;omega⟩)
  (fun W bb hW' hb=>zoQ HW.o (Fr.blk (Fr.blk HX.o f20 (by simp)) hW' (by simp)) hb (hr.fr0 (f3.trans hW')) hf) (HSL.o.2 ▸ hl))
 rw[<-HSL.o.2]at CA;have HS:=zab hs0;have F3:=zab f3;have F20:=zab f20;clear h hr hf hl hsv f2 f3 hs0 CF f20;go_wp2_with fail
 refine CA.o.mono ?_;rintro r w4 ⟨rfl,Z',rv',z1,hc,f4,n4⟩;have HD:=zab (zmF F3.o HS.o z1 hc f4 n4);clear CA z1 hc f4 n4;go_wp2_with fail
 go_ret
 exact ⟨rfl,HD.o⟩
theorem zxk:∀ args w,(callFunc 215 args).run Tryz.prog w=.ok (.enter 215 args) w:=by
 intro args w
 kernel_rfl
variable {tag:Nat}
theorem zvb(hW:zbg M N n){pn pc:Nat}{pp:Option Addr}(hx:Blk w bx [.int .i64 tag,.slice pp pn pc,.iface t x] 240)(h:BS Z w cb bb rv sv kv fns q)(hr:Rep Z w n (.iface t x) e)(hf:Fit M N fns q e):
  Calls Tryz.prog 215 #[.pointer (some ⟨bb,0,none⟩),.pointer (some ⟨bx,0,none⟩)] w fun r w'=>r=.returned (.tuple #[])/\Did Z w cb bb rv sv kv fns (Cp.work (Cp.free N) fns n e 0 q) w':=by
 have c0:=Blk.cell hx 2;simp at c0;have CW:=zab (hW (below:=0) h hr hf (by have:=hf.cl;omega));clear hW h hr hf hx;go_enter Tryz.func215,Tryz.ntmps215
 go_wp2_with fail
 refine CW.o.mono ?_;rintro r w' ⟨rfl,hd⟩;have HD:=zab hd;clear hd CW c0;go_wp2_with fail
 first|go_end0|refine bodyPost_ret (results_none rfl _ _ _) rfl ?_
 exact ⟨rfl,HD.o⟩
theorem zwi(hW:zbg M N n){pv:Value}{l:List Th.Tok}(hsl:sl=(Th.texts l++names).reverse)(hq:q=Cp.work (Cp.free N) fns n e 0 ⟨bl,sl,[]⟩)(h:CS Z w cb rv fns bl)(hr:Rep Z w n v e)(hp:Row Z w 88 2 pv l.length (zaj l))(hn:Row Z w 9 1 nv names.length (strCells names))(hf:Fit M N fns ⟨bl,sl,[]⟩ e)(hnl:names.length+l.length<=1000000)(hl:q.blocks.length<=1000000000):
  Calls Tryz.prog 160 #[.pointer (some ⟨cb,0,none⟩),.agg #[.int .i64 tag,pv,v],nv] w fun r w'=>r=.returned (.agg #[.int .i64 tag,.int .i64 l.length,.int .i64 q.blocks.length]) /\
   zfO Z w cb rv fns (q.blocks++[(sl.length,q.code)]) w':=by
 have hmf:∀ (fn:Fn) (first cap:Array Value) (w:World),(Instr.makeFunc fn first cap).run Tryz.prog w=.ok (.func fn first cap) w:=fun _ _ _ _=>rfl
 obtain ⟨t,x,rfl⟩:=zah hr;obtain ⟨np,nn,nc,rfl⟩:=zae hn;have hpn:∃ pp pc,pv=.slice pp l.length pc:=by
  rcases hp.1.2 with ⟨h1,h0⟩|⟨g,cap,cur,h0,_⟩
  ·rw[<-h0]at h1;exact ⟨_,_,h1⟩
  ·exact ⟨_,_,h0⟩
 obtain ⟨pp,pc,rfl⟩:=hpn;have f0:Fr (fun _=>False) w ((w.alloc (.cells #[.int .i64 tag,.slice pp l.length pc,.iface t x] 240)).alloc (.cells #[.int .i64 0,.int .i64 0,.int .i64 0] 290)):=((Fr.refl _ _).alloc _).alloc _;have hX:=Blk.alloc (Blk.new w [.int .i64 tag,.slice pp l.length pc,.iface t x] 240) (.cells #[.int .i64 0,.int .i64 0,.int .i64 0] 290);have hR:=Blk.new (w.alloc (.cells #[.int .i64 tag,.slice pp l.length pc,.iface t x] 240)) [.int .i64 0,.int .i64 0,.int .i64 0] 290;rw[World.size_alloc]at hR;have CT:=zab (zdK (Row.frc hp f0 (by simp)) (by omega));have HX:=zab hX;have F0:=zab f0;have HN:=zab hn;have HR:=zab hR;clear hR;have HH:=zab (And.intro h (And.intro hr (And.intro hf hl)));have HW:=zab hW;have HSL:=zab (And.intro hsl hq);clear hW h hr hn hf hl hp hX f0 hsl hq;go_enter Tryz.func160,Tryz.ntmps160
 go_wp2_with fail
 refine CT.o.mono ?_;rintro r w1 ⟨tv,rfl,htv,f1⟩;obtain ⟨ta,tn,tc,rfl⟩:=zae htv;have f10:=F0.o.trans f1;have f11:Fr (fun _=>False) w1 (w1.alloc (.cells #[.slice ta tn tc,.slice np nn nc] 38)):=(Fr.refl _ _).alloc _;have CF:=zab (zdR (Blk.new w1 [.slice ta tn tc,.slice np nn nc] 38) (Row.frc htv f11 (by simp)) (Row.frc HN.o (f10.trans f11) (by simp)) (by simp[Th.texts];omega));have F1:=zab (f1.trans f11);have b0:=Blk.cell (Fr.blk HX.o f1 (by simp)) 0;clear htv f1 f10 f11 CT;go_wp2_with fail
 refine CF.o.mono ?_;rintro r w2 ⟨sv,rfl,hsv,f2⟩;rw[<-HSL.o.1]at hsv;obtain ⟨sp,sn,sc,rfl⟩:=zae hsv;have f20:=F1.o.trans f2;have f3:=F0.o.trans f20;have hs0:∀ k,(Value.slice sp sn sc).ownBlock=some k->w.heap.size<=k:=fun k hk=>zxN (zxN F0.o.size F1.o.size) (hsv.2 k hk)
 have hsx:Hid (∀ k,(Value.slice sp sn sc).ownBlock=some k->((w.alloc (.cells #[.int .i64 tag,.slice pp l.length pc,.iface t x] 240)).alloc (.cells #[.int .i64 0,.int .i64 0,.int .i64 0] 290)).heap.size<=k):=zab (fun k hk=>zxN F1.o.size (hsv.2 k hk));obtain ⟨h,hr,hf,hl⟩:=HH.o;have CA:=zab (zgy (lb:=#[.pointer (some ⟨w.heap.size,0,none⟩)]) zxk (h.fr0 f3) (zaY hsv.1 (zx1 _)) (fun k hk=>⟨by have:=h.clt;have:=hs0 k hk;omega,fun e=>by have:=h.rlt k e;have:=hs0 k hk;omega,fun e=>by have:=h.zlt k e;have:=hs0 k hk;omega⟩)
  (fun W bb hW' hb=>zvb HW.o (Fr.blk (Fr.blk HX.o f20 (by simp)) hW' (by simp)) hb (hr.fr0 (f3.trans hW')) hf) (HSL.o.2 ▸ hl))
 rw[<-HSL.o.2]at CA;have HS:=zab hs0;have F3:=zab f3;have F20:=zab f20;clear h hr hf hl hsv f2 f3 hs0 CF f20;go_wp2_with fail
 refine CA.o.mono ?_;rintro r w4 ⟨rfl,Z',rv',z1,hc,f4,n4⟩;obtain ⟨h,hr,hf,hl⟩:=HH.o;have hw2:w.heap.size+1<w2.heap.size:=(Fr.blk HR.o F20.o (by simp)).lt;have hKn:∀ j,j=w.heap.size\/j=w.heap.size+1->¬ (j=cb\/rv.ownBlock=some j\/(Value.slice sp sn sc).ownBlock=some j):=by
  rintro j hj (e|e|e)
  ·have:=h.clt;omega
  ·have:=h.rlt j e;omega
  ·have:=hsx.o j e;rw[World.size_alloc,World.size_alloc]at this;omega
 have hX4:=Fr.blk (Fr.blk HX.o F20.o (by simp)) f4 (hKn _ (.inl rfl));have hR4:=Fr.blk (Fr.blk HR.o F20.o (by simp)) f4 (hKn _ (.inr rfl));have x0:=Blk.cell hX4 0;have x1:=Blk.cell hX4 1;have r0:=Blk.cell hR4 0;have r1:=Blk.cell hR4 1;have r2:=Blk.cell hR4 2;have z0:=Blk.frozen hR4 0;have z3:=Blk.frozen hR4 1;have z4:=Blk.frozen hR4 2;simp at x0 x1 r0 r1 r2;have hzR:¬ Z' (w.heap.size+1):=fun e=>by have:=h.zlt _ ((z1 _ hw2).1 e);omega
 have hnR:rv'.ownBlock≠some (w.heap.size+1):=fun e=>by
  rcases n4 _ e with e|e
  ·have:=h.rlt _ e;omega
  ·omega
 have hcR:w.heap.size+1≠cb:=by have:=h.clt;omega
 have HC:=zab (And.intro z1 (And.intro hc (And.intro f4 (And.intro n4 (And.intro hzR (And.intro hnR hcR))))));have HR4:=zab hR4;clear h hr hf hl hX4 hR4 z1 hc f4 n4 hzR hnR hKn CA hw2 hcR b0;go_wp2_with fail
 have hq:=(((Blk.set HR4.o 0 (.int .i64 tag)).set 1 (.int .i64 l.length)).set 2 (.int .i64 q.blocks.length));refine bodyPost_ret (results_cell_row rfl _ _ (w.heap.size+1) _ _ _ _ rfl hq Tryz.underlying290 rfl (by kernel_rfl)) rfl ?_;obtain ⟨z1,hc,f4,n4,hzR,hnR,hcR⟩:=HC.o;refine ⟨rfl,zvC F3.o z1 (hc.frk (((((Fr.refl (fun k=>k=w.heap.size+1) _).set _ _ (.inl rfl)).set _ _ (.inl rfl)).set _ _ (.inl rfl))) ?_) ?_ n4⟩
 ·rintro k (e|e|e) rfl
  ·exact hzR e
  ·exact hcR e
  ·exact hnR e
 ·have f5:Fr (fun k=>k=cb\/rv.ownBlock=some k\/w.heap.size<=k) w2 w4:=f4.mono (fun k hk=>by
   rcases hk with e|e|e
   ·exact .inl e
   ·exact .inr (.inl e)
   ·exact .inr (.inr (HS.o k e)))
  exact Fr.set (Fr.set (Fr.set f5 _ _ (.inl (.inr (.inr (zy4 _))))) _ _ (.inl (.inr (.inr (zy4 _))))) _ _ (.inl (.inr (.inr (zy4 _))))
theorem zrM:∀ args w,(callFunc 214 args).run Tryz.prog w=.ok (.enter 214 args) w:=by
 intro args w
 kernel_rfl
variable {sg:ByteArray}
theorem zor(hx:Blk w bx [.string sg] 9)(h:BS Z w cb bb rv sv kv fns q)(hl:q.code.length<=1000000):
  Calls Tryz.prog 214 #[.pointer (some ⟨bb,0,none⟩),.pointer (some ⟨bx,0,none⟩)] w fun r w'=>r=.returned (.tuple #[])/\Did Z w cb bb rv sv kv fns ((q.write (.comp sg)).write .enter) w':=by
 have c0:=Blk.cell hx 0;simp at c0;have CW:=zab (zbN (i:=.comp sg) h rfl (by omega));clear h hx;go_enter Tryz.func214,Tryz.ntmps214
 go_wp2_with fail
 refine CW.o.mono ?_;rintro r w1 ⟨rfl,Z1,rv1,sv1,kv1,z1,hb,f1,n1,n2,n3⟩;have CE:=zab (zbN (i:=.enter) hb rfl (by simp[Cp.Bs.write];omega));have HD:=zab (And.intro z1 (And.intro f1 (And.intro n1 (And.intro n2 n3))));clear CW c0 z1 hb f1 n1 n2 n3;go_wp2_with fail
 refine CE.o.mono ?_;rintro r w2 ⟨rfl,hd⟩;have HE:=zab hd;clear hd CE;go_wp2_with fail
 first|go_end0|refine bodyPost_ret (results_none rfl _ _ _) rfl ?_
 exact ⟨rfl,Did.trans HD.o.1 HD.o.2.1 HD.o.2.2.1 HD.o.2.2.2.1 HD.o.2.2.2.2 HE.o⟩
theorem zvH:∀ args w,(callFunc 259 args).run Tryz.prog w=.ok (.enter 259 args) w:=by
 intro args w
 kernel_rfl
theorem zqY{ar:Nat}(hx:Blk w bx [.int .i64 tag,.int .i64 ar] 219)(h:BS Z w cb bb rv sv kv fns q)(hl:q.code.length<=1000000):
  Calls Tryz.prog 259 #[.pointer (some ⟨bb,0,none⟩),.pointer (some ⟨bx,0,none⟩)] w fun r w'=>r=.returned (.tuple #[])/\Did Z w cb bb rv sv kv fns ((q.write (.pack tag ar)).write .enter) w':=by
 have c0:=Blk.cell hx 0;have c1:=Blk.cell hx 1;simp at c0 c1;have CW:=zab (zbN (i:=.pack tag ar) h rfl (by omega));clear h hx;go_enter Tryz.func259,Tryz.ntmps259
 go_wp2_with fail
 refine CW.o.mono ?_;rintro r w1 ⟨rfl,Z1,rv1,sv1,kv1,z1,hb,f1,n1,n2,n3⟩;have CE:=zab (zbN (i:=.enter) hb rfl (by simp[Cp.Bs.write];omega));have HD:=zab (And.intro z1 (And.intro f1 (And.intro n1 (And.intro n2 n3))));clear CW c0 c1 z1 hb f1 n1 n2 n3;go_wp2_with fail
 refine CE.o.mono ?_;rintro r w2 ⟨rfl,hd⟩;have HE:=zab hd;clear hd CE;go_wp2_with fail
 first|go_end0|refine bodyPost_ret (results_none rfl _ _ _) rfl ?_
 exact ⟨rfl,Did.trans HD.o.1 HD.o.2.1 HD.o.2.2.1 HD.o.2.2.2.1 HD.o.2.2.2.2 HE.o⟩
theorem zn8(h:CS Z w cb rv fns bl)(hl:bl.length<=1000000000):
  Calls Tryz.prog 158 #[.pointer (some ⟨cb,0,none⟩),.string sg] w fun r w'=>r=.returned (.int .i64 bl.length)/\zfO Z w cb rv fns (bl++[(2,[.comp sg,.enter])]) w':=by
 have hmf:∀ (fn:Fn) (first cap:Array Value) (w:World),(Instr.makeFunc fn first cap).run Tryz.prog w=.ok (.func fn first cap) w:=fun _ _ _ _=>rfl
 have HX:=zab (Blk.new w [.string sg] 9);have F0:Hid (Fr (fun _=>False) w (w.alloc (.cells #[.string sg] 9))):=zab ((Fr.refl _ _).alloc _);have HH:=zab h;clear h;go_enter Tryz.func158,Tryz.ntmps158
 go_wp2_with fail
 generalize w.alloc (.cells #[.string sg] 9)=w0 at HX F0 ⊢;refine (zd1 _).mono ?_;rintro r w1 ⟨rfl,hw1⟩;have F1:Hid (Fr (fun _=>False) w0 w1):=zab (hw1 ▸ (Fr.refl _ _).alloc _);have A1:Hid (Blk w1 w0.heap.size [.string ⟨#[]⟩] 9):=zab (hw1 ▸ Blk.new w0 [.string ⟨#[]⟩] 9);clear hw1;go_wp2_with fail
 refine (zd1 _).mono ?_;rintro r w2 ⟨rfl,hw2⟩;have F2:Hid (Fr (fun _=>False) w1 w2):=zab (hw2 ▸ (Fr.refl _ _).alloc _);have A2:Hid (Blk w2 w1.heap.size [.string ⟨#[]⟩] 9):=zab (hw2 ▸ Blk.new w1 [.string ⟨#[]⟩] 9);clear hw2;have f3:Fr (fun _=>False) w2 (w2.alloc (.cells #[.slice (some ⟨w0.heap.size,0,none⟩) 1 1,.slice (some ⟨w1.heap.size,0,none⟩) 1 1] 38)):=(Fr.refl _ _).alloc _;have one:∀ {W:World} {g:Nat},Blk W g [.string ⟨#[]⟩] 9->Row (fun _=>True) W 9 1 (.slice (some ⟨g,0,none⟩) 1 1) ([[]]:List Cp.Nm).length (strCells [[]]):=fun hb=>⟨zgr (base:=0) hb rfl (zxJ _) (by unfold maxLen;omega) (zx1 _) rfl,fun _ _=>trivial⟩
 have CF:=zab (zdR (Blk.new w2 [.slice (some ⟨w0.heap.size,0,none⟩) 1 1,.slice (some ⟨w1.heap.size,0,none⟩) 1 1] 38) (one (Fr.blk A1.o (F2.o.trans f3) (by simp))) (one (Fr.blk A2.o f3 (by simp))) (by simp));have F3:=zab f3;clear f3 one;go_wp2_with fail
 refine CF.o.mono ?_;rintro r w4 ⟨sv,rfl,hsv,f4⟩;obtain ⟨sp,sn,sc,rfl⟩:=zae hsv;have hsl:(([[]]:List Cp.Nm)++[[]]).reverse=[[],[]]:=rfl;rw[hsl]at hsv;have f40:=F1.o.trans (F2.o.trans (F3.o.trans f4));have f5:=F0.o.trans f40;have hs0:∀ k,(Value.slice sp sn sc).ownBlock=some k->w.heap.size<=k:=fun k hk=>zxN (zxN F0.o.size (zxN F1.o.size (zxN F2.o.size F3.o.size))) (hsv.2 k hk)
 have h:=HH.o;have CA:=zab (zgy (lb:=#[.pointer (some ⟨w.heap.size,0,none⟩)]) (q:=((⟨bl,[[],[]],[]⟩:Cp.Bs).write (.comp sg)).write .enter) zrM (h.fr0 f5) (zaY hsv.1 (zx1 _)) (fun k hk=>⟨by have:=h.clt;have:=hs0 k hk;omega,fun e=>by have:=h.rlt k e;have:=hs0 k hk;omega,fun e=>by have:=h.zlt k e;have:=hs0 k hk;omega⟩)
  (fun W bb hW' hb=>zor (Fr.blk (Fr.blk HX.o f40 (by simp)) hW' (by simp)) hb (by simp)) hl)
 have HS:=zab hs0;have F5:=zab f5;clear h hsv f4 f40 f5 hs0 CF hsl;go_wp2_with fail
 refine CA.o.mono ?_;rintro r w6 ⟨rfl,Z',rv',z1,hc,f6,n6⟩;have HD:=zab (zmF F5.o HS.o z1 hc f6 n6);clear CA z1 hc f6 n6;go_wp2_with fail
 go_ret
 exact ⟨rfl,HD.o⟩
theorem zux:(Tryz.prog.info? 9).map (fun i=>(i.size,i.bytes,i.zero))=some (1,16,some (.string ⟨#[]⟩)):=by kernel_rfl
theorem madeS(n:Nat):madeCells (Value.cells (.string ⟨#[]⟩)) n=(strCells (List.replicate n [])).toArray:=by
 apply Array.ext
 ·simp[madeCells,strCells]
 ·intro i h1 h2;simp[madeCells,strCells,Value.cells,Nat.mod_one]
theorem zt1(hn:n<=1000000)(W:World):(Instr.makeSlice 38 (.int .i64 (n:Int)) (.int .i64 (n:Int))).run Tryz.prog W=.ok (.slice (some ⟨W.heap.size,0,none⟩) n n) (W.alloc (.cells (strCells (List.replicate n [])).toArray 9)):=by
 obtain ⟨i,hi,he⟩:=zxT.1 zux;simp only[zyH]at he;obtain ⟨h1,h2,h3⟩:=he;have:=run_make (P:=Tryz.prog) W 38 9 i (.string ⟨#[]⟩) Tryz.underlying38 hi h3 .i64 .i64 n n (by omega) (by omega) (by rw[h2];omega) (by omega);rw[this,h1,zxY,zzn,madeS]
theorem zrp{ar:Nat}(hsl:sl=List.replicate ar [])(h:CS Z w cb rv fns bl)(hl:bl.length<=1000000000)(har:ar<=1000000):
  Calls Tryz.prog 218 #[.pointer (some ⟨cb,0,none⟩),.agg #[.int .i64 tag,.int .i64 ar]] w fun r w'=>r=.returned (.int .i64 bl.length)/\zfO Z w cb rv fns (bl++[(sl.length,[.pack tag ar,.enter])]) w':=by
 have hmf:∀ (fn:Fn) (first cap:Array Value) (w:World),(Instr.makeFunc fn first cap).run Tryz.prog w=.ok (.func fn first cap) w:=fun _ _ _ _=>rfl
 have HM:=zt1 har;have hal:sl.length=ar:=by rw[hsl];simp
 rw[<-hsl]at HM;obtain ⟨vs,hvs⟩:∃ vs,strCells sl=vs:=⟨_,rfl⟩;have hvl:vs.length=ar:=by rw[<-hvs];simp[strCells,hal]
 rw[hvs]at HM;have hX:=Blk.alloc (Blk.new w [.int .i64 tag,.int .i64 ar] 219) (.cells vs.toArray 9);have f0:Fr (fun _=>False) w ((w.alloc (.cells #[.int .i64 tag,.int .i64 ar] 219)).alloc (.cells vs.toArray 9)):=((Fr.refl _ _).alloc _).alloc _;have hB:=Blk.new (w.alloc (.cells #[.int .i64 tag,.int .i64 ar] 219)) vs 9;rw[World.size_alloc]at hB;have hown:((w.alloc (.cells #[.int .i64 tag,.int .i64 ar] 219)).alloc (.cells vs.toArray 9)).ownsRow 0 9 1 (.slice (some ⟨w.heap.size+1,0,none⟩) ar ar) sl.length (strCells sl):=by
  rw[hal,hvs];exact zgr hB hvl (zxJ _) (by unfold maxLen;omega) (zx1 _) (by rw[<-hvl,zy3])
 have hs0:∀ k,(Value.slice (some ⟨w.heap.size+1,0,none⟩) ar ar).ownBlock=some k->w.heap.size<=k:=fun k hk=>by simp[Value.ownBlock]at hk;omega
 have CA:=zab (zgy (lb:=#[.pointer (some ⟨w.heap.size,0,none⟩)]) (q:=((⟨bl,sl,[]⟩:Cp.Bs).write (.pack tag ar)).write .enter) zvH (h.fr0 f0) hown (fun k hk=>⟨by have:=h.clt;have:=hs0 k hk;omega,fun e=>by have:=h.rlt k e;have:=hs0 k hk;omega,fun e=>by have:=h.zlt k e;have:=hs0 k hk;omega⟩)
  (fun W bb hW' hb=>zqY (Fr.blk hX hW' (by simp)) hb (by simp)) hl)
 have HS:=zab hs0;have F0:=zab f0;clear h hs0 hown hB f0 hX hvl hvs hal hsl;go_enter Tryz.func218,Tryz.ntmps218
 go_wp2_with fail
 refine CA.o.mono ?_;rintro r w6 ⟨rfl,Z',rv',z1,hc,f6,n6⟩;have HD:=zab (zmF F0.o HS.o z1 hc f6 n6);clear CA z1 hc f6 n6;go_wp2_with fail
 go_ret
 exact ⟨rfl,HD.o⟩
theorem zqx{Z':Nat->Prop}{w2 w':World}{rv':Value}(f:Fr (fun _=>False) w w2)(hs:∀ k,sv.ownBlock=some k->w.heap.size<=k)(hz:∀ k,k<w.heap.size->(Z' k↔Z k))(hc:CS Z' w' cb rv' fns bl)(f2:Fr (fun k=>k=cb\/rv.ownBlock=some k\/sv.ownBlock=some k) w2 w')(hn:New w2 rv rv'):zfO Z w cb rv fns bl w':=by
 refine ⟨Z',rv',hz,hc,?_,New.trans (New.refl w rv) hn f.size⟩;refine ⟨f2.os.trans f.os,f2.tape.trans f.tape,f2.output.trans f.output,zxN f.size f2.size,fun i hi hK=>(f2.block i (zxO hi f.size) (fun hn=>?_)).trans (f.block i hi (by simp))⟩;rcases hn with e|e|e
 ·exact hK (.inl e)
 ·exact hK (.inr e)
 ·have:=hs i e;omega
variable {Z1:Nat->Prop}
variable {w1:World}
theorem BS.box{k:Nat}{vs:List Value}(h:BS Z w cb bb rv sv kv fns q)(f:Fr (KL cb bb rv sv kv) w w1)(z:∀ k,k<w.heap.size->(Z1 k↔Z k))(hb:Blk w k vs t)(hz:Z k):Blk w1 k vs t/\Z1 k:=
 ⟨Fr.blk hb f (h.zk k hz),(z k hb.lt).2 hz⟩
theorem BS.rep(h:BS Z w cb bb rv sv kv fns q)(f:Fr (KL cb bb rv sv kv) w w1)(z:∀ k,k<w.heap.size->(Z1 k↔Z k))(hr:Rep Z w n v e):Rep Z1 w1 n v e:=
 hr.frz f (fun k _ hz=>h.zk k hz) (fun k hk hz=>(z k hk).2 hz)
theorem BS.row{size:Nat}{xs:List Value}(h:BS Z w cb bb rv sv kv fns q)(f:Fr (KL cb bb rv sv kv) w w1)(z:∀ k,k<w.heap.size->(Z1 k↔Z k))(hr:Row Z w t size v n xs):Row Z1 w1 t size v n xs:=
 hr.frz f (fun k _ hz=>h.zk k hz) (fun k hk hz=>(z k hk).2 hz)
def Cp.zi7 (wk:Cp.Bs->Cp.Bs) (sg:ByteArray) (q:Cp.Bs):Cp.Bs:=
 let q2:=(q.write .zbV).push (.push (q.zac.length-1))
 wk (Cp.Bs.push ⟨q2.blocks++[(2,[.comp sg,.enter])],q2.zac,q2.code⟩ (.wait q2.blocks.length))
theorem zrj(hW:zbg M N n){bc bo m:Nat}{lv:Value}(hm:q.zac.length=m+1)(hc:Blk w bc [.pointer (some ⟨cb,0,none⟩)] 83)(zc:Z bc)(ho:Blk w bo [.string sg,lv,.iface t x] 166)(zo:Z bo)(h:BS Z w cb bb rv sv kv fns q)(hr:Rep Z w n (.iface t x) e)(hcl:q.code.length<=1000000)(hsl:q.zac.length<=1000000)(hbl:q.blocks.length<=1000000)(hf:∀ bl cd,bl.length=q.blocks.length+1->cd.length=q.code.length+3->Fit M N fns ⟨bl,(q.zac++[[]])++[[]],cd⟩ e)(hb2:2+(M+8)*Cp.wt N e<=1000000000):
  Calls Tryz.prog 156 #[.pointer (some ⟨bb,0,none⟩),.pointer (some ⟨bc,0,none⟩),.pointer (some ⟨bo,0,none⟩)] w fun r w'=>r=.returned (.tuple #[])/\Did Z w cb bb rv sv kv fns (Cp.zi7 (Cp.work (Cp.free N) fns n e 2) sg q) w':=by
 obtain ⟨sp,sc,sg2,hsv,_⟩:=zaN h.ziJ;rw[hm]at hsv;subst hsv;have c1:=Blk.cell h.zbW 1;simp at c1;have CW:=zab (zbN (i:=.zbV) h rfl (by omega));have HH:=zab (And.intro h (And.intro hr (And.intro hf (And.intro hc (And.intro zc (And.intro ho zo))))));have HW:=zab hW;have HM:=zab hm;have hmb:m<=1000000:=by omega
 clear h hr hf hc zc ho zo hW hm;go_enter Tryz.func156,Tryz.ntmps156
 go_wp2_with fail
 refine CW.o.mono ?_;rintro r w1 ⟨rfl,Z1,rv1,sv1,kv1,z1,b1,f1,n1,n2,n3⟩;obtain ⟨h,hr,hf,hc,zc,ho,zo⟩:=HH.o;have CP:=zab (zbl (i:=.push m) b1 rfl (by simp[Cp.Bs.write];omega) (by simp[Cp.Bs.write];omega));have X1:=zab (And.intro z1 (And.intro b1 (And.intro f1 (And.intro n1 (And.intro n2 n3)))));have Y1:=zab (And.intro (h.rep f1 z1 hr) (And.intro (h.box f1 z1 hc zc) (h.box f1 z1 ho zo)));have HF:=zab hf;clear CW c1 h hr hf hc zc ho zo z1 b1 f1 n1 n2 n3 HH;go_wp2_with fail
 refine CP.o.mono ?_;rintro r w2 ⟨rfl,Z2,rv2,sv2,kv2,z1,b1,f1,n1,n2,n3⟩;have h:=X1.o.2.1;have hc:=h.box f1 z1 Y1.o.2.1.1 Y1.o.2.1.2;have ho:=h.box f1 z1 Y1.o.2.2.1 Y1.o.2.2.2;have CC:=zab (zn8 (sg:=sg) b1.cs (by simp[Cp.Bs.write,Cp.Bs.push];omega));have c0:=Blk.cell hc.1 0;have o0:=Blk.cell ho.1 0;simp at c0 o0;have X2:=zab (And.intro z1 (And.intro b1 (And.intro f1 (And.intro n1 (And.intro n2 n3)))));have Y2:=zab (And.intro (h.rep f1 z1 Y1.o.1) (And.intro hc ho));clear CP h hc ho z1 b1 f1 n1 n2 n3;go_wp2_with fail
 refine CC.o.mono ?_;rintro r w3 ⟨rfl,dc⟩;obtain ⟨Z3,rv3,sv3,kv3,z1,b1,f1,n1,n2,n3⟩:=dc.did X2.o.2.1;have h:=X2.o.2.1;have ho:=h.box f1 z1 Y2.o.2.2.1 Y2.o.2.2.2;have CP:=zab (zbl (i:=.wait q.blocks.length) b1 rfl (by simp[Cp.Bs.write,Cp.Bs.push];omega) (by simp[Cp.Bs.write,Cp.Bs.push];omega));have X3:=zab (And.intro z1 (And.intro b1 (And.intro f1 (And.intro n1 (And.intro n2 n3)))));have Y3:=zab (And.intro (h.rep f1 z1 Y2.o.1) ho);clear CC h ho z1 b1 f1 n1 n2 n3 c0 o0 dc;go_wp2_with fail
 refine CP.o.mono ?_;rintro r w4 ⟨rfl,Z4,rv4,sv4,kv4,z1,b1,f1,n1,n2,n3⟩;have h:=X3.o.2.1;have ho:=h.box f1 z1 Y3.o.2.1 Y3.o.2.2;have o2:=Blk.cell ho.1 2;simp at o2;have CK:=zab (HW.o (below:=2) b1 (h.rep f1 z1 Y3.o.1) (HF.o _ _ (by simp[Cp.Bs.write,Cp.Bs.push]) (by simp[Cp.Bs.write,Cp.Bs.push])) hb2);have X4:=zab (And.intro z1 (And.intro b1 (And.intro f1 (And.intro n1 (And.intro n2 n3)))));clear CP h ho z1 b1 f1 n1 n2 n3;go_wp2_with fail
 refine CK.o.mono ?_;rintro r w5 ⟨rfl,d5⟩;have D5:=zab d5;clear d5 CK o2;go_wp2_with fail
 first|go_end0|refine bodyPost_ret (results_none rfl _ _ _) rfl ?_
 refine ⟨rfl,?_⟩;obtain ⟨z1,b1,f1,n1,n2,n3⟩:=X1.o;refine Did.trans z1 f1 n1 n2 n3 ?_;obtain ⟨z1,b1,f1,n1,n2,n3⟩:=X2.o;refine Did.trans z1 f1 n1 n2 n3 ?_;obtain ⟨z1,b1,f1,n1,n2,n3⟩:=X3.o;refine Did.trans z1 f1 n1 n2 n3 ?_;obtain ⟨z1,b1,f1,n1,n2,n3⟩:=X4.o;refine Did.trans z1 f1 n1 n2 n3 ?_;have d5:=D5.o;unfold Cp.zi7;rw[HM.o];simpa [Cp.Bs.write,Cp.Bs.push] using d5
theorem ztl{W:World}{g:Nat}(hb:Blk W g [.string ⟨#[]⟩] 9):Row (fun _=>True) W 9 1 (.slice (some ⟨g,0,none⟩) 1 1) ([[]]:List Cp.Nm).length (strCells [[]]):=⟨zgr (base:=0) hb rfl (zxJ _) (by unfold maxLen;omega) (zx1 _) rfl,fun _ _=>trivial⟩
theorem zuO:∀ args w,(callFunc 156 args).run Tryz.prog w=.ok (.enter 156 args) w:=by
 intro args w
 kernel_rfl
theorem zt2(hW:zbg M N n){t1:TypeId}{x1:Value}(hsl:sl=([]::names).reverse)(hq:q=Cp.zi7 (Cp.work (Cp.free N) fns n e 2) sg ⟨bl,sl,[]⟩)(h:CS Z w cb rv fns bl)(hr:Rep Z w n v e)(hn:Row Z w 9 1 nv names.length (strCells names))(hf:∀ b2 cd,b2.length=bl.length+1->cd.length=3->Fit M N fns ⟨b2,(sl++[[]])++[[]],cd⟩ e)(hb2:2+(M+8)*Cp.wt N e<=1000000000)(hnl:names.length<=100000)(hbl:bl.length<=1000000)(hl:q.blocks.length<=1000000000):
  Calls Tryz.prog 91 #[.pointer (some ⟨cb,0,none⟩),.agg #[.string sg,.iface t1 x1,v],nv] w fun r w'=>r=.returned (.int .i64 q.blocks.length)/\zfO Z w cb rv fns (q.blocks++[(sl.length,q.code)]) w':=by
 have hmf:∀ (fn:Fn) (first cap:Array Value) (w:World),(Instr.makeFunc fn first cap).run Tryz.prog w=.ok (.func fn first cap) w:=fun _ _ _ _=>rfl
 obtain ⟨t,x,rfl⟩:=zah hr;obtain ⟨np,nn,nc,rfl⟩:=zae hn;have f0:Fr (fun _=>False) w ((w.alloc (.cells #[.pointer (some ⟨cb,0,none⟩)] 83)).alloc (.cells #[.string sg,.iface t1 x1,.iface t x] 166)):=((Fr.refl _ _).alloc _).alloc _;have hX1:=Blk.alloc (Blk.new w [.pointer (some ⟨cb,0,none⟩)] 83) (.cells #[.string sg,.iface t1 x1,.iface t x] 166);have hX2:=Blk.new (w.alloc (.cells #[.pointer (some ⟨cb,0,none⟩)] 83)) [.string sg,.iface t1 x1,.iface t x] 166;rw[World.size_alloc]at hX2;have hslen:sl.length=names.length+1:=by rw[hsl];simp
 have HX1:=zab hX1;have HX2:=zab hX2;have F0:=zab f0;have HN:=zab hn;have HH:=zab (And.intro h (And.intro hr (And.intro hf hl)));have HSL:=zab (And.intro hsl (And.intro hq hslen));have HW:=zab hW;clear hW h hr hn hf hl hX1 hX2 f0 hsl hq hslen;go_enter Tryz.func91,Tryz.ntmps91
 go_wp2_with fail
 generalize (w.alloc (.cells #[.pointer (some ⟨cb,0,none⟩)] 83)).alloc (.cells #[.string sg,.iface t1 x1,.iface t x] 166)=w0 at HX1 HX2 F0 ⊢;have q1:w0.cell? ⟨w.heap.size,0,none⟩=some (.pointer (some ⟨cb,0,none⟩)):=Blk.cell HX1.o 0;have AA:Hid (∀ (W:World) (sp:Option Addr) (sn sc:Nat),Fr (fun _=>False) w0 W->Names w0.heap.size W (.slice sp sn sc) sl->Calls Tryz.prog 154 #[.pointer (some ⟨cb,0,none⟩),.slice sp sn sc,.func (.func 156) #[] #[.pointer (some ⟨w.heap.size,0,none⟩),.pointer (some ⟨w.heap.size+1,0,none⟩)]] W fun r w'=>r=.returned (.int .i64 q.blocks.length)/\zfO Z w cb rv fns (q.blocks++[(sl.length,q.code)]) w'/\w'.cell? ⟨w.heap.size,0,none⟩=some (.pointer (some ⟨cb,0,none⟩))):=zab (by
  intro W sp sn sc f2 hsv;obtain ⟨h,hr,hf,hl⟩:=HH.o;have f3:=F0.o.trans f2;have hz0:=HX2.o.lt;have hs0:∀ k,(Value.slice sp sn sc).ownBlock=some k->w.heap.size+2<=k:=fun k hk=>by have:=hsv.2 k hk;omega
  have hA:∀ k,(k=w.heap.size\/k=w.heap.size+1)->k<W.heap.size/\k≠cb/\rv.ownBlock≠some k:=fun k hk=>⟨by have:=f2.size;omega,by have:=h.clt;omega,fun e=>by have:=h.rlt k e;omega⟩
  have h3:=(h.fr0 f3).more hA;refine (zgy (q:=q) zuO h3 (zaY hsv.1 (zx1 _)) (fun k hk=>⟨by have:=h.clt;have:=hs0 k hk;omega,fun e=>by have:=h.rlt k e;have:=hs0 k hk;omega,fun e=>by
    have:=hs0 k hk;rcases e with e|e
    ·have:=h.zlt k e;omega
    ·omega⟩) (fun W' bb hW' hb=>?_) hl).mono ?_
  ·rw[HSL.o.2.1];refine zrj HW.o (m:=names.length) HSL.o.2.2 (Fr.blk (Fr.blk HX1.o f2 (by simp)) hW' (by simp)) (.inr (.inl rfl)) (Fr.blk (Fr.blk HX2.o f2 (by simp)) hW' (by simp)) (.inr (.inr rfl)) hb ((hr.fr0 (f3.trans hW')).mono (fun k _ hk=>.inl hk)) (by simp) (by simp[HSL.o.2.2];omega) hbl (fun b2 cd h1 h2=>hf b2 cd h1 h2) hb2
  ·rintro r w6 ⟨rfl,Z',rv',z1,hc,f6,n6⟩;refine ⟨rfl,zqx f3 (fun k hk=>by have:=hs0 k hk;omega) (fun k hk=>?_) hc f6 n6,?_⟩
   ·rw[z1 k (zxO hk f3.size)];constructor
    ·rintro (e|e)
     ·exact e
     ·omega
    ·exact .inl
   ·refine Blk.cell (Fr.blk (Fr.blk HX1.o f2 (by simp)) f6 ?_) 0;rintro (e|e|e)
    ·have:=h.clt;omega
    ·have:=h.rlt _ e;omega
    ·have:=hs0 _ e;omega)
 go_region_held3 (fun W=>W.cell? ⟨w.heap.size,0,none⟩=some (.pointer (some ⟨cb,0,none⟩))) (first|assumption|go_keep) (first
  |(go_at_call 155;refine (zd1 _).mono ?_;rintro e wA ⟨rfl,hwA⟩;have FA:Hid (Fr (fun _=>False) w0 wA):=zab (by rw[hwA];exact ((Fr.refl _ _).drew).alloc _);have A1:Hid (Blk wA w0.heap.size [.string ⟨#[]⟩] 9):=zab (by rw[hwA];exact Blk.new w0.drew [.string ⟨#[]⟩] 9);clear hwA;have q2:wA.cell? ⟨w.heap.size,0,none⟩=some (.pointer (some ⟨cb,0,none⟩)):=Blk.cell (Fr.blk HX1.o FA.o (by simp)) 0;
    have q5:(wA.alloc (.cells #[.slice (some ⟨w0.heap.size,0,none⟩) 1 1,.slice np nn nc] 38)).cell? ⟨w.heap.size,0,none⟩=some (.pointer (some ⟨cb,0,none⟩)):=Blk.cell (Blk.alloc (Fr.blk HX1.o FA.o (by simp)) _) 0)
  |(go_at_call 51;have f11:Fr (fun _=>False) wA (wA.alloc (.cells #[.slice (some ⟨w0.heap.size,0,none⟩) 1 1,.slice np nn nc] 38)):=(Fr.refl _ _).alloc _;refine (zdR (Blk.new wA [.slice (some ⟨w0.heap.size,0,none⟩) 1 1,.slice np nn nc] 38) (ztl (Fr.blk A1.o f11 (by simp))) (Row.frc HN.o (F0.o.trans (FA.o.trans f11)) (by simp)) (by simp;omega)).mono ?_;rintro r w2 ⟨sv,rfl,hsv,f2⟩;have hsv':Names _ w2 sv sl:=HSL.o.1 ▸ hsv;obtain ⟨sp,sn,sc,rfl⟩:=zae hsv;have F2:=zab (FA.o.trans (f11.trans f2));have HSV:=zab hsv';have F11:=zab (zxN FA.o.size f11.size);clear hsv hsv' f2 f11;have q3:w2.cell? ⟨w.heap.size,0,none⟩=some (.pointer (some ⟨cb,0,none⟩)):=Blk.cell (Fr.blk HX1.o F2.o (by simp)) 0)
  |(go_at_call 154;refine (AA.o _ _ _ _ F2.o (HSV.o.base F11.o)).mono ?_;rintro r w6 ⟨rfl,hd,q6⟩;have HD:=zab hd;clear hd))
 all_goals
  go_wp2_with fail
  go_ret
  exact ⟨rfl,HD.o⟩
theorem BS.ins{i:Ins}(h:BS Z w cb bb rv sv kv fns q)(f:Fr (KL cb bb rv sv kv) w w1)(z:∀ k,k<w.heap.size->(Z1 k↔Z k))(hi:zoM Z w v i):zoM Z1 w1 v i:=
 hi.frz f (fun k _ hz=>h.zk k hz) (fun k hk hz=>(z k hk).2 hz)
theorem zgI{c:Nat}{i:Ins}(h:BS Z w cb bb rv sv kv fns q)(hi:zoM Z w v i)(hl:q.code.length+1<=1000000000):
  Calls Tryz.prog 96 #[.pointer (some ⟨bb,0,none⟩),.int .i64 c,v] w fun r w'=>r=.returned (.tuple #[])/\Did Z w cb bb rv sv kv fns (q.ends c i) w':=by
 obtain ⟨t,x,rfl⟩:=zqu hi;have CW:=zab (zbN (i:=.zcf c) h rfl (by omega));have HH:=zab (And.intro h hi);clear h hi;go_enter Tryz.func96,Tryz.ntmps96
 go_wp2_with fail
 refine CW.o.mono ?_;rintro r w1 ⟨rfl,Z1,rv1,sv1,kv1,z1,b1,f1,n1,n2,n3⟩;have CE:=zab (zbN b1 (HH.o.1.ins f1 z1 HH.o.2) (by simp[Cp.Bs.write];omega));have X1:=zab (And.intro z1 (And.intro f1 (And.intro n1 (And.intro n2 n3))));clear CW z1 b1 f1 n1 n2 n3;go_wp2_with fail
 refine CE.o.mono ?_;rintro r w2 ⟨rfl,hd⟩;have HE:=zab hd;clear hd CE;go_wp2_with fail
 first|go_end0|refine bodyPost_ret (results_none rfl _ _ _) rfl ?_
 exact ⟨rfl,Did.trans X1.o.1 X1.o.2.1 X1.o.2.2.1 X1.o.2.2.2.1 X1.o.2.2.2.2 HE.o⟩
theorem zp8(hW:zbg M N n){blk below:Nat}(h:BS Z w cb bb rv sv kv fns q)(hr:Rep Z w n v e)(hn:Row Z w 9 1 nv names.length (strCells names))(hin:∀ x∈names,x≠[]/\(Cp.za8 q.zac x=none->x∈fns))(hl1:q.code.length+names.length+1<=1000000000)(hl2:q.zac.length+names.length+1<=1000000000)(hl3:fns.length<=1000000000)(hf:Fit M N fns ((q.zak fns names).push (.wait blk)) e)(hb:below+names.length+1+(M+8)*Cp.wt N e<=1000000000):
  Calls Tryz.prog 90 #[.pointer (some ⟨bb,0,none⟩),v,nv,.int .i64 blk,.int .i64 below] w fun r w'=>r=.returned (.tuple #[])/\Did Z w cb bb rv sv kv fns (Cp.work (Cp.free N) fns n e (below+names.length+1) ((q.zak fns names).push (.wait blk))) w':=by
 obtain ⟨t,x,rfl⟩:=zah hr;obtain ⟨np,nc,_,rfl,_⟩:=zaN hn.1;have CU:=zab (zbR h hn hin (by omega) (by omega) hl3);have HH:=zab (And.intro h (And.intro hr hf));have HW:=zab hW;have hbb:below+names.length+1<=1000000000:=by omega
 have HB:=zab hb;have ul:=zbs fns names.reverse q;have hu1:(q.zak fns names).code.length<=1000000000:=by unfold Cp.Bs.zak;rw[ul.2.1,zx0];omega
 have hu2:(q.zak fns names).zac.length<=1000000000:=by unfold Cp.Bs.zak;rw[ul.1,zx0];omega
 obtain ⟨qu,hqu⟩:∃ qu,q.zak fns names=qu:=⟨_,rfl⟩;rw[hqu]at CU HH hu1 hu2 ⊢;clear h hr hn hin hf hW hb ul hqu hl1 hl2;go_enter Tryz.func90,Tryz.ntmps90
 go_wp2_with fail
 refine CU.o.mono ?_;rintro r w1 ⟨rfl,Z1,rv1,sv1,kv1,z1,b1,f1,n1,n2,n3⟩;obtain ⟨h,hr,hf⟩:=HH.o;have CP:=zab (zbl (i:=.wait blk) b1 rfl hu1 hu2);have X1:=zab (And.intro z1 (And.intro b1 (And.intro f1 (And.intro n1 (And.intro n2 n3)))));have Y1:=zab (h.rep f1 z1 hr);have HF:=zab hf;clear CU z1 b1 f1 n1 n2 n3 h hr hf HH;go_wp2_with fail
 refine CP.o.mono ?_;rintro r w2 ⟨rfl,Z2,rv2,sv2,kv2,z1,b1,f1,n1,n2,n3⟩;have CK:=zab (HW.o (below:=below+names.length+1) b1 (X1.o.2.1.rep f1 z1 Y1.o) HF.o HB.o);have X2:=zab (And.intro z1 (And.intro f1 (And.intro n1 (And.intro n2 n3))));clear CP z1 b1 f1 n1 n2 n3;rw[show ((below+names.length+1:Nat):Int)=(below:Int)+(names.length:Int)+1 by omega]at CK;go_wp2_with fail
 refine CK.o.mono ?_;rintro r w3 ⟨rfl,hd⟩;have D3:=zab hd;clear hd CK;go_wp2_with fail
 first|go_end0|refine bodyPost_ret (results_none rfl _ _ _) rfl ?_
 refine ⟨rfl,?_⟩;obtain ⟨z1,b1,f1,n1,n2,n3⟩:=X1.o;refine Did.trans z1 f1 n1 n2 n3 ?_;obtain ⟨z1,f1,n1,n2,n3⟩:=X2.o;exact Did.trans z1 f1 n1 n2 n3 D3.o
end Go.Proofs.YtgahgkddaljmkaaGreatDoor
