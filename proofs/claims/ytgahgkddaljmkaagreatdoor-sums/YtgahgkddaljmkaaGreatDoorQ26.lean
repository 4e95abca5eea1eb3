/- SmV .. SmX -/
import Derived.Test.YtgahgkddaljmkaaGreatDoorQ25
set_option maxRecDepth 100000
set_option maxHeartbeats 4000000
namespace Go.Proofs.YtgahgkddaljmkaaGreatDoor
open Tryz
namespace Sg
open Th Ab.Sg
variable {k:Nat}
theorem zCO{N:Nat}{d:Ex}{ar:List (List UInt8)}(B:Bd k d)(hp:[112]∈ar)(hq:[113]∈ar):zar N d ar=[]:=by
 obtain ⟨b1,_,l,r,b2,b3,b4,b5,b6⟩:=B;have nm:∀ (M:Nat) (e:Ex) (s:List UInt8),e.kind=2->e.tok.s=s->s∈ar->zar M e ar=[]:=fun M e s h1 h2 h3=>by
  cases M with
  |zero=>rfl
  |succ M=>rw[zar,if_pos h1,h2,if_pos (by simpa using h3)]
 cases N with
 |zero=>rfl
 |succ N=>
  rw[zar,if_neg (by omega),if_pos (.inr b1),b2];simp only[List.headD_cons,List.tail_cons];rw[nm N l _ b3 b4 hp,nm N r _ b5 b6 hq];rfl
theorem zCS{l:List Tok}(h:texts l=[[112],[113]]):∃ p q:Tok,l=[p,q]/\p.s=[112]/\q.s=[113]:=by
 obtain ⟨p,l1,rfl,h1,h2⟩:=List.map_eq_cons_iff.1 h;obtain ⟨q,l2,rfl,h3,h4⟩:=List.map_eq_cons_iff.1 h2;cases List.map_eq_nil_iff.1 h4;exact ⟨p,q,rfl,h1,h3⟩
theorem zB6:∀ (x:Sm) (N:Nat) (e:Ex) (ar:List (List UInt8)),Is x e->(∀ k,k<4->Sm.name k∈ar)->zar N e ar=[]
 |_,0,_,_,_,_=>rfl
 |.num v,N+1,e,ar,⟨h,_⟩,_=>by
  rw[zar,if_neg (by omega),if_neg (by omega),if_neg (by omega),if_neg (by omega),if_neg (by omega),if_neg (by omega)]
 |.op Ij k a b,N+1,e,ar,⟨hk,h⟩,ha=>by
  rcases h with ⟨h1,_,l,r,h2,h3,h4⟩|⟨h1,hn,d,l,r,h2,h3,h4,h5⟩|⟨h1,f,g,l,r,h2,h3,h4,h5,h6,h7⟩
  ·rw[zar,if_neg (by omega),if_pos (.inr h1),h2];simp only[List.headD_cons,List.tail_cons];rw[zB6 a N l ar h3 ha,zB6 b N r ar h4 ha];rfl
  ·obtain ⟨p,q,Iu,p1,q1⟩:=zCS hn;rw[zar,if_neg (by omega),if_neg (by omega),if_neg (by omega),if_pos h1,h2,hn,Iu];simp only[List.headD_cons,List.tail_cons,zbq];rw[zB6 a N l ar h4 ha,zB6 b N r ar h5 ha,zCO h3 (by simp) (by simp),p1,q1];rfl
  ·rw[zar,if_neg (by omega),if_pos (.inl h1),h2];simp only[List.headD_cons,List.tail_cons];rw[zB6 b N r ar h6 ha];cases N with
   |zero=>rfl
   |succ N=>
    rw[zar,if_neg (by omega),if_pos (.inl h3),h4];simp only[List.headD_cons,List.tail_cons];rw[zB6 a N l ar h5 ha];cases N with
    |zero=>rfl
    |succ N=>
     rcases h7 with ⟨g1,g2⟩|⟨g1,g2,d,g3,g4⟩
     ·rw[zar,if_pos g1,g2,if_pos (by simpa using ha k hk)];rfl
     ·obtain ⟨p,q,Iu,p1,q1⟩:=zCS g2;rw[zar,if_neg (by omega),if_neg (by omega),if_pos g1,g3,g2,Iu];simp only[List.headD_cons];rw[zCO g4 (by simp) (by simp)];simp[zjc,p1,q1]
theorem zDf:∀ (x:Sm) (d:Nat),Sm.Ok d x->(tk x).length<=x.text.length/\4*x.ct<=x.text.length+3
 |.num v,d,ho=>by
  have hv:v<40:=by cases d <;> exact ho
  have:=zzA.2 (zC7 hv).1;simp only[tk,Sm.text,Sm.ct,zy0];omega
 |.op Ij k a b,0,ho=>ho.elim
 |.op Ij k a b,d+1,⟨_,_,hk,oa,ob⟩=>by
  have ia:=zDf a d oa;have ib:=zDf b d ob;have s1:=Sm.zCu k;have n1:=Sm.zmw k;rw[tk,Sm.text,Sm.ct];split
  ·simp[Sm.par,s1];omega
  ·split
   ·simp[Sm.par,n1];omega
   ·split
    ·simp[Sm.par,s1];omega
    ·simp[Sm.par,s1];omega
theorem zEz(hk:k<4):nms.idxOf (Sm.name k)=k:=by
 obtain rfl|rfl|rfl|rfl:k=0\/k=1\/k=2\/k=3:=by omega
 all_goals decide
theorem zEA(hk:k<4):Sm.name k∈nms:=by
 obtain rfl|rfl|rfl|rfl:k=0\/k=1\/k=2\/k=3:=by omega
 all_goals decide
def zB3 (x:Sm):List UInt8:=few++(zEd++32::(x.text++[59]))
theorem zCl(x:Sm):(zB3 x).length=x.text.length+76:=by
 unfold zB3;simp only[zyT,zy8,zzm];have h1:few.length=68:=by decide
 have h2:zEd.length=6:=by decide
 omega
theorem zEh{x:Sm}{d:Nat}(ho:Sm.Ok d x)(hs:(zB3 x).length<=600):∃ e R,Is x e/\zmt ⟨(zB3 x).toArray⟩=some (zCg e,⟨R,none⟩):=by
 obtain ⟨t1,t2⟩:=zDf x d ho;have hl:=zCl x;have hT:∃ T:List Tok,zay ⟨(zB3 x).toArray⟩=fewT++(zEY 68++T)/\T.map sh=tk x++[(4,[59]),(0,[])]:=by
  refine ⟨zdN (x.text.length+43) (32::(x.text++[59])) 74,?_,?_⟩
  ·unfold zay;show zdN ((zB3 x).toArray.size+1) (zB3 x) 0=_;rw[zzr,hl,show x.text.length+76+1=(x.text.length+43)+34 by omega];exact zEb _ _
  ·rw[lx_of,zCx,show x.text.length+42+1=(x.text.length+42-(tk x).length+1)+(tk x).length by omega,lex x d ho _ 59 [] (.inr rfl)];unfold lx;rw[zDg];rfl
 obtain ⟨T,T1,T2⟩:=hT;obtain ⟨TX,TE,rfl,T3,T4⟩:=List.map_eq_append_iff.1 T2;obtain ⟨s1,T5,rfl,h1,h2⟩:=List.map_eq_cons_iff.1 T4;obtain ⟨s2,T6,rfl,h3,h4⟩:=List.map_eq_cons_iff.1 h2;cases List.map_eq_nil_iff.1 h4;obtain ⟨zA,I5⟩:=Prod.mk.inj h1;obtain ⟨Jk,A3⟩:=Prod.mk.inj h3;obtain ⟨e,ie,re⟩:=read x d ho 1000 (by omega) TX T3;refine ⟨e,[s2],ie,?_⟩;unfold zmt;rw[T1,zDi];show zcn (zdJ 1000) (995+1) four ⟨⟨2,zcO,68⟩::⟨4,[61],73⟩::(TX++[s1,s2]),none⟩=_;rw[zcn,if_pos (by simp[St.hd])];have hp:zmE (zdJ 1000) ⟨⟨2,zcO,68⟩::⟨4,[61],73⟩::(TX++[s1,s2]),none⟩=some (⟨⟨2,zcO,68⟩,[],e⟩,⟨[s2],none⟩):=by
  unfold zmE;have a1:zaL ⟨⟨2,zcO,68⟩::⟨4,[61],73⟩::(TX++[s1,s2]),none⟩=(⟨2,zcO,68⟩,⟨⟨4,[61],73⟩::(TX++[s1,s2]),none⟩):=zCc rfl;have a2:zax ⟨⟨4,[61],73⟩::(TX++[s1,s2]),none⟩=([],⟨⟨4,[61],73⟩::(TX++[s1,s2]),none⟩):=by simp[zax]
  simp only[a1,a2];rw[zCm (show (⟨4,[61],73⟩:Tok).s=[61] from rfl),re true [s1,s2] ⟨s1,[s2],rfl,zA,.inr (.inl I5)⟩];simp only[zzD];rw[zCm I5]
 rw[hp];simp only[zzD];show zcn (zdJ 1000) (994+1) _ _=_;rw[zcn,if_neg (by simp[St.hd,Jk])];rfl
theorem zEt{bl:List (Nat × List Ins)}{is:List Ins}(hb:bl.length<=100000000):Ab.Sg.Good ((bl4++bl).set 4 (0,is)):=by
 have hg:∀ i,i<13->i≠4->((bl4++bl).set 4 (0,is))[i]?=bl4[i]?:=fun i hi h4=>by
  rw[zAo (Ne.symm h4),zzc (by exact hi)]
 refine ⟨by simp[bl4];omega,fun k hk=>?_⟩;obtain rfl|rfl|rfl|rfl:k=0\/k=1\/k=2\/k=3:=by omega
 ·exact ⟨6,5,by rw[hg _ (by omega) (by omega)];rfl,by rw[hg _ (by omega) (by omega)];rfl,by rw[hg _ (by omega) (by omega)];rfl⟩
 ·exact ⟨8,7,by rw[hg _ (by omega) (by omega)];rfl,by rw[hg _ (by omega) (by omega)];rfl,by rw[hg _ (by omega) (by omega)];rfl⟩
 ·exact ⟨10,9,by rw[hg _ (by omega) (by omega)];rfl,by rw[hg _ (by omega) (by omega)];rfl,by rw[hg _ (by omega) (by omega)];rfl⟩
 ·exact ⟨12,11,by rw[hg _ (by omega) (by omega)];rfl,by rw[hg _ (by omega) (by omega)];rfl,by rw[hg _ (by omega) (by omega)];rfl⟩
theorem zD3{x:Sm}{d:Nat}(ho:Sm.Ok d x)(hs:(zB3 x).length<=600)(heap fuel:Int)(poor:Prop)(hp:poor\/(20000<=zb9 heap 262144/\10000<=zb9 fuel 4000000)):∃ r,zdw ⟨(zB3 x).toArray⟩ heap fuel r 0/\May x.val poor r:=by
 obtain ⟨e,R,ie,hl⟩:=zEh ho hs;obtain ⟨t1,t2⟩:=zDf x d ho;have hlen:=zCl x;have cT:(⟨(zB3 x).toArray⟩:ByteArray).size<=600:=by show (zB3 x).toArray.size<=600;rw[zzr];exact hs
 obtain ⟨is,bl,c1,c2,c0,c3⟩:=code (N:=1299) (fnl:=nms) (fun k hk=>zEz hk) x 1300 0 0 e ie (by omega) ⟨bl4,[],[]⟩ rfl;have rV:Cp.program 1300 (zCg e)=(bl4++bl).set 4 (0,is):=by
  rw[zD0,c1,c2];rfl
 have jj:((bl4++bl).set 4 (0,is))[4]?=some (0,is):=List.getElem?_set_self (by simp[bl4]);have hin:zDp ((bl4++bl).set 4 (0,is)) bl4.length bl:=fun i hi=>by
  have JF:bl4.length=13:=rfl;rw[zAo (by omega),zy3 (by omega),Nat.add_sub_cancel_left]
 obtain ⟨g,r,hr,hm⟩:=zEZ (hf:=zb9 heap 262144/2) (fuel:=zb9 fuel 4000000) (m:=4) (poor:=poor) (by omega) (by omega) jj (fun Q fns hA=>c3 _ _ Q fns (zEt (by omega)) hA hin) (hp.imp id (fun h=>by omega));refine ⟨r,?_,hm⟩;obtain ⟨q,N,hq,gK⟩:=zjz ⟨(zB3 x).toArray⟩ cT;rw[hl]at hq;cases hq;have h0:(answer (⟨(zB3 x).toArray⟩:ByteArray).size (zCg e,⟨R,none⟩) N).1=0:=by
  rw[zsu cT gK];exact zCZ _ _ _ (zB6 x 1300 e nms ie (fun k hk=>zEA hk))
 have hw:=zqm heap 262144;refine fun w=>zwv cT gK h0 heap fuel (g:=g) (fun pv=>?_) w
 refine Ab.zt2 (by omega) ?_;show Ab.zwX (zb9 heap 262144/2) (Cp.program 1300 (zCg e)) (zCg e).length ((zaq (zCg e)).idxOf zcO) (zb9 fuel 4000000) g=some r;rw[(zDd e).1,(zDd e).2,rV];exact hr
end Sg
end Go.Proofs.YtgahgkddaljmkaaGreatDoor
namespace Go.Proofs.YtgahgkddaljmkaaGreatDoor
open Tryz
open Go.RowKit
attribute [local go_sem ↓] Go.wp_at_zero Go.wp_at_succ
theorem zCT{s:ByteArray}{r:Ab.zsp}{heap fuel:Int}(hk:r.1<=3)(h1:zdw s 262144 4000000 r 0)(h2:∃ r',zdw s heap fuel r' 0/\(r'=(4,0,0,0)\/r'=(5,0,0,0)\/r'=r))(w:World):
  Calls prog 21 #[.string s,ziu r.1 r.2.1 r.2.2.1 r.2.2.2,.int .i64 heap,.int .i64 fuel] w fun e w'=>e=.returned (.bool true)/\Fr (fun _=>False) w w':=by
 obtain ⟨r',h2,E0⟩:=h2;have RO:=zrQ r';obtain ⟨k,n,t,a⟩:=r;obtain ⟨k',n',t',a'⟩:=r';unfold zdw ziu at h1 h2;unfold ziu at RO;have K1:=zab h1;have K2:=zab h2;have KO:=zab RO;have Ja:=zab E0;clear h1 h2 RO E0;have F0:=zab ((Fr.refl (fun _=>False) w).alloc (.cells #[.int .i64 k,.int .i64 n,.int .i64 t,.int .i64 a] 35));have B0:=zab (Blk.new w [.int .i64 k,.int .i64 n,.int .i64 t,.int .i64 a] 35);unfold ziu;go_enter func21,ntmps21
 go_wp2_with fail
 refine (K1.o _).mono ?_;rintro e w1 ⟨rfl,f1⟩;have F1:=zab ((F0.o.trans f1).alloc (.cells #[.int .i64 k,.int .i64 n,.int .i64 t,.int .i64 a] 35));have B1:=zab (Blk.new w1 [.int .i64 k,.int .i64 n,.int .i64 t,.int .i64 a] 35);have I9:=zab (Fr.blk B0.o (f1.alloc (.cells #[.int .i64 k,.int .i64 n,.int .i64 t,.int .i64 a] 35)) (by simp));clear f1;go_wp2_with fail
 refine (K2.o _).mono ?_;rintro e w2 ⟨rfl,f2⟩;have F2:=zab ((F1.o.trans f2).alloc (.cells #[.int .i64 k',.int .i64 n',.int .i64 t',.int .i64 a'] 35));have b2:=Blk.new w2 [.int .i64 k',.int .i64 n',.int .i64 t',.int .i64 a'] 35;have Ip:=Fr.blk B1.o (f2.alloc (.cells #[.int .i64 k',.int .i64 n',.int .i64 t',.int .i64 a'] 35)) (by simp);have Iv:=Fr.blk I9.o (f2.alloc (.cells #[.int .i64 k',.int .i64 n',.int .i64 t',.int .i64 a'] 35)) (by simp);have Jd:=Iv.cell 0;have Je:=Iv.cell 1;have Jf:=Iv.cell 2;have Jg:=Iv.cell 3;have c10:=Ip.cell 0;have c11:=Ip.cell 1;have wj:=Ip.cell 2;have wo:=Ip.cell 3;have Dw:=b2.cell 0;have Dx:=b2.cell 1;have Dy:=b2.cell 2;have Dz:=b2.cell 3;simp at Jd Je Jf Jg c10 c11 wj wo Dw Dx Dy Dz;clear f2 b2 Ip Iv;have fy:k<=3:=hk;clear hk;rcases Ja.o with ho|ho|ho
 ·cases ho;go_wp2_with fail
  refine (KO.o _).mono ?_;rintro e w3 ⟨rfl,f3⟩;rw[decide_eq_true (.inl trivial)];have F3:=zab (F2.o.trans f3);clear f3;go_wp2_with fail
  go_ret
  exact ⟨rfl,F3.o⟩
 ·cases ho;go_wp2_with fail
  refine (KO.o _).mono ?_;rintro e w3 ⟨rfl,f3⟩;rw[decide_eq_true (.inr trivial)];have F3:=zab (F2.o.trans f3);clear f3;go_wp2_with fail
  go_ret
  exact ⟨rfl,F3.o⟩
 ·cases ho;go_wp2_with fail
  go_ret
  exact ⟨rfl,F2.o⟩
variable {w:World}
theorem Fr.zEN{w':World}{sb:Nat}(h:Fr (fun b=>b=sb) w w')(hs:w.heap.size<=sb):Fr (fun _=>False) w w':=
 ⟨h.os,h.tape,h.output,h.size,fun k hk _=>h.block k hk (by omega)⟩
theorem zC4{W:World}{o:Obj}{vs:List Value}{t:TypeId}(h:Blk W (w.alloc o).heap.size vs t):Blk W (w.heap.size+1) vs t:=by
 have e:(w.alloc o).heap.size=w.heap.size+1:=by unfold World.alloc;exact Array.size_push _
 rwa [e]at h
theorem Fr.zEr{a b:World}(h:Fr (fun _=>False) a b):Below a.heap.size a b:=⟨h.os,h.tape,h.output,h.size,fun k hk=>h.block k hk (fun e=>e)⟩
theorem zEM{a b t:List UInt8}(e:t=a++b)(h:t.length<=1000000):∀ W:World,(Op.stringOp .add ⟨a.toArray⟩ ⟨b.toArray⟩).run prog W=.ok (.string ⟨t.toArray⟩) W:=zl9 (by rw[e,zqj]) (by show t.toArray.size<=_;rw[zzr];exact h)
theorem zDW(t:ByteArray)(n:Int)(b:Bool)(w:World):Calls prog 22 #[.agg #[.string t,.int .i64 n,.bool b]] w fun e w'=>e=.returned (if b then ziu 3 0 0 0 else ziu 1 n 0 0)/\Fr (fun _=>False) w w':=by
 have F0:=zab (Fr.refl (fun _=>False) w);unfold ziu;cases b
 ·go_enter func22,ntmps22
  go_wp2_with fail
  refine bodyPost_ret (results_cell_row (p:=2) (ty:=35) ?h1 _ _ (w.heap.size+1) _ _ _ _ ?h2 (zC4 (Blk.new (w.alloc (.cells #[.string t,.int .i64 n,.bool false] 31)) [.int .i64 1,.int .i64 n,.int .i64 0,.int .i64 0] 35)) underlying35 rfl ?h4) ?h5 ?h6
  case h1=>kernel_rfl
  case h2=>kernel_rfl
  case h4=>kernel_rfl
  case h5=>rfl
  case h6=>exact ⟨rfl,(F0.o.alloc _).alloc _⟩
 ·go_enter func22,ntmps22
  go_wp2_with fail
  refine bodyPost_ret (results_cell_row (p:=2) (ty:=35) ?h1 _ _ (w.heap.size+1) _ _ _ _ ?h2 (zC4 (Blk.new (w.alloc (.cells #[.string t,.int .i64 n,.bool true] 31)) [.int .i64 3,.int .i64 0,.int .i64 0,.int .i64 0] 35)) underlying35 rfl ?h4) ?h5 ?h6
  case h1=>kernel_rfl
  case h2=>kernel_rfl
  case h4=>kernel_rfl
  case h5=>rfl
  case h6=>exact ⟨rfl,(F0.o.alloc _).alloc _⟩
theorem zC3{a:Option Addr}{len cap:Nat}{heap fuel:Int}{g:Nat->Int}(hlen:len<=9223372036854775807)(kr:∀ i,i<len->∃ A:Addr,a=some A/\A.block<w.heap.size/\w.cell? (A.add i)=some (.int .i64 (g i)))(hg:∀ i,-9223372036854775808<=g i/\g i<=9223372036854775807):
  Calls prog 6 #[.slice a len cap,.int .i64 heap,.int .i64 fuel] w fun e w'=>e=.returned (.bool true)/\Fr (fun _=>False) w w':=by
 have I:=fun sb W (hW:zB9 W sb a len cap g 0 6)=>zC0 (sb:=sb) hg hlen 4 0 6 W (by omega) (zy5 _) (by omega) hW
 have ok:=Sm.zDX g len 4 0 6;have os:=Sm.zDY g len 4 0 6;generalize Sm.mk g len 4 0 6=X at *;obtain ⟨x,j,l⟩:=X;simp only[smV]at I;have tl:=Sm.zCL x;have hz:(Sg.zB3 x).length<=600:=by rw[Sg.zCl];simp only at os;omega
 obtain ⟨t1,e1⟩:∃ t,t=(Sg.few++Sg.zEd++[32])++x.text:=⟨_,rfl⟩;have m1:t1.length<=1000:=by have:=Sg.zCl x;rw[e1];unfold Sg.zB3 at hz;simp at hz ⊢;omega
 have q1:∀ W:World,(Op.stringOp .add ⟨#[97,100,100,32,120,32,121,32,61,32,120,32,43,32,121,59,32,115,117,98,32,120,32,121,32,61,32,120,32,45,32,121,59,32,109,117,108,32,120,32,121,32,61,32,120,32,42,32,121,59,32,100,105,118,32,120,32,121,32,61,32,120,32,47,32,121,59,32,109,97,105,110,32,61,32]⟩ ⟨x.text.toArray⟩).run prog W=.ok (.string ⟨t1.toArray⟩) W:=zEM e1 (by omega);have q2:=zEM (a:=t1) (b:=[59]) (t:=Sg.zB3 x) (by rw[e1,Sg.zB3];simp) (by omega);have hv:(if x.val.isNone then ziu 3 0 0 0 else ziu 1 (x.val.getD 0) 0 0)=ziu (Ab.Sg.smR x.val).1 (Ab.Sg.smR x.val).2.1 (Ab.Sg.smR x.val).2.2.1 (Ab.Sg.smR x.val).2.2.2:=by cases x.val <;> rfl
 have h3:(Ab.Sg.smR x.val).1<=3:=by cases x.val <;> simp[Ab.Sg.smR]
 have ME:=zDW ⟨x.text.toArray⟩ (x.val.getD 0) x.val.isNone;rw[hv]at ME;have AN:=zCT (s:=⟨(Sg.zB3 x).toArray⟩) (r:=Ab.Sg.smR x.val) (heap:=heap) (fuel:=fuel) h3 (by
  obtain ⟨r,r1,r2|⟨r2,_⟩⟩:=Sg.zD3 (x:=x) (d:=4) ok hz 262144 4000000 False (.inr (by decide))
  ·rwa [r2]at r1
  ·exact r2.elim) (by
  obtain ⟨r,r1,r2|⟨_,r2|r2⟩⟩:=Sg.zD3 (x:=x) (d:=4) ok hz heap fuel True (.inl trivial)
  ·exact ⟨r,r1,.inr (.inr r2)⟩
  ·exact ⟨r,r1,.inl r2⟩
  ·exact ⟨r,r1,.inr (.inl r2)⟩)
 generalize ziu (Ab.Sg.smR x.val).1 (Ab.Sg.smR x.val).2.1 (Ab.Sg.smR x.val).2.2.1 (Ab.Sg.smR x.val).2.2.2=ov at *;have HM:=zab ME;have HA:=zab AN;have HC:=zab kr;have HI:=zab I;clear I ok os kr hg tl e1 m1 hlen hv h3 ME AN;go_enter func6,ntmps6
 go_wp2_with fail
 have F0:=zab ((Fr.refl (fun b=>b=w.heap.size) w).alloc (.cells #[.slice a len cap,.int .i64 0,.int .i64 6] 29));refine (HI.o w.heap.size _ ⟨Blk.new w _ _,fun i hi=>?_⟩).mono ?_
 ·obtain ⟨A,a1,a2,a3⟩:=HC.o i hi;exact ⟨A,a1,by omega,(F0.o.zEN (zyN _)).zEr.cell (p:=A.add i) (by unfold Addr.add;split <;> exact a2)|>.trans a3⟩
 rintro e w1 ⟨rfl,f1,_⟩;have F1:=zab ((F0.o.trans f1).zEN (zyN _));clear f1 F0;go_wp2_with fail
 all_goals try (exfalso;omega)
 refine (HM.o _).mono ?_;rintro e w2 ⟨rfl,f2⟩;have F2:=zab ((F1.o.alloc (.cells #[.string ⟨x.text.toArray⟩,.int .i64 (x.val.getD 0),.bool x.val.isNone] 31)).trans f2);clear f2;go_wp2_with fail
 refine (HA.o _).mono ?_;rintro e w3 ⟨rfl,f3⟩;have F3:=zab (F2.o.trans f3);clear f3;go_wp2_with fail
 go_ret
 exact ⟨rfl,F3.o⟩
end Go.Proofs.YtgahgkddaljmkaaGreatDoor
