/- Cmp11 .. Cmp21 -/
import Derived.Test.YtgahgkddaljmkaaGreatDoorT8
import Derived.Lib.OwnBridge
set_option maxRecDepth 100000
set_option maxHeartbeats 4000000
namespace Go.Proofs.YtgahgkddaljmkaaGreatDoor
open Tryz
open Go.RowKit Go.Shelf
attribute [local go_sem ↓] Go.wp_at_zero Go.wp_at_succ
def zqd (w:World) (v:Value) (l:List Cp.Nm):Prop:=∀ W,Fr (fun _=>False) w W->Calls prog 89 #[v] W fun r w'=>∃ v',r=.returned v'/\Names W.heap.size w' v' l/\Fr (fun _=>False) W w'
variable {w:World}{sv:Value}{f:Th.Ex->List Cp.Nm}
theorem zf8{S:Nat->Prop}{zao:List (Nat × List Th.Tok)}{ag:List Th.Ex}{nvs bvs:List Value}{g:Th.Ex->Nat}(hg:∀ e,(f e).length<=g e)(h3:ag.length=zao.length)(h4:nvs.length=zao.length)(h5:bvs.length=zao.length)(h6:Row S w 240 3 sv zao.length (za7 zao nvs bvs))(h7:∀ (i:Nat) (a:Nat × List Th.Tok) (nv:Value),zao[i]?=some a->nvs[i]?=some nv->Row S w 88 2 nv a.2.length (zaj a.2)/\a.2.length<=1000000)(h8:∀ (i:Nat) (bv:Value) (p:Th.Ex),bvs[i]?=some bv->ag[i]?=some p->(∃ t x,bv=.iface t x)/\zqd w bv (f p))(hb:(ag.map g).sum<=1000000)(aU:zao.length<=1000000):
  Calls prog 92 #[sv] w fun r w'=>∃ v',r=.returned v'/\Names w.heap.size w' v' (Cp.zas f zao ag [])/\Fr (fun _=>False) w w':=by
 have eM:=zan h6;obtain ⟨sa,sn,sc,rfl⟩:=zae h6;have fD:sn=zao.length:=by
  rcases h6.1.2 with ⟨h,h0⟩|⟨_,_,_,h0,_⟩
  ·cases h;exact h0.symm
  ·cases h0;rfl
 subst fD;have H3:=zab h3;have H4:=zab h4;have H5:=zab h5;have H6:=zab h6;have H7:=zab h7;have H8:=zab h8;have HB:=zab hb;have HG:=zab hg;clear h3 h4 h5 h6 h7 h8 hb hg;go_enter func92,ntmps92
 go_wp2_with fail
 go_loopg [3,8] zao.length (fun gk v iv wr=>∃ (k:Nat) (cur:List Cp.Nm),iv=.int .i64 k/\k+gk=zao.length/\Names w.heap.size wr v cur/\Cp.zas f (zao.drop k) (ag.drop k) cur=Cp.zas f zao ag []/\cur.length+((ag.drop k).map g).sum<=1000000/\Fr (fun _=>False) w wr)
 case atStart=>exact ⟨0,[],rfl,by omega,⟨World.ownsRow_nil _ _ _ _,by simp[Value.ownBlock]⟩,by simp,by simpa using HB.o,Fr.refl _ _⟩
 case round=>
  obtain ⟨k,cur,rfl,hk,fK,hE,hl,hf⟩:=hrel;obtain ⟨va,vn,vc,rfl⟩:=zae fK;have HC:=zab fK;have HE:=zab hE;have HL:=zab hl;have HF:=zab hf;by_cases aj:k<zao.length
  ·obtain ⟨gb,jw⟩:∃ gb,sa=some ⟨gb,0,none⟩:=by
    rcases eM with h|⟨g,cap,h⟩
    ·have:=(Value.slice.inj h).2.1;omega
    ·exact ⟨g,(Value.slice.inj h).1⟩
   subst jw;obtain ⟨a,ha⟩:∃ a,zao[k]?=some a:=⟨zao[k],zyM aj⟩;obtain ⟨p,hp⟩:∃ p,ag[k]?=some p:=⟨_,zyM (by rw[H3.o];exact aj)⟩;obtain ⟨nv,ay⟩:∃ nv,nvs[k]?=some nv:=⟨_,zyM (by rw[H4.o];exact aj)⟩;obtain ⟨bv,cC⟩:∃ bv,bvs[k]?=some bv:=⟨_,zyM (by rw[H5.o];exact aj)⟩;obtain ⟨hN,wX⟩:=H7.o k a nv ha ay;obtain ⟨⟨pt,px,rfl⟩,hB⟩:=H8.o k bv p cC hp;obtain ⟨np,nn,nc,rfl⟩:=zae hN;have aE:=zdx zao nvs bvs k a _ _ ha ay cC;have af:=(Row.frc H6.o hf (by simp)).1;have c0:=(af.cellAt (k*3) (by omega)).trans aE.1;have c1:=(af.cellAt (k*3+1) (by omega)).trans aE.2.1;have c2:=(af.cellAt (k*3+2) (by omega)).trans aE.2.2;have dF:(0:Int)<=(k:Int):=zzN _;have rA:zao.drop k=a::zao.drop (k+1):=by rw[zzs aj];rw[zyM aj]at ha;cases ha;rfl
   have jS:ag.drop k=p::ag.drop (k+1):=by
    have gu:k<ag.length:=by rw[H3.o];exact aj
    rw[zzs gu];rw[zyM gu]at hp;cases hp;rfl
   have gO:Cp.zas f (zao.drop (k+1)) (ag.drop (k+1)) (Cp.union cur (Cp.zaH (f p) (Th.texts a.2)))=Cp.zas f zao ag []:=by
    rw[<-hE,rA,jS,Cp.zas]
   have sN:=HG.o p;have aD:=Cp.zbp (f p) (Th.texts a.2);have eI:=Cp.zcP cur (Cp.zaH (f p) (Th.texts a.2));have rG:(Cp.union cur (Cp.zaH (f p) (Th.texts a.2))).length+((ag.drop (k+1)).map g).sum<=1000000:=by
    rw[jS,zza,zzd]at hl;omega
   have b1:Hid (cur.length<=1000000):=zab (by omega);have b2:Hid ((f p).length<=1000000/\(Cp.zaH (f p) (Th.texts a.2)).length<=1000000/\(Th.texts a.2).length<=1000000):=zab (by
    rw[jS,zza,zzd]at hl;exact ⟨by omega,by omega,by simpa [Th.texts] using wX⟩)
   have fU:=zab (And.intro gO rG);have C1:=zab (fun W (hW:Fr (fun _=>False) wr W)=>hB W (hf.trans hW));have C2:=zab (fun W (hW:Fr (fun _=>False) wr W)=>zd1 (Row.frc hN (hf.trans hW) (by simp)) wX);have B0:=zab (Blk.new wr [.int .i64 a.1,.slice np nn nc,.iface pt px] 240);have F0:Hid (Fr (fun _=>False) wr (wr.alloc (.cells #[.int .i64 a.1,.slice np nn nc,.iface pt px] 240))):=zab ((Fr.refl _ _).alloc _);clear fK hE hl hf ha hp ay cC hN wX hB aE af rA jS gO sN aD eI rG eM;go_wp2_with fail
   generalize wr.alloc (.cells #[.int .i64 a.1,.slice np nn nc,.iface pt px] 240)=w1 at B0 F0 ⊢;have B1:=B0;clear B0 c0 c1 c2;have FC:Hid (Fr (fun _=>False) w1 w1.drew):=zab (Fr.refl _ _).drew;have q1:=Blk.cell B1.o 1;have q2:=Blk.cell B1.o 2;simp at q1 q2
   go_region_held3 (fun W=>W.cell? ⟨wr.heap.size,1,none⟩=some (.slice np nn nc)/\W.cell? ⟨wr.heap.size,2,none⟩=some (.iface pt px)) (first|(refine ⟨?_,?_⟩ <;> assumption)|go_keep) (first
    |(go_at_call 89;with_reducible refine (C1.o _ (F0.o.trans FC.o)).mono ?_;rintro e wA ⟨Hq,rfl,tM,oK⟩;have dO:=zab (FC.o.trans oK);(try (have jA:=zab (RB.o.fr0 oK);clear RB;have RB:=jA;clear jA));have RA:=zab (tM.dwn (zy5 _));clear FC;have FC:=dO;clear dO;have zt:wA.cell? ⟨wr.heap.size,1,none⟩=some (.slice np nn nc):=(by simpa using Blk.cell (Fr.blk B1.o FC.o (by simp)) 1);have zw:wA.cell? ⟨wr.heap.size,2,none⟩=some (.iface pt px):=(by simpa using Blk.cell (Fr.blk B1.o FC.o (by simp)) 2);clear tM oK)
    |(go_at_call 52;with_reducible refine (C2.o _ (F0.o.trans FC.o)).mono ?_;rintro e wB ⟨Hu,rfl,tN,oL⟩;have dO:=zab (FC.o.trans oL);(try (have jz:=zab (RA.o.fr0 oL);clear RA;have RA:=jz;clear jz));have RB:=zab (tN.dwn (zy5 _));clear FC;have FC:=dO;clear dO;have zu:wB.cell? ⟨wr.heap.size,1,none⟩=some (.slice np nn nc):=(by simpa using Blk.cell (Fr.blk B1.o FC.o (by simp)) 1);have zx:wB.cell? ⟨wr.heap.size,2,none⟩=some (.iface pt px):=(by simpa using Blk.cell (Fr.blk B1.o FC.o (by simp)) 2);clear tN oL)
    |(go_at_call 152;refine (zcQ RA.o RB.o b2.o.1 b2.o.2.2).mono ?_;rintro e wW ⟨Hy,rfl,tO,rj⟩;have dO:=zab (FC.o.trans rj);have RW:=zab (tO.dwn (zy5 _));clear FC;have FC:=dO;clear dO;have zv:wW.cell? ⟨wr.heap.size,1,none⟩=some (.slice np nn nc):=(by simpa using Blk.cell (Fr.blk B1.o FC.o (by simp)) 1);have zy:wW.cell? ⟨wr.heap.size,2,none⟩=some (.iface pt px):=(by simpa using Blk.cell (Fr.blk B1.o FC.o (by simp)) 2);clear tO rj)
    |(go_at_call 150;refine (zdp (HC.o.fr0 (F0.o.trans FC.o)) RW.o b1.o b2.o.2.1).mono ?_;rintro e wU ⟨vu,rfl,ru,fu⟩;have FU:=zab (FC.o.trans fu);have jP:=zab FC.o.size;have RU:=zab (ru.dwn (zy5 _));have Dn:=zab ru;have uw:wU.cell? ⟨wr.heap.size,1,none⟩=some (.slice np nn nc):=(by simpa using Blk.cell (Fr.blk B1.o FU.o (by simp)) 1);have Gd:wU.cell? ⟨wr.heap.size,2,none⟩=some (.iface pt px):=(by simpa using Blk.cell (Fr.blk B1.o FU.o (by simp)) 2);clear ru fu))
   all_goals
    go_wp2_with fail
    go_roundg (zao.length-(k+1))
    case measure=>omega
    case rel=>
     refine ⟨k+1,_,by go_num,by omega,Dn.o.dwn ?_,fU.o.1,fU.o.2,HF.o.trans (F0.o.trans FU.o)⟩;exact zyR HF.o.size (zyR F0.o.size jP.o)
  ·have aG:k=zao.length:=by omega
   have hR:cur=Cp.zas f zao ag []:=by
    rw[<-hE,aG,List.drop_length,Cp.zas];simp
   have HR:=zab hR;clear fK hE hl hf aG eM hR;go_wp2_with fail
   go_ret
   exact ⟨_,rfl,HR.o ▸ HC.o,HF.o⟩
theorem zmm{S:Nat->Prop}{r:Bool}{l:List Th.Tok}{parts:List Th.Ex}{pvs:List Value}{bt:TypeId}{bx:Value}{lb:List Cp.Nm}{g:Th.Ex->Nat}(hg:∀ e,(f e).length<=g e)(h3:parts.length=l.length)(h4:pvs.length=l.length)(h6:Row S w 312 3 sv l.length (zaM l pvs))(h8:∀ (i:Nat) (bv:Value) (p:Th.Ex),pvs[i]?=some bv->parts[i]?=some p->(∃ t x,bv=.iface t x)/\zqd w bv (f p))(h9:zqd w (.iface bt bx) lb)(o5:lb.length<=1000000)(hb:(parts.map g).sum<=1000000)(aU:l.length<=1000000):
  Calls prog 151 #[.agg #[.bool r,sv,.iface bt bx]] w fun q w'=>∃ v',q=.returned v'/\Names w.heap.size w' v' (Cp.union (if r then Cp.zaH (Cp.zav f parts []) (Th.texts l) else Cp.zav f parts []) (Cp.zaH lb (Th.texts l)))/\Fr (fun _=>False) w w':=by
 have eM:=zan h6;obtain ⟨sa,sn,sc,rfl⟩:=zae h6;have fD:sn=l.length:=by
  rcases h6.1.2 with ⟨h,h0⟩|⟨_,_,_,h0,_⟩
  ·cases h;exact h0.symm
  ·cases h0;rfl
 subst fD;have bR:∀ (i:Nat) (pv:Value),pvs[i]?=some pv->pv.oneCell'=true:=fun i pv hp=>by
  have:i<parts.length:=by rw[h3,<-h4];exact (zyL.1 hp).1
  obtain ⟨⟨t,x,rfl⟩,_⟩:=h8 i pv parts[i] hp (zyM this);rfl
 have f0:Fr (fun _=>False) w (w.alloc (.cells #[.bool r,.slice sa l.length sc,.iface bt bx] 178)):=(Fr.refl _ _).alloc _;have ek:=zab (zcX (rb:=r) (bt:=bt) (bx:=bx) (Row.frc h6 f0 (by simp)) h4 bR aU);have yR:=zab (Blk.new w [.bool r,.slice sa l.length sc,.iface bt bx] 178);have F0:=zab f0;have H3:=zab h3;have H4:=zab h4;have H6:=zab h6;have H8:=zab h8;have H9:=zab h9;have HB:=zab hb;have HG:=zab hg;have mC:Hid ((Th.texts l).length<=1000000):=zab (by simpa [Th.texts] using aU);clear h3 h4 h6 h8 hb hg h9 bR f0;go_enter func151,ntmps151
 go_wp2_with fail
 refine ek.o.mono ?_;clear ek;rintro en w1 ⟨tv,rfl,eC,aA⟩;obtain ⟨ta,tn,tc,rfl⟩:=zaF eC;have f1:Fr (fun _=>False) (w.alloc (.cells #[.bool r,.slice sa l.length sc,.iface bt bx] 178)) w1:=Fr.below aA;have HT:Hid (Names 0 w1 (.slice ta tn tc) (Th.texts l)):=zab (Names.dwn (Row.zaE (by simpa [Th.texts] using eC)) (zy5 _));have my:=zab (Fr.blk yR.o f1 (by simp));have F1:=zab (F0.o.trans f1);have q1:=Blk.cell my.o 1;simp at q1;clear eC aA f1 yR F0;go_wp2_with fail
 clear q1
 go_loopg [4,12] l.length (fun gk v iv wr=>∃ (k:Nat) (cur:List Cp.Nm),iv=.int .i64 k/\k+gk=l.length/\Names w.heap.size wr v cur/\Cp.zav f (parts.drop k) cur=Cp.zav f parts []/\cur.length+((parts.drop k).map g).sum<=1000000/\Fr (fun _=>False) w1 wr)
 case atStart=>exact ⟨0,[],rfl,by omega,⟨World.ownsRow_nil _ _ _ _,by simp[Value.ownBlock]⟩,by simp,by simpa using HB.o,Fr.refl _ _⟩
 case round=>
  obtain ⟨k,cur,rfl,hk,fK,hE,hl,hf⟩:=hrel;obtain ⟨va,vn,vc,rfl⟩:=zae fK;have HC:=zab fK;have HE:=zab hE;have HL:=zab hl;have HF:=zab hf;by_cases aj:k<l.length
  ·obtain ⟨gb,jw⟩:∃ gb,sa=some ⟨gb,0,none⟩:=by
    rcases eM with h|⟨g,cap,h⟩
    ·have:=(Value.slice.inj h).2.1;omega
    ·exact ⟨g,(Value.slice.inj h).1⟩
   subst jw;obtain ⟨a,ha⟩:∃ a,l[k]?=some a:=⟨l[k],zyM aj⟩;obtain ⟨p,hp⟩:∃ p,parts[k]?=some p:=⟨_,zyM (by rw[H3.o];exact aj)⟩;obtain ⟨bv,cC⟩:∃ bv,pvs[k]?=some bv:=⟨_,zyM (by rw[H4.o];exact aj)⟩;obtain ⟨⟨pt,px,rfl⟩,hB⟩:=H8.o k bv p cC hp;have aE:=zbA l pvs k a _ ha cC;have af:=(Row.frc H6.o (F1.o.trans hf) (by simp)).1;have c0:=(af.cellAt (k*3) (by omega)).trans aE.1;have c1:=(af.cellAt (k*3+1) (by omega)).trans aE.2.1;have c2:=(af.cellAt (k*3+2) (by omega)).trans aE.2.2;have dF:(0:Int)<=(k:Int):=zzN _;have jS:parts.drop k=p::parts.drop (k+1):=by
    have gu:k<parts.length:=by rw[H3.o];exact aj
    rw[zzs gu];rw[zyM gu]at hp;cases hp;rfl
   have gO:Cp.zav f (parts.drop (k+1)) (Cp.union cur (f p))=Cp.zav f parts []:=by
    rw[<-hE,jS,Cp.zav]
   have sN:=HG.o p;have eI:=Cp.zcP cur (f p);have rG:(Cp.union cur (f p)).length+((parts.drop (k+1)).map g).sum<=1000000:=by
    rw[jS,zza,zzd]at hl;omega
   have b1:Hid (cur.length<=1000000):=zab (by omega);have b2:Hid ((f p).length<=1000000):=zab (by
    rw[jS,zza,zzd]at hl;omega)
   have fU:=zab (And.intro gO rG);have C1:=zab (fun W (hW:Fr (fun _=>False) wr W)=>hB W (F1.o.trans (hf.trans hW)));have F2:Hid (Fr (fun _=>False) wr (wr.alloc (.cells #[.string ⟨a.s.toArray⟩,.int .i64 a.at_,.iface pt px] 312))):=zab ((Fr.refl _ _).alloc _);clear fK hE hl hf ha hp cC hB aE af jS gO sN eI rG eM;go_wp2_with fail
   refine (C1.o _ F2.o).mono ?_;rintro e wA ⟨vx,rfl,ra,fa⟩;obtain ⟨xa,xn,xc,rfl⟩:=zae ra;have RA:=zab ra;have FA:=zab (F2.o.trans fa);clear ra fa c0 c1 c2;go_wp2_with fail
   refine (zdp (HC.o.fr0 FA.o) RA.o b1.o b2.o).mono ?_;rintro e wU ⟨vu,rfl,ru,fu⟩;have RU:=zab ru;have FU:=zab fu;clear ru fu;go_wp2_with fail
   go_roundg (l.length-(k+1))
   case measure=>omega
   case rel=>
    refine ⟨k+1,_,by go_num,by omega,RU.o.dwn ?_,fU.o.1,fU.o.2,HF.o.trans (FA.o.trans FU.o)⟩;exact zyR F1.o.size (zyR HF.o.size FA.o.size)
  ·have aG:k=l.length:=by omega
   have hR:cur=Cp.zav f parts []:=by
    rw[<-hE,aG,<-H3.o,List.drop_length,Cp.zav]
   have wY:Hid (cur.length<=1000000):=zab (by omega);have HR:=zab hR;have fU:=zab (Fr.blk my.o hf (by simp));have e0:=Blk.cell fU.o 0;have e2:=Blk.cell fU.o 2;simp at e0 e2;have C1:=zab (fun W (hW:Fr (fun _=>False) wr W)=>H9.o W (F1.o.trans (HF.o.trans hW)));have zd:=zab (zyR F1.o.size HF.o.size);clear fK hE hl hf aG eM hR;cases r
   ·have hR:=HR.o;subst hR;have FZ:=zab (Fr.refl (fun _=>False) wr);have LZ:=zab (HC.o.dwn (zy5 _));have LN:=wY;go_wp2_with fail
    refine (C1.o _ FZ.o).mono ?_;rintro e wA ⟨vx,rfl,ra,fa⟩;obtain ⟨xa,xn,xc,rfl⟩:=zae ra;have RA:=zab ra;have FA:=zab (FZ.o.trans fa);have LC:=zab (LZ.o.fr0 fa);clear ra fa e0 e2;go_wp2_with fail
    refine (zcQ RA.o (HT.o.fr0 (HF.o.trans FA.o)) o5 mC.o).mono ?_;rintro e wB ⟨vx,rfl,ra,fa⟩;obtain ⟨ya,yn,yc,rfl⟩:=zae ra;have RB:=zab ra;have FB:=zab (FA.o.trans fa);have LD:=zab (LC.o.fr0 fa);clear ra fa;go_wp2_with fail
    refine (zdp LD.o RB.o LN.o (zyR (Cp.zbp _ _) o5)).mono ?_;rintro e wU ⟨vu,rfl,ru,fu⟩;have RU:=zab ru;have FU:=zab fu;clear ru fu;go_wp2_with fail
    go_ret
    refine ⟨_,rfl,?_,F1.o.trans (HF.o.trans (FB.o.trans FU.o))⟩;exact Names.dwn RU.o (zyR zd.o FB.o.size)
   ·have hR:=HR.o;subst hR;go_wp2_with fail
    refine (zcQ HC.o (HT.o.fr0 HF.o) wY.o mC.o).mono ?_;rintro e wz ⟨vx,rfl,rz,fz⟩;obtain ⟨za,zn,zc,rfl⟩:=zae rz;have LZ:=zab (rz.dwn (zy5 _));have FZ:=zab fz;have LN:=zab (zyR (Cp.zbp (Cp.zav f parts []) (Th.texts l)) wY.o);clear rz e0 e2;have yS:=zab (Fr.blk fU.o fz (by simp));have e0:=Blk.cell yS.o 0;have e2:=Blk.cell yS.o 2;simp at e0 e2;clear fz;go_wp2_with fail
    refine (C1.o _ FZ.o).mono ?_;rintro e wA ⟨vx,rfl,ra,fa⟩;obtain ⟨xa,xn,xc,rfl⟩:=zae ra;have RA:=zab ra;have FA:=zab (FZ.o.trans fa);have LC:=zab (LZ.o.fr0 fa);clear ra fa e0 e2;go_wp2_with fail
    refine (zcQ RA.o (HT.o.fr0 (HF.o.trans FA.o)) o5 mC.o).mono ?_;rintro e wB ⟨vx,rfl,ra,fa⟩;obtain ⟨ya,yn,yc,rfl⟩:=zae ra;have RB:=zab ra;have FB:=zab (FA.o.trans fa);have LD:=zab (LC.o.fr0 fa);clear ra fa;go_wp2_with fail
    refine (zdp LD.o RB.o LN.o (zyR (Cp.zbp _ _) o5)).mono ?_;rintro e wU ⟨vu,rfl,ru,fu⟩;have RU:=zab ru;have FU:=zab fu;clear ru fu;go_wp2_with fail
    go_ret
    refine ⟨_,rfl,?_,F1.o.trans (HF.o.trans (FB.o.trans FU.o))⟩;exact Names.dwn RU.o (zyR zd.o FB.o.size)
variable {m:Nat}{l:List Cp.Nm}
theorem zvy{t1:TypeId}{x1:Value}{p:Option Addr}{cp:Nat}{r:Bool}(c1:∀ W,Fr (fun _=>False) w W->Calls prog 151 #[.agg #[.bool r,.slice p m cp,.iface t1 x1]] W fun r w'=>∃ v',r=.returned v'/\Names W.heap.size w' v' l/\Fr (fun _=>False) W w'):
  Calls prog 89 #[.iface 178 (.agg #[.bool r,.slice p m cp,.iface t1 x1])] w fun r w'=>∃ v',r=.returned v'/\Names w.heap.size w' v' l/\Fr (fun _=>False) w w':=by
 have C1:=zab c1;clear c1;obtain ⟨i3,i0,-,-,i1,i2,-⟩:=zG5;have F0:Hid (Fr (fun _=>False) w (w.alloc (.cells #[.bool r,.slice p m cp,.iface t1 x1] 178))):=zab ((Fr.refl _ _).alloc _);go_enter func89,ntmps89
 go_wp2_with fail
 refine (C1.o _ F0.o).mono ?_;rintro e wA ⟨vx,rfl,ra,fa⟩;have RA:=zab ra;have FA:=zab fa;clear ra fa i0 i1 i2 i3;go_wp2_with fail
 go_ret
 exact ⟨_,rfl,RA.o.dwn F0.o.size,F0.o.trans FA.o⟩
theorem zpX{g:Th.Ex->Nat}:∀ {l:List Th.Ex} {k:Nat} {p:Th.Ex},l[k]?=some p->g p<=(l.map g).sum
 |[],k,p,h=>by simp at h
 |a::l,0,p,h=>by simp at h;subst h;simp
 |a::l,k+1,p,h=>by
  have:=zpX (g:=g) (l:=l) (k:=k) (p:=p) (by simpa using h);simp;omega
theorem ziL:∀ {l:List (Nat × List Th.Tok)} {k:Nat} {a:Nat × List Th.Tok},l[k]?=some a->1+a.2.length<=(l.map fun a=>1+a.2.length).sum
 |[],k,p,h=>by simp at h
 |a::l,0,p,h=>by simp at h;subst h;simp
 |a::l,k+1,p,h=>by
  have:=ziL (l:=l) (k:=k) (a:=p) (by simpa using h);simp;omega
theorem zl4:∀ (l:List (Nat × List Th.Tok)),l.length<=(l.map fun a=>1+a.2.length).sum
 |[]=>by simp
 |a::l=>by
  have:=zl4 l;simp;omega
theorem zgU(n:Nat):zye n:=by
 induction n with
 |zero=>intro S w v e h;exact h.elim
 |succ n ih=>
  intro S w v e h hw;have at_:∀ {bv:Value} {b:Th.Ex},Rep S w n bv b->Cp.wt n b<=1000000->zqd w bv (Cp.free n b):=fun hr hb W hW=>ih (hr.fr0 hW) hb
  have fl:=Cp.zaZ n;rw[Cp.wt]at hw;rcases h with ⟨hk,rfl⟩|⟨hk,rfl⟩|⟨hk,rfl⟩|⟨hk,sv,bv,b,h1,rfl,h3,h4⟩|⟨hk,v1,v2,e1,e2,h1,rfl,h3,h4⟩|⟨hk,v1,v2,e1,e2,h1,rfl,h3,h4⟩|⟨hk,sv,bv,b,parts,pvs,h1,rfl,h3,h4,h5,h6,h7⟩|⟨hk,cv,sv,b,ag,nvs,bvs,h1,rfl,h3,h4,h5,h6,h7,h8,h9⟩
  ·rw[show Cp.free (n+1) e=[] by simp[Cp.free,hk]];exact zpt
  ·rw[show Cp.free (n+1) e=[e.tok.s] by simp[Cp.free,hk]];exact zvz
  ·rw[show Cp.free (n+1) e=[] by simp[Cp.free,hk]];exact zrw
  ·obtain ⟨t,x,rfl⟩:=zah h4;obtain ⟨a,m,c,rfl⟩:=zae h3;rw[show Cp.free (n+1) e=Cp.zaH (Cp.free n b) (Th.texts e.names) by simp[Cp.free,hk,h1]];rw[h1]at hw;simp at hw;have:=fl b;refine zps (by omega) (by simp[Th.texts];omega) (at_ h4 (by omega)) (fun W hW=>?_);exact zd1 (Row.frc h3 hW (by simp)) (by omega)
  ·obtain ⟨t,x,rfl⟩:=zah h3;obtain ⟨t2,x2,rfl⟩:=zah h4;rw[show Cp.free (n+1) e=Cp.union (Cp.free n e1) (Cp.free n e2) by simp[Cp.free,hk,h1]];rw[h1]at hw;simp at hw;have:=fl e1;have:=fl e2;exact ztb (by omega) (by omega) (at_ h3 (by omega)) (at_ h4 (by omega))
  ·obtain ⟨t,x,rfl⟩:=zah h3;obtain ⟨t2,x2,rfl⟩:=zah h4;rw[show Cp.free (n+1) e=Cp.union (Cp.free n e1) (Cp.free n e2) by simp[Cp.free,hk,h1]];rw[h1]at hw;simp at hw;have:=fl e1;have:=fl e2;exact zkB (by omega) (by omega) (at_ h3 (by omega)) (at_ h4 (by omega))
  ·obtain ⟨t,x,rfl⟩:=zah h7;obtain ⟨a,m,c,rfl⟩:=zae h5;have hE:Cp.free (n+1) e=Cp.union (if (e.kind == 8)=true then Cp.zaH (Cp.zav (Cp.free n) parts []) (Th.texts e.names) else Cp.zav (Cp.free n) parts []) (Cp.zaH (Cp.free n b) (Th.texts e.names)):=by
    rcases hk with hk|hk <;> simp[Cp.free,hk,h1]
   rw[hE];rw[h1]at hw;simp only[zza,zzd]at hw;have:=fl b;refine zvy (fun W hW=>?_);refine zmm fl h3 h4 (Row.frc h5 hW (by simp)) (fun i bv p hi hp=>⟨zah (h6 i bv p hi hp),fun W' bQ=>?_⟩) (fun W' bQ=>ih (h7.fr0 (hW.trans bQ)) (by omega)) (by omega) (by omega) (by omega);exact ih ((h6 i bv p hi hp).fr0 (hW.trans bQ)) (by have:=zpX (g:=Cp.wt n) hp;omega)
  ·obtain ⟨t,x,rfl⟩:=zah h9;obtain ⟨a,m,c,rfl⟩:=zae h6;rw[show Cp.free (n+1) e=Cp.union (Cp.free n b) (Cp.zas (Cp.free n) e.zao ag []) by simp[Cp.free,hk,h1]];rw[h1]at hw;simp only[zza,zzd]at hw;have:=fl b;have:=zl4 e.zao;have:=Cp.zbN (Cp.free n) (Cp.wt n) fl e.zao ag [];simp only[zzm,zzG]at this;refine ztc (by omega) (by omega) (at_ h9 (by omega)) (fun W hW=>?_);refine zf8 fl h3 h4 h5 (Row.frc h6 hW (by simp)) (fun i a nv hi hv=>⟨Row.frc (h7 i a nv hi hv) hW (by simp),by have:=ziL hi;omega⟩) (fun i bv p hi hp=>⟨zah (h8 i bv p hi hp),fun W' bQ=>?_⟩) (by omega) (by omega);exact ih ((h8 i bv p hi hp).fr0 (hW.trans bQ)) (by have:=zpX (g:=Cp.wt n) hp;omega)
variable {g:Nat}{x:Value}{l1:List (List UInt8)}{S1:Nat->Prop}
theorem zpq(hb:Blk w g [x] 38)(hx:Row S1 w 9 1 x l1.length (strCells l1))(h1:l1.length<=1000000):
  Calls prog 72 #[.slice (some ⟨g,0,none⟩) 1 1] w fun e w'=>∃ v,e=.returned v/\w'.ownsRow w.heap.size 9 1 v l1.length (strCells l1)/\Below w.heap.size w w':=by
 have hl:=hb.lt;have H:=zab hb;have c0:=Blk.cell hb 0;simp at c0;have HX:=zab hx;have oc:=zan hx;clear hb hx;have cX:Hid (x=.slice none 0 0->l1.length=0):=zab (fun h=>by
  rcases HX.o.1.2 with ⟨_,h0⟩|⟨_,_,_,h0,_⟩
  ·exact h0
  ·rw[h]at h0;cases h0)
 obtain ⟨xa,n1,xc,rfl,cR⟩:∃ xa n1 xc,x=.slice xa n1 xc/\n1=l1.length:=by
  rcases oc with h|⟨g1,c1,h⟩
  ·exact ⟨_,_,_,h,(cX.o h).symm⟩
  ·exact ⟨_,_,_,h,rfl⟩
 have xM:n1<=1000000:=by omega
 have HN:=zab cR;clear cR oc h1 cX;go_enter func72,ntmps72
 go_wp2_with fail
 refine wp_loop_rounds 2 ?_;rw[rounds_succ];go_wp2_with fail
 rw[rounds_succ];go_wp2_with fail
 have pY:=zqx w n1 (by omega);refine pY.mono ?_;clear pY;rintro e w1 ⟨v,rfl,ai,hb⟩;have d0:w1.cell? ⟨g,0,none⟩=some (.slice xa n1 xc):=(World.cell?_of_block (hb.block g hl)).trans c0;have HO:Hid (w1.ownsRow w.heap.size 9 1 v ([]:List (List UInt8)).length (strCells [])):=zab ai;have kM:=HX.o.gb (zaf none hb) (by simp);have Hb:=zab hb;have cT:=hb.size;rcases zan (Row.zaE ai) with rfl|⟨g2,fI,rfl⟩
 all_goals
  clear ai hb c0;go_wp2_with fail
  refine wp_loop_rounds 2 ?_;rw[rounds_succ];go_wp2_with (at_builtin;refine zfG rfl _ _ rfl rfl rfl HO.o kM (by simp) (by have:=HN.o;omega) (by omega) ?_;intro v2 w2 bB fL)
  have HG:Hid (w.grownBy w2 none):=zab (zjh (zaf none Hb.o) HO.o fL);rw[zzb]at bB;have mA:=zab bB;have aI:=zan (Row.zaE bB);clear fL bB d0 kM HO;rcases aI with rfl|⟨g3,wq,rfl⟩
  all_goals
   rw[rounds_succ];go_wp2_with fail
   go_ret
   exact ⟨_,rfl,mA.o,zbk HG.o⟩
variable {v:Value}
theorem zjI{B:Nat}{w0:World}(h:w.ownsRow B 9 1 v l.length (strCells l))(hl:l.length<=1000000)(hb:Below B w0 w):
  Calls prog 86 #[v] w fun e w'=>e=.returned (.tuple #[])/\w'.ownsRow B 9 1 v l.reverse.length (strCells l.reverse)/\Below B w0 w':=by
 rcases zan (Row.zaE h) with rfl|⟨g,cap,rfl⟩
 ·refine (Tryz.slices_Reverse_string_empty none 0 w).mono ?_;rintro e w' ⟨rfl,rfl⟩;have h0:l=[]:=by
   rcases h.2 with ⟨_,h0⟩|⟨_,_,_,h0,_⟩
   ·exact zzn.1 h0
   ·cases h0
  subst h0;exact ⟨rfl,h,hb⟩
 ·have h':w.ownsRow B 9 1 (.slice (some ⟨g,0,none⟩) l.length cap) l.length (l.map encStr):=h;obtain ⟨g',dU,he,hg,aj,hn,hm,hz,hH⟩:=Go.Lib.holds_of_ownsRow h' (by simp);cases he;refine (Tryz.slices_Reverse_string g 0 cap l w hH (by omega)).mono ?_;rintro e w' ⟨rfl,n,rfl⟩;refine ⟨rfl,?_,Go.Lib.below_putRow hb hg⟩;have:=Go.Lib.ownsRow_putRow (q:=n) (k:=l.length) (ys:=l.reverse) h' (by simp) (zyN _);rw[zy9 (by simp)]at this;rw[zy4];exact this
theorem zlp(hb:Blk w g [x] 38)(hx:Row S1 w 9 1 x l1.length (strCells l1))(h1:l1.length<=1000000):
  Calls prog 51 #[.slice (some ⟨g,0,none⟩) 1 1] w fun e w'=>∃ v,e=.returned v/\Names w.heap.size w' v (l1).reverse/\Fr (fun _=>False) w w':=by
 have CC:=zab (zpq hb hx h1);clear hb hx;go_enter func51,ntmps51
 go_wp2_with fail
 refine CC.o.mono ?_;clear CC;rintro e w1 ⟨v,rfl,ai,dw⟩;obtain ⟨va,vn,vc,rfl⟩:=zaF ai;have CR:=zab (zjI ai h1 dw);clear ai dw;go_wp2_with fail
 refine CR.o.mono ?_;clear CR;rintro e w2 ⟨rfl,ai,dw⟩;have HO:=zab ai;have HB:=zab dw;clear ai dw;go_wp2_with fail
 go_ret
 exact ⟨_,rfl,Row.zaE HO.o,Fr.below HB.o⟩
theorem zdR{y:Value}{l2:List (List UInt8)}{S2:Nat->Prop}(hb:Blk w g [x,y] 38)(hx:Row S1 w 9 1 x l1.length (strCells l1))(hy:Row S2 w 9 1 y l2.length (strCells l2))(h1:l1.length+l2.length<=1000000):
  Calls prog 51 #[.slice (some ⟨g,0,none⟩) 2 2] w fun e w'=>∃ v,e=.returned v/\Names w.heap.size w' v (l1++l2).reverse/\Fr (fun _=>False) w w':=by
 have CC:=zab (zlj hb hx hy (by omega) (by omega));clear hb hx hy;go_enter func51,ntmps51
 go_wp2_with fail
 refine CC.o.mono ?_;clear CC;rintro e w1 ⟨v,rfl,ai,dw⟩;obtain ⟨va,vn,vc,rfl⟩:=zaF ai;have CR:=zab (zjI ai (by rw[zyT];exact h1) dw);clear ai dw;go_wp2_with fail
 refine CR.o.mono ?_;clear CR;rintro e w2 ⟨rfl,ai,dw⟩;have HO:=zab ai;have HB:=zab dw;clear ai dw;go_wp2_with fail
 go_ret
 exact ⟨_,rfl,Row.zaE HO.o,Fr.below HB.o⟩
end Go.Proofs.YtgahgkddaljmkaaGreatDoor
namespace Go.Proofs.YtgahgkddaljmkaaGreatDoor
open Tryz
open Go.RowKit
theorem Rep.frz{Z Z' K:Nat->Prop}{w w':World}{n:Nat}{v:Value}{e:Th.Ex}(h:Rep Z w n v e)(f:Fr K w w')(hK:∀ k,k<w.heap.size->Z k->¬ K k)(hZ:∀ k,k<w.heap.size->Z k->Z' k):Rep Z' w' n v e:=
 Rep.imp (fun _ _ _ _ _ hR=>hR.frz f hK hZ) n v e h
structure CS (Z:Nat->Prop) (w:World) (cb:Nat) (rv:Value) (fns:List Cp.Nm) (bl:List (Nat × List Ins)):Prop where
 zkt:∃ fv,Blk w cb [fv,rv] 86/\Row Z w 9 1 fv fns.length (strCells fns)
 zkI:∃ cP,cP.length=bl.length/\w.ownsRow 0 96 2 rv bl.length (zaz bl cP)/\∀ (i:Nat) (b:Nat × List Ins) (cv:Value),bl[i]?=some b->cP[i]?=some cv->zir Z w cv b.2
 zlt:∀ k,Z k->k<w.heap.size
 zk:∀ k,Z k->k≠cb/\rv.ownBlock≠some k
 rc:rv.ownBlock≠some cb
variable {Z:Nat->Prop}{w:World}{cb bb:Nat}{rv sv kv:Value}{fns:List Cp.Nm}{q:Cp.Bs}
theorem BS.cs(h:BS Z w cb bb rv sv kv fns q):CS Z w cb rv fns q.blocks:=
 ⟨h.zkt,h.zkI,h.zlt,fun k hk=>⟨fun e=>h.zk k hk (.inl e),fun e=>h.zk k hk (.inr (.inr (.inl e)))⟩,h.rc.1⟩
variable {bl:List (Nat × List Ins)}
theorem CS.clt(h:CS Z w cb rv fns bl):cb<w.heap.size:=by obtain ⟨fv,h1,_⟩:=h.zkt;exact h1.lt
theorem CS.rlt(h:CS Z w cb rv fns bl):∀ k,rv.ownBlock=some k->k<w.heap.size:=by obtain ⟨cP,_,h2,_⟩:=h.zkI;exact fun k hk=>(h2.lt k hk).2
variable {K:Nat->Prop}{w':World}
theorem CS.frk(h:CS Z w cb rv fns bl)(f:Fr K w w')(hK:∀ k,Z k\/k=cb\/rv.ownBlock=some k->¬ K k):CS Z w' cb rv fns bl:=by
 obtain ⟨fv,bH,bT⟩:=h.zkt;obtain ⟨cP,dd,cg,jc⟩:=h.zkI;have hz:∀ k,k<w.heap.size->Z k->¬ K k:=fun k _ hk=>hK k (.inl hk)
 exact ⟨⟨fv,Fr.blk bH f (hK cb (.inr (.inl rfl))),bT.frz f hz (fun _ _ x=>x)⟩,⟨cP,dd,f.gb cg (fun k hk=>hK k (.inr (.inr hk))),fun i b cv h1 h2=>(jc i b cv h1 h2).frz f hz (fun _ _ x=>x)⟩,fun k hk=>zyS (h.zlt k hk) f.size,h.zk,h.rc⟩
theorem BS.frk{Z K:Nat->Prop}{w w':World}{cb bb:Nat}{rv sv kv:Value}{fns:List Cp.Nm}{q:Cp.Bs}(h:BS Z w cb bb rv sv kv fns q)(f:Fr K w w')(hK:∀ k,Z k\/KL cb bb rv sv kv k->¬ K k):BS Z w' cb bb rv sv kv fns q:=by
 have hc:=h.cs.frk f (fun k hk=>hK k (by
  rcases hk with hk|hk|hk
  ·exact .inl hk
  ·exact .inr (.inl hk)
  ·exact .inr (.inr (.inr (.inl hk)))))
 obtain ⟨vs,cK,aG⟩:=h.znV;exact ⟨hc.zkt,Fr.blk h.zbY f (hK bb (.inr (.inr (.inl rfl)))),hc.zkI,f.gb h.ziW (fun k hk=>hK k (.inr (.inr (.inr (.inr (.inl hk)))))),⟨vs,f.gb cK (fun k hk=>hK k (.inr (.inr (.inr (.inr (.inr hk)))))),aG.frz f (fun k _ hk=>hK k (.inl hk)) (fun _ _ x=>x)⟩,hc.zlt,h.zk,h.ne,h.rc,h.sc,h.kc,h.rs,h.rk,h.sk⟩
theorem CS.fr0(h:CS Z w cb rv fns bl)(f:Fr (fun _=>False) w w'):CS Z w' cb rv fns bl:=h.frk f (by simp)
theorem CS.more{A:Nat->Prop}(h:CS Z w cb rv fns bl)(hA:∀ k,A k->k<w.heap.size/\k≠cb/\rv.ownBlock≠some k):CS (fun k=>Z k\/A k) w cb rv fns bl:=by
 obtain ⟨fv,bH,bT⟩:=h.zkt;obtain ⟨cP,dd,cg,jc⟩:=h.zkI;refine ⟨⟨fv,bH,bT.frz (Fr.refl (fun _=>False) _) (by simp) (fun _ _ x=>.inl x)⟩,⟨cP,dd,cg,fun i b cv h1 h2=>(jc i b cv h1 h2).frz (Fr.refl (fun _=>False) _) (by simp) (fun _ _ x=>.inl x)⟩,?_,?_,h.rc⟩
 ·rintro k (hk|hk)
  ·exact h.zlt k hk
  ·exact (hA k hk).1
 ·rintro k (hk|hk)
  ·exact h.zk k hk
  ·exact (hA k hk).2
theorem BS.more{Z A:Nat->Prop}{w:World}{cb bb:Nat}{rv sv kv:Value}{fns:List Cp.Nm}{q:Cp.Bs}(h:BS Z w cb bb rv sv kv fns q)(hA:∀ k,A k->k<w.heap.size/\¬ KL cb bb rv sv kv k):BS (fun k=>Z k\/A k) w cb bb rv sv kv fns q:=by
 have hc:=h.cs.more (A:=A) (fun k hk=>⟨(hA k hk).1,fun e=>(hA k hk).2 (.inl e),fun e=>(hA k hk).2 (.inr (.inr (.inl e)))⟩);obtain ⟨vs,cK,aG⟩:=h.znV;refine ⟨hc.zkt,h.zbY,hc.zkI,h.ziW,⟨vs,cK,aG.frz (Fr.refl (fun _=>False) _) (by simp) (fun _ _ x=>.inl x)⟩,hc.zlt,?_,h.ne,h.rc,h.sc,h.kc,h.rs,h.rk,h.sk⟩;rintro k (hk|hk)
 ·exact h.zk k hk
 ·exact (hA k hk).2
variable {sl:List Cp.Nm}
theorem CS.bs(h:CS Z w cb rv fns bl)(hb:Blk w bb [.pointer (some ⟨cb,0,none⟩),sv,.slice none 0 0] 159)(hs:w.ownsRow 0 9 1 sv sl.length (strCells sl))(h1:bb≠cb/\rv.ownBlock≠some bb/\¬ Z bb)(h2:∀ k,sv.ownBlock=some k->k≠cb/\k≠bb/\rv.ownBlock≠some k/\¬ Z k):BS Z w cb bb rv sv (.slice none 0 0) fns ⟨bl,sl,[]⟩:=by
 refine ⟨h.zkt,hb,h.zkI,hs,⟨[],World.ownsRow_nil _ _ _ _,rfl,by simp⟩,h.zlt,?_,fun e=>h1.1 e.symm,⟨h.rc,h1.2.1⟩,⟨fun e=>(h2 cb e).1 rfl,fun e=>(h2 bb e).2.1 rfl⟩,⟨by simp[Value.ownBlock],by simp[Value.ownBlock]⟩,fun k hk e=>(h2 k e).2.2.1 hk,by simp[Value.ownBlock],by simp[Value.ownBlock]⟩;rintro k hk (e|e|e|e|e)
 ·exact (h.zk k hk).1 e
 ·exact h1.2.2 (e ▸ hk)
 ·exact (h.zk k hk).2 e
 ·exact (h2 k e).2.2.2 hk
 ·cases e
def zfH (Z:Nat->Prop) (w:World) (cb:Nat) (rv:Value) (fns:List Cp.Nm) (bl:List (Nat × List Ins)) (w':World):Prop:=
 ∃ Z' aO,(∀ k,k<w.heap.size->(Z' k↔Z k))/\CS Z' w' cb aO fns bl/\Fr (fun k=>k=cb\/rv.ownBlock=some k) w w'/\New w rv aO
theorem zfH.did(d:zfH Z w cb rv fns bl w')(h:BS Z w cb bb rv sv kv fns q):Did Z w cb bb rv sv kv fns ⟨bl,q.zac,q.code⟩ w':=by
 obtain ⟨Z',aO,e1,e2,e3,e4⟩:=d;obtain ⟨vs,cK,aG⟩:=h.znV;have hs:=h.slt;have hk:=h.klt;have cV:=h.zbY.lt;have hm:∀ k,k=cb\/rv.ownBlock=some k->KL cb bb rv sv kv k:=fun k hk=>by
  rcases hk with hk|hk
  ·exact .inl hk
  ·exact .inr (.inr (.inl hk))
 have iJ:¬ (bb=cb\/rv.ownBlock=some bb):=by
  rintro (e|e)
  ·exact h.ne e.symm
  ·exact h.rc.2 e
 have xR:∀ k,sv.ownBlock=some k->¬ (k=cb\/rv.ownBlock=some k):=by
  rintro k e1 (e|e)
  ·exact h.sc.1 (e ▸ e1)
  ·exact h.rs k e e1
 have xO:∀ k,kv.ownBlock=some k->¬ (k=cb\/rv.ownBlock=some k):=by
  rintro k e1 (e|e)
  ·exact h.kc.1 (e ▸ e1)
  ·exact h.rk k e e1
 refine ⟨Z',aO,sv,kv,e1,⟨e2.zkt,Fr.blk h.zbY e3 iJ,e2.zkI,e3.gb h.ziW xR,⟨vs,e3.gb cK xO,aG.frz e3 ?_ (fun k hk hz=>(e1 k hk).2 hz)⟩,e2.zlt,?_,h.ne,⟨e2.rc,?_⟩,h.sc,h.kc,?_,?_,h.sk⟩,e3.mono hm,e4,New.refl _ _,New.refl _ _⟩
 ·exact fun k _ hz he=>h.zk k hz (hm k he)
 ·rintro k hz (e|e|e|e|e)
  ·exact (e2.zk k hz).1 e
  ·subst e;exact h.zk k ((e1 k cV).1 hz) (.inr (.inl rfl))
  ·exact (e2.zk k hz).2 e
  ·exact h.zk k ((e1 k (hs k e)).1 hz) (.inr (.inr (.inr (.inl e))))
  ·exact h.zk k ((e1 k (hk k e)).1 hz) (.inr (.inr (.inr (.inr e))))
 ·intro e;rcases e4 bb e with e|e
  ·exact h.rc.2 e
  ·omega
 ·intro k e e';rcases e4 k e with e|e
  ·exact h.rs k e e'
  ·have:=hs k e';omega
 ·intro k e e';rcases e4 k e with e|e
  ·exact h.rk k e e'
  ·have:=hk k e';omega
theorem BS.done(h:BS Z w cb bb rv sv kv fns q):CS (fun k=>Z k\/kv.ownBlock=some k) w cb rv fns q.blocks/\zir (fun k=>Z k\/kv.ownBlock=some k) w kv q.code:=by
 obtain ⟨vs,cK,aG⟩:=h.znV;refine ⟨h.cs.more (A:=fun k=>kv.ownBlock=some k) (fun k hk=>⟨h.klt k hk,fun e=>h.kc.1 (e ▸ hk),fun e=>h.rk k e hk⟩),vs,⟨cK,fun k hk=>.inr hk⟩,aG.frz (Fr.refl (fun _=>False) _) (by simp) (fun _ _ x=>.inl x)⟩
end Go.Proofs.YtgahgkddaljmkaaGreatDoor
namespace Go.Proofs.YtgahgkddaljmkaaGreatDoor
open Tryz
open Go.RowKit Go.Shelf
attribute [local go_sem ↓] Go.wp_at_zero Go.wp_at_succ
def WrOK (Z:Nat->Prop) (w:World) (cb:Nat) (rv sv:Value) (fns sl:List Cp.Nm) (bl:List (Nat × List Ins)) (gf:Nat) (lb:Array Value) (q:Cp.Bs):Prop:=
 ∀ W bb,Fr (fun _=>False) w W->BS Z W cb bb rv sv (.slice none 0 0) fns ⟨bl,sl,[]⟩->Calls prog gf (#[.pointer (some ⟨bb,0,none⟩)]++lb) W fun e w'=>e=.returned (.tuple #[])/\Did Z W cb bb rv sv (.slice none 0 0) fns q w'
variable {Z:Nat->Prop}{w:World}{cb:Nat}{rv sv:Value}{fns sl:List Cp.Nm}{bl:List (Nat × List Ins)}{q:Cp.Bs}
theorem znu{gf:Nat}{lb:Array Value}(eg:∀ args w,(callFunc gf args).run prog w=.ok (.enter gf args) w)(h:CS Z w cb rv fns bl)(hs:w.ownsRow 0 9 1 sv sl.length (strCells sl))(bA:∀ k,sv.ownBlock=some k->k≠cb/\rv.ownBlock≠some k/\¬ Z k)(hw:WrOK Z w cb rv sv fns sl bl gf lb q):
  Calls prog 50 #[.pointer (some ⟨cb,0,none⟩),sv,.func (.func gf) #[] lb] w fun e w'=>∃ Z' bb aO sv' bG,e=.returned (.agg #[.int .i64 sl.length,bG])/\(∀ k,k<w.heap.size->(Z' k↔Z k))/\BS Z' w' cb bb aO sv' bG fns q /\
   Fr (fun k=>k=cb\/rv.ownBlock=some k\/sv.ownBlock=some k) w w'/\New w rv aO/\(∀ k,bG.ownBlock=some k->w.heap.size<=k):=by
 obtain ⟨sp,sc,sg,rfl,_⟩:=zaO hs;have aj:∀ k,(Value.slice sp sl.length sc).ownBlock=some k->k<w.heap.size:=fun k hk=>(hs.lt k hk).2
 have f0:Fr (fun _=>False) w ((w.alloc (.cells #[.int .i64 0,.slice none 0 0] 96)).alloc (.cells #[.pointer (some ⟨cb,0,none⟩),.slice sp sl.length sc,.slice none 0 0] 159)):=((Fr.refl _ _).alloc _).alloc _;have hB:=Blk.new (w.alloc (.cells #[.int .i64 0,.slice none 0 0] 96)) [.pointer (some ⟨cb,0,none⟩),.slice sp sl.length sc,.slice none 0 0] 159;have hR:=Blk.alloc (Blk.new w [.int .i64 0,.slice none 0 0] 96) (.cells #[.pointer (some ⟨cb,0,none⟩),.slice sp sl.length sc,.slice none 0 0] 159);rw[World.size_alloc]at hB;have aN:=h.clt;have bd:=h.rlt;have pr:=h.zlt;have gG:=CS.bs (bb:=w.heap.size+1) (h.fr0 f0) hB (zhO hs f0 (by simp)) ⟨by omega,fun e=>by have:=bd _ e;omega,fun e=>by have:=pr _ e;omega⟩ (fun k hk=>⟨(bA k hk).1,by have:=aj k hk;omega,(bA k hk).2⟩);have CW:=zab (hw _ _ f0 gG);have HR:=zab hR;have F0:=zab f0;have HF:=zab (And.intro aN (And.intro bd (And.intro pr aj)));have EG:=eg;clear h hs bA hw aj f0 hB hR aN bd pr gG eg;go_enter func50,ntmps50
 go_wp2_with fail
 refine CW.o.mono ?_;rintro e w1 ⟨rfl,Z',aO,sv',bG,z1,gG,f1,n1,n2,n3⟩;obtain ⟨FI,sC,_⟩:=gG.znV;obtain ⟨kp,kn,kc,rfl⟩:=zaF sC;have sL:¬ KL cb (w.heap.size+1) rv (.slice sp sl.length sc) (.slice none 0 0) w.heap.size:=by
  obtain ⟨a1,a2,_,a3⟩:=HF.o;rintro (e|e|e|e|e)
  ·omega
  ·omega
  ·have:=a2 _ e;omega
  ·have:=a3 _ e;omega
  ·cases e
 have nI:=Fr.blk HR.o f1 sL;have r0:=Blk.cell nI 0;have r1:=Blk.cell nI 1;have z0:=Blk.frozen nI 0;have z2:=Blk.frozen nI 1;have b2:=Blk.cell gG.zbY 2;simp at r0 r1 b2;have Cv:=zab nI;have BF:=zab (And.intro gG (And.intro f1 (And.intro n1 (And.intro n2 (And.intro n3 (And.intro sL z1))))));clear gG f1 n1 n2 n3 sC nI CW HR sL z1;go_wp2_with fail
 have hq:=(Blk.set Cv.o 0 (.int .i64 sl.length)).set 1 (.slice kp kn kc);refine bodyPost_ret (results_cell_row rfl _ _ w.heap.size _ _ _ _ rfl hq underlying96 rfl (by kernel_rfl)) rfl ?_;obtain ⟨gG,f1,n1,n2,n3,sL,z1⟩:=BF.o;obtain ⟨a1,a2,a4,a3⟩:=HF.o;have iP:=F0.o.size;have lz:w.heap.size<((w.alloc (.cells #[.int .i64 0,.slice none 0 0] 96)).alloc (.cells #[.pointer (some ⟨cb,0,none⟩),.slice sp sl.length sc,.slice none 0 0] 159)).heap.size:=by rw[World.size_alloc,World.size_alloc];omega
 refine ⟨Z',w.heap.size+1,aO,sv',.slice kp kn kc,rfl,fun k hk=>(z1 k (zyS hk iP)),gG.frk (((Fr.refl (fun k=>k=w.heap.size) _).set _ _ (.inl rfl)).set _ _ (.inl rfl)) ?_,?_,?_,?_⟩
 ·rintro k (hk|hk) rfl
  ·have:=a4 _ ((z1 _ lz).1 hk);omega
  ·exact sL (KL.new hk n1 n2 n3 lz)
 ·refine Fr.set (Fr.set ?_ _ _ (.inr (zyN _))) _ _ (.inr (zyN _));refine ⟨f1.os.trans F0.o.os,f1.tape.trans F0.o.tape,f1.output.trans F0.o.output,zyR iP f1.size,fun i hi hK=>(f1.block i (zyS hi iP) (fun hn=>hK ?_)).trans (F0.o.block i hi (by simp))⟩;rcases hn with e|e|e|e|e
  ·exact .inl e
  ·omega
  ·exact .inr (.inl e)
  ·exact .inr (.inr e)
  ·cases e
 ·exact New.trans (New.refl w rv) n1 iP
 ·intro k hk;rcases n3 k hk with e|e
  ·cases e
  ·exact zyR iP e
theorem znT:(prog.info? 96).map (fun i=>(i.zero,i.size,i.bytes))=some (some (.agg #[.int .i64 0,.slice none 0 0]),2,32):=by kernel_rfl
theorem zgN:∀ (l:List (Nat × List Ins)) (vs:List Value) (b:Nat × List Ins) (v:Value),vs.length=l.length->zaz (l++[b]) (vs++[v])=zaz l vs++[.int .i64 b.1,v]
 |[],[],_,_,_=>rfl
 |x::l,y::vs,b,v,h=>by
  simp only[zy7,zaz];rw[zgN l vs b v (by simpa using h)];simp
 |[],_::_,_,_,h=>by simp at h
 |_::_,[],_,_,h=>by simp at h
variable {g m:Nat}{kv:Value}
theorem CS.added{a w3:World}{cap:Nat}{c:List Ins}{cP:List Value}(h:CS Z w cb rv fns bl)(hc:zir Z w kv c)(iW:cP.length=bl.length)(El:∀ (i:Nat) (b:Nat × List Ins) (cv:Value),bl[i]?=some b->cP[i]?=some cv->zir Z w cv b.2)(fa:Fr (fun _=>False) w a)(ai:w3.ownsRow 0 96 2 (.slice (some ⟨g,0,none⟩) (bl.length+1) cap) (bl.length+1) (zaz bl cP++[.int .i64 m,kv]))(ah:a.grownBy w3 rv.ownBlock)(aV:rv.ownBlock=some g\/w.heap.size<=g):
  (w3.cell? ⟨cb,1,none⟩=some rv/\w3.frozen? ⟨cb,1,none⟩=false)/\CS Z (w3.setCell ⟨cb,1,none⟩ (.slice (some ⟨g,0,none⟩) (bl.length+1) cap)) cb (.slice (some ⟨g,0,none⟩) (bl.length+1) cap) fns (bl++[(m,c)]) /\
   Fr (fun k=>k=cb\/rv.ownBlock=some k) w (w3.setCell ⟨cb,1,none⟩ (.slice (some ⟨g,0,none⟩) (bl.length+1) cap))/\New w rv (.slice (some ⟨g,0,none⟩) (bl.length+1) cap):=by
 obtain ⟨fv,bH,bT⟩:=h.zkt;have aN:=bH.lt;have gm:Blk a cb [fv,rv] 86:=Fr.blk bH fa (by simp);have bD:=gm.grown ah (fun e=>h.rc e.symm);have so:g≠cb:=by
  rcases aV with e|e
  ·intro e2;subst e2;exact h.rc e
  ·omega
 have f0:Fr (fun k=>k=cb\/rv.ownBlock=some k) w (w3.setCell ⟨cb,1,none⟩ (.slice (some ⟨g,0,none⟩) (bl.length+1) cap)):=
  ((fa.mono (fun _ x=>x.elim)).zjj ah (fun k _ e=>.inr e)).set _ _ (.inl (.inl rfl))
 have hz:∀ k,k<w.heap.size->Z k->¬ (k=cb\/rv.ownBlock=some k):=fun k _ hk he=>by
  rcases he with e|e
  ·exact (h.zk k hk).1 e
  ·exact (h.zk k hk).2 e
 have nk:New w rv (.slice (some ⟨g,0,none⟩) (bl.length+1) cap):=by
  intro k hk;simp only[Value.ownBlock,zyP]at hk;rcases aV with e|e
  ·exact .inl (by rw[e,hk])
  ·exact .inr (by omega)
 refine ⟨⟨by simpa using Blk.cell bD 1,Blk.frozen bD 1⟩,⟨⟨fv,bD.set 1 _,bT.frz f0 hz (fun _ _ x=>x)⟩,⟨cP++[kv],by simp[iW],?_,?_⟩,fun k hk=>zyS (h.zlt k hk) f0.size,?_,?_⟩,f0,nk⟩
 ·have f3:Fr (fun k=>k=cb) w3 (w3.setCell ⟨cb,1,none⟩ (.slice (some ⟨g,0,none⟩) (bl.length+1) cap)):=(Fr.refl _ _).set _ _ (.inl rfl);rw[zyT,zy0,zgN _ _ _ _ iW];exact f3.gb ai (fun k hk=>by simp only[Value.ownBlock,zyP]at hk;omega)
 ·intro i b cv hi hv;rw[zzj]at hi hv;by_cases aj:i<bl.length
  ·rw[if_pos aj]at hi;rw[if_pos (by rw[iW];exact aj)]at hv;exact (El i b cv hi hv).frz f0 hz (fun _ _ x=>x)
  ·rw[if_neg aj]at hi;rw[if_neg (by rw[iW];exact aj),iW]at hv;have h1:i-bl.length=0:=by
    have:=(zyL.1 hi).1;simp at this;omega
   rw[h1]at hi hv;simp only[zzl,zyP]at hi hv;rw[<-hi,<-hv];exact hc.frz f0 hz (fun _ _ x=>x)
 ·intro k hk;refine ⟨(h.zk k hk).1,fun e=>?_⟩;rcases nk k e with e|e
  ·exact (h.zk k hk).2 e
  ·have:=h.zlt k hk;omega
 ·intro e;simp only[Value.ownBlock,zyP]at e;exact so e
theorem zgi{gf:Nat}{lb:Array Value}(eg:∀ args w,(callFunc gf args).run prog w=.ok (.enter gf args) w)(h:CS Z w cb rv fns bl)(hs:w.ownsRow 0 9 1 sv sl.length (strCells sl))(bA:∀ k,sv.ownBlock=some k->k≠cb/\rv.ownBlock≠some k/\¬ Z k)(hw:WrOK Z w cb rv sv fns sl bl gf lb q)(hl:q.blocks.length<=1000000000):
  Calls prog 154 #[.pointer (some ⟨cb,0,none⟩),sv,.func (.func gf) #[] lb] w fun e w'=>e=.returned (.int .i64 q.blocks.length)/\∃ Z' aO,(∀ k,k<w.heap.size->(Z' k↔Z k))/\CS Z' w' cb aO fns (q.blocks++[(sl.length,q.code)]) /\
   Fr (fun k=>k=cb\/rv.ownBlock=some k\/sv.ownBlock=some k) w w'/\New w rv aO:=by
 obtain ⟨i0,dt,bq,aP,bF⟩:=info_parts znT;have HI:=zab dt;clear dt;have HZ:=zab (And.intro bq (And.intro aP bF));clear bq aP bF;obtain ⟨sp,sn,sc,rfl⟩:=zaF hs;have CB:=zab (znu eg h hs bA hw);clear h hs bA hw eg;go_enter func154,ntmps154
 go_wp2_with fail
 refine CB.o.mono ?_;rintro e w1 ⟨Z',bb,aO,sv',bG,rfl,z1,gG,f1,n1,n2⟩;obtain ⟨aE,jF⟩:=gG.done;obtain ⟨FI,sC,_⟩:=gG.znV;obtain ⟨kp,kn,kc,rfl⟩:=zaF sC;obtain ⟨fv,bH,_⟩:=aE.zkt;obtain ⟨cP,dd,cg,jc⟩:=aE.zkI;obtain ⟨ra,rn,rc,rfl⟩:=zaF cg;have oT:=Blk.cell bH 1;simp at oT;have aN:w1.heap.size≠cb:=by have:=bH.lt;omega
 have a1:(w1.alloc (.cells #[.int .i64 sl.length,.slice kp kn kc] 96)).cell? ⟨cb,1,none⟩=some (.slice ra rn rc):=by
  simpa using Blk.cell (Blk.alloc bH (.cells #[.int .i64 sl.length,.slice kp kn kc] 96)) 1
 have a2:((w1.alloc (.cells #[.int .i64 sl.length,.slice kp kn kc] 96)).alloc (.cells #[.int .i64 sl.length,.slice kp kn kc] 96)).cell? ⟨cb,1,none⟩=some (.slice ra rn rc):=by
  simpa using Blk.cell (Blk.alloc (Blk.alloc bH (.cells #[.int .i64 sl.length,.slice kp kn kc] 96)) (.cells #[.int .i64 sl.length,.slice kp kn kc] 96)) 1
 have HD:=zab (And.intro z1 (And.intro f1 (And.intro n1 n2)));have HC:=zab (And.intro aE (And.intro jF (And.intro dd jc)));have Cw:=zab cg;have ff:Hid (Fr (fun _=>False) w1 ((w1.alloc (.cells #[.int .i64 sl.length,.slice kp kn kc] 96)).alloc (.cells #[.int .i64 sl.length,.slice kp kn kc] 96)).drew):=zab (((Fr.refl _ _).alloc _).alloc _).drew;clear z1 f1 n1 n2 gG aE jF sC bH dd cg jc CB;go_wp2_with fail
 go_region_law (first
  |(refine step_append_lies _ (by rfl) _ _ _ (by rfl) 0 96 i0 _ 2 32 underlying64 HI.o HZ.o.1 HZ.o.2.1 HZ.o.2.2 rfl (by omega) (.slice ra rn rc) q.blocks.length (zaz q.blocks cP) (by rfl) (ff.o.gb Cw.o (by simp)) ⟨w1.heap.size+1,0,none⟩ 1 1 [.int .i64 sl.length,.slice kp kn kc] (by rfl) (by rfl) (World.news_of_block (cs:=#[.int .i64 sl.length,.slice kp kn kc]) (t:=96) (fr:=(0,0)) (heap_alloc2_new w1 (.cells #[.int .i64 sl.length,.slice kp kn kc] 96) (.cells #[.int .i64 sl.length,.slice kp kn kc] 96))) (by simp[Value.oneCell']) (by omega) (by unfold maxLen;omega) (by omega) (zy5 _) (w1.heap.size+2) (by simp) ?_;intro g cap w3 ai ah aV aj;have AD:=zab (HC.o.1.added (m:=sl.length) HC.o.2.1 HC.o.2.2.1 HC.o.2.2.2 ff.o ai ah (by rcases aV with e|e;exact .inl e;exact .inr (by omega)));have d1:=AD.o.1.1;have df:=AD.o.1.2;clear ai ah aV aj)
  |(go_simp;go_wp2_with fail))
 all_goals
  obtain ⟨Gl,h4,_⟩:=AD.o.2.1.zkt;have e4:(w3.setCell ⟨cb,1,none⟩ (.slice (some ⟨g,0,none⟩) (q.blocks.length+1) cap)).cell? ⟨cb,1,none⟩=some (.slice (some ⟨g,0,none⟩) (q.blocks.length+1) cap):=Blk.cell h4 1;have Bf:=zab AD.o.2;clear h4 AD a1 a2 oT d1 df;go_wp2_with fail
  go_ret
  obtain ⟨z1,f1,n1,n2⟩:=HD.o;obtain ⟨c1,c2,c3⟩:=Bf.o;refine ⟨by simp,_,_,fun k hk=>?_,c1,?_,n1.trans c3 f1.size⟩
  ·rw[<-z1 k hk];constructor
   ·rintro (e|e)
    ·exact e
    ·have:=n2 k e;omega
   ·exact .inl
  ·refine ⟨c2.os.trans f1.os,c2.tape.trans f1.tape,c2.output.trans f1.output,zyR f1.size c2.size,fun i hi hK=>(c2.block i (zyS hi f1.size) (fun hn=>hK ?_)).trans (f1.block i hi hK)⟩;rcases hn with e|e
   ·exact .inl e
   ·rcases n1 i e with e|e
    ·exact .inr (.inl e)
    ·omega
end Go.Proofs.YtgahgkddaljmkaaGreatDoor
namespace Go.Proofs.YtgahgkddaljmkaaGreatDoor
open Tryz
open Go.RowKit
namespace Th
def six:List (List UInt8):=[[43],[45],[42],[47],[60],[61,61]]
theorem zdb(a b:Nat)(st:St):(zaB a b st).1<=b:=by
 unfold Th.zaB;split
 ·next h=>
  simp only[zzv,decide_eq_true_eq]at h;exact h.2
 ·exact zy5 _
theorem zeS{s:List UInt8}{st:St}(h:st.is s=true):st.hd.s=s:=by
 unfold St.is at h;simp only[zzv,beq_iff_eq]at h;exact h.2
end Th
end Go.Proofs.YtgahgkddaljmkaaGreatDoor
namespace Go.Proofs.YtgahgkddaljmkaaGreatDoor
open Tryz
structure Cp.zF0 (e:Th.Ex):Prop where
 lo:1<=e.kind
 hi:e.kind<=9
 num:e.n<=999999999
 tag:e.tag<=99
 ar:e.arity<=9
 nm:∀ t∈e.names,t.s≠[]
 am:∀ a∈e.zao,a.1<=99/\∀ t∈a.2,t.s≠[]
 us:e.kind=2->e.tok.s≠[]
 k4:e.kind=4->e.names≠[]/\∃ b,e.kids=[b]
 k5:e.kind=5\/e.kind=6->∃ a b,e.kids=[a,b]
 k6:e.kind=6->e.tok.s∈Th.six
 k7:e.kind=7\/e.kind=8->e.names≠[]/\∃ b ps,e.kids=b::ps/\ps.length=e.names.length
 k9:e.kind=9->e.zao≠[]/\∃ b ds,e.kids=b::ds/\ds.length=e.zao.length
def Cp.Dp:Nat->Th.Ex->Prop
 |0,_=>False
 |n+1,e=>Cp.zF0 e/\∀ k∈e.kids,Cp.Dp n k
theorem Cp.Dp.zea:∀ {n:Nat} {e:Th.Ex},Cp.Dp n e->Cp.zF0 e
 |0,_,h=>h.elim
 |_+1,_,h=>h.1
theorem Cp.Dp.succ:∀ {n:Nat} {e:Th.Ex},Cp.Dp n e->Cp.Dp (n+1) e
 |0,_,h=>h.elim
 |_n+1,_,h=>⟨h.1,fun k hk=>Cp.Dp.succ (h.2 k hk)⟩
variable {n m:Nat}{e:Th.Ex}
theorem Cp.Dp.le(h:Cp.Dp n e)(hm:n<=m):Cp.Dp m e:=by
 induction hm with
 |refl=>exact h
 |step _ ih=>exact ih.succ
theorem Cp.zqb:∀ {n:Nat} {e:Th.Ex},Cp.Dp n e->Cp.wt (n+1) e=Cp.wt n e
 |0,_,h=>h.elim
 |n+1,e,h=>by
  rw[Cp.wt,Cp.wt];rw[zAf (fun k hk=>Cp.zqb (h.2 k hk))]
theorem Cp.zk9(h:Cp.Dp n e)(hm:n<=m):Cp.wt m e=Cp.wt n e:=by
 induction hm with
 |refl=>rfl
 |step hle ih=>rw[Cp.zqb (h.le hle),ih]
theorem Cp.zeJ{f g:Th.Ex->List Cp.Nm}:∀ {ps:List Th.Ex} {l:List Cp.Nm},(∀ k∈ps,f k=g k)->Cp.zav f ps l=Cp.zav g ps l
 |[],_,_=>rfl
 |p::ps,l,h=>by
  rw[Cp.zav,Cp.zav,h p (by simp)];exact Cp.zeJ (fun k hk=>h k (by simp[hk]))
theorem Cp.zfY{f g:Th.Ex->List Cp.Nm}:∀ {az:List (Nat × List Th.Tok)} {bs:List Th.Ex} {l:List Cp.Nm},(∀ k∈bs,f k=g k)->Cp.zas f az bs l=Cp.zas g az bs l
 |[],_,_,_=>by simp[Cp.zas]
 |_::_,[],_,_=>by simp[Cp.zas]
 |a::az,b::bs,l,h=>by
  rw[Cp.zas,Cp.zas,h b (by simp)];exact Cp.zfY (fun k hk=>h k (by simp[hk]))
theorem Cp.zgV:∀ {n:Nat} {e:Th.Ex},Cp.Dp n e->Cp.free (n+1) e=Cp.free n e
 |0,_,h=>h.elim
 |n+1,e,h=>by
  have ih:∀ k∈e.kids,Cp.free (n+1) k=Cp.free n k:=fun k hk=>Cp.zgV (h.2 k hk)
  rw[Cp.free,Cp.free];by_cases h2:e.kind=2
  ·simp[h2]
  ·by_cases h4:e.kind=4
   ·simp only[h4]
    match hk:e.kids with
    |[b]=>simp[ih b (by simp[hk])]
    |[]=>rfl
    |_::_::_=>rfl
   ·by_cases h5:e.kind=5\/e.kind=6
    ·simp only[h2,h4,h5,if_false,if_true]
     match hk:e.kids with
     |[a,b]=>simp[ih a (by simp[hk]),ih b (by simp[hk])]
     |[]=>rfl
     |[_]=>rfl
     |_::_::_::_=>rfl
    ·simp only[h2,h4,h5,if_false]
     match hk:e.kids with
     |[]=>simp
     |b::ps=>
      simp only;rw[ih b (by simp[hk]),Cp.zeJ (f:=Cp.free (n+1)) (g:=Cp.free n) (fun k hp=>ih k (by simp[hk,hp])),Cp.zfY (f:=Cp.free (n+1)) (g:=Cp.free n) (fun k hp=>ih k (by simp[hk,hp]))]
theorem Cp.zjT{zac:List Cp.Nm}{x:Cp.Nm}:∀ {k:Nat},k<=zac.length->(Cp.zcq zac x k=none↔x ∉ zac.take k)
 |0,_=>by simp[Cp.zcq]
 |k+1,hk=>by
  have ih:=Cp.zjT (zac:=zac) (x:=x) (k:=k) (by omega);rw[Cp.zcq];have hg:zac[k]?=some zac[k]:=zyM (by omega);rw[zAn,hg,Option.toList_some,zzi,zze];by_cases h:zac[k]=x
  ·simp[h]
  ·have h':¬ x=zac[k]:=fun e=>h e.symm
   simp[h,h',ih]
variable {zac:List Cp.Nm}
theorem Cp.zca{x:Cp.Nm}:Cp.za9 zac x=none↔x ∉ zac:=by
 unfold Cp.za9;rw[Cp.zjT (zyN _),zz7]
variable {l:List Cp.Nm}
theorem Cp.zbK{x:Cp.Nm}:x∈Cp.zai zac l↔x∈l/\x∈zac:=by
 unfold Cp.zai;rw[List.mem_filter];have:=Cp.zca (zac:=zac) (x:=x);cases h:Cp.za9 zac x with
 |none=>rw[h]at this;simp at this;simp[this]
 |some i=>rw[h]at this;simp at this;simp[this]
theorem Cp.zaN{g:List Cp.Nm}{x:Cp.Nm}:x∈Cp.zaH l g↔x∈l/\x ∉ g:=by
 unfold Cp.zaH;simp
theorem Cp.zaw{m:List Cp.Nm}{x:Cp.Nm}:x∈Cp.union l m↔x∈l\/x∈m:=by
 unfold Cp.union;rw[zzi,Cp.zaN];by_cases h:x∈l <;> simp[h]
theorem Cp.zbh{f:Th.Ex->List Cp.Nm}{x:Cp.Nm}:∀ {ps:List Th.Ex} {l:List Cp.Nm},x∈Cp.zav f ps l↔x∈l\/∃ p∈ps,x∈f p
 |[],l=>by simp[Cp.zav]
 |p::ps,l=>by
  rw[Cp.zav,Cp.zbh,Cp.zaw];simp[or_assoc]
theorem Cp.zbg(zac l:List Cp.Nm):(Cp.zai zac l).length<=l.length:=List.length_filter_le _ _
theorem Cp.Dp.kid{k:Th.Ex}(h:Cp.Dp n e)(hk:k∈e.kids):Cp.Dp n k:=by
 cases n with
 |zero=>exact h.elim
 |succ n=>exact (h.2 k hk).succ
theorem Cp.Dp.wt{n:Nat}{e:Th.Ex}(h:Cp.Dp n e):Cp.wt n e=1+e.names.length+(e.zao.map fun a=>1+a.2.length).sum+(e.kids.map (Cp.wt n)).sum:=by
 cases n with
 |zero=>exact h.elim
 |succ n=>rw[Cp.wt,zAf (fun k hk=>(Cp.zqb (h.2 k hk)).symm)]
theorem Cp.Dp.pos(h:Cp.Dp n e):1<=Cp.wt n e:=by rw[h.wt];omega
theorem Cp.Dp.free{n:Nat}{e:Th.Ex}(h:Cp.Dp n e):Cp.free n e =
  if e.kind=2 then [e.tok.s] else
  if e.kind=4 then (match e.kids with|[b]=>Cp.zaH (Cp.free n b) (Th.texts e.names)|_=>[]) else
  if e.kind=5\/e.kind=6 then (match e.kids with|[a,b]=>Cp.union (Cp.free n a) (Cp.free n b)|_=>[]) else
  if e.kind=7 then (match e.kids with|b::ps=>Cp.union (Cp.zav (Cp.free n) ps []) (Cp.zaH (Cp.free n b) (Th.texts e.names))|_=>[]) else
  if e.kind=8 then (match e.kids with|b::ps=>Cp.union (Cp.zaH (Cp.zav (Cp.free n) ps []) (Th.texts e.names)) (Cp.zaH (Cp.free n b) (Th.texts e.names))|_=>[]) else
  if e.kind=9 then (match e.kids with|s::bs=>Cp.union (Cp.free n s) (Cp.zas (Cp.free n) e.zao bs [])|_=>[]) else []:=by
 cases n with
 |zero=>exact h.elim
 |succ n=>
  rw[<-Cp.zgV h,Cp.free];rfl
theorem Cp.zcL{f:Th.Ex->List Cp.Nm}{x:Cp.Nm}:∀ {az:List (Nat × List Th.Tok)} {bs:List Th.Ex} {l:List Cp.Nm},x∈Cp.zas f az bs l↔x∈l\/∃ (i:Nat) (a:Nat × List Th.Tok) (d:Th.Ex),az[i]?=some a/\bs[i]?=some d/\x∈f d/\x ∉ Th.texts a.2
 |[],bs,l=>by simp[Cp.zas]
 |_::_,[],l=>by simp[Cp.zas]
 |a::az,b::bs,l=>by
  rw[Cp.zas,Cp.zcL,Cp.zaw,Cp.zaN];constructor
  ·rintro ((h|h)|⟨i,a',d,h1,h2,h3⟩)
   ·exact .inl h
   ·exact .inr ⟨0,a,b,rfl,rfl,h⟩
   ·exact .inr ⟨i+1,a',d,by simpa using h1,by simpa using h2,h3⟩
  ·rintro (h|⟨i,a',d,h1,h2,h3⟩)
   ·exact .inl (.inl h)
   ·cases i with
    |zero=>simp at h1 h2;subst h1 h2;exact .inl (.inr h3)
    |succ i=>exact .inr ⟨i,a',d,by simpa using h1,by simpa using h2,h3⟩
end Go.Proofs.YtgahgkddaljmkaaGreatDoor
namespace Go.Proofs.YtgahgkddaljmkaaGreatDoor
open Tryz
open Go.RowKit Go.Shelf
attribute [local go_sem ↓] Go.wp_at_zero Go.wp_at_succ
structure Fit (M N:Nat) (fns:List Cp.Nm) (q:Cp.Bs) (e:Th.Ex):Prop where
 dp:Cp.Dp N e
 wt:Cp.wt N e<=M
 mm:M<=5000
 fl:fns.length<=1000000
 nm:∀ x∈Cp.free N e,x≠[]/\(x∈q.zac\/x∈fns)
 cl:q.code.length+(M+8)*Cp.wt N e<=1000000000
 sl:q.zac.length+(M+8)*Cp.wt N e<=100000000
 bl:q.blocks.length+8*Cp.wt N e<=1000000
def zbi (M N n:Nat):Prop:=∀ ⦃Z:Nat->Prop⦄ ⦃w:World⦄ ⦃cb bb:Nat⦄ ⦃rv sv kv v:Value⦄ ⦃fns:List Cp.Nm⦄ ⦃q:Cp.Bs⦄ ⦃e:Th.Ex⦄ ⦃below:Nat⦄,BS Z w cb bb rv sv kv fns q->Rep Z w n v e->Fit M N fns q e->below+(M+8)*Cp.wt N e<=1000000000 ->
 Calls prog 54 #[.pointer (some ⟨bb,0,none⟩),v,.int .i64 below] w fun r w'=>r=.returned (.tuple #[])/\Did Z w cb bb rv sv kv fns (Cp.work (Cp.free N) fns n e below q) w'
def zu4 (M N n:Nat) (e:Th.Ex):Prop:=∀ ⦃Z:Nat->Prop⦄ ⦃w:World⦄ ⦃cb bb:Nat⦄ ⦃rv sv kv v:Value⦄ ⦃fns:List Cp.Nm⦄ ⦃q:Cp.Bs⦄,BS Z w cb bb rv sv kv fns q->Rep Z w n v e->Fit M N fns q e ->
 Calls prog 54 #[.pointer (some ⟨bb,0,none⟩),v,.int .i64 0] w fun r w'=>r=.returned (.tuple #[])/\Did Z w cb bb rv sv kv fns (Cp.work (Cp.free N) fns n e 0 q) w'
variable {M N n:Nat}
theorem zbi.zero(hW:zbi M N n)(e:Th.Ex):zu4 M N n e:=fun _ _ _ _ _ _ _ _ _ _ h hr hf=>hW (below:=0) h hr hf (by have:=hf.cl;omega)
variable {Z Z':Nat->Prop}{w w2 w':World}{cb:Nat}{rv aO sv:Value}{fns:List Cp.Nm}{bl:List (Nat × List Ins)}
theorem zmf(f:Fr (fun _=>False) w w2)(hs:∀ k,sv.ownBlock=some k->w.heap.size<=k)(hz:∀ k,k<w2.heap.size->(Z' k↔Z k))(hc:CS Z' w' cb aO fns bl)(f2:Fr (fun k=>k=cb\/rv.ownBlock=some k\/sv.ownBlock=some k) w2 w')(hn:New w2 rv aO):zfH Z w cb rv fns bl w':=by
 refine ⟨Z',aO,fun k hk=>hz k (zyS hk f.size),hc,?_,New.trans (New.refl w rv) hn f.size⟩;refine ⟨f2.os.trans f.os,f2.tape.trans f.tape,f2.output.trans f.output,zyR f.size f2.size,fun i hi hK=>(f2.block i (zyS hi f.size) (fun hn=>?_)).trans (f.block i hi (by simp))⟩;rcases hn with e|e|e
 ·exact hK (.inl e)
 ·exact hK (.inr e)
 ·have:=hs i e;omega
theorem zxk:∀ args w,(callFunc 216 args).run prog w=.ok (.enter 216 args) w:=by
 intro args w
 kernel_rfl
variable {e:Th.Ex}{bb bx:Nat}{kv:Value}{t:TypeId}{x:Value}{q:Cp.Bs}
theorem zuD(hW:zu4 M N n e)(hx:Blk w bx [.iface t x] 91)(h:BS Z w cb bb rv sv kv fns q)(hr:Rep Z w n (.iface t x) e)(hf:Fit M N fns q e):
  Calls prog 216 #[.pointer (some ⟨bb,0,none⟩),.pointer (some ⟨bx,0,none⟩)] w fun r w'=>r=.returned (.tuple #[])/\Did Z w cb bb rv sv kv fns (Cp.work (Cp.free N) fns n e 0 q) w':=by
 have c0:=Blk.cell hx 0;simp at c0;have CW:=zab (hW h hr hf);clear hW h hr hf hx;go_enter func216,ntmps216
 go_wp2_with fail
 refine CW.o.mono ?_;rintro r w' ⟨rfl,hd⟩;have HD:=zab hd;clear hd CW c0;go_wp2_with fail
 first|go_end0|refine bodyPost_ret (results_none rfl _ _ _) rfl ?_
 exact ⟨rfl,HD.o⟩
variable {v nv:Value}{names:List Cp.Nm}
theorem ze3(hW:zu4 M N n e)(h:CS Z w cb rv fns bl)(hr:Rep Z w n v e)(hn:Row Z w 9 1 nv names.length (strCells names))(hf:Fit M N fns ⟨bl,names.reverse,[]⟩ e)(ev:names.length<=1000000)(hl:(Cp.work (Cp.free N) fns n e 0 ⟨bl,names.reverse,[]⟩).blocks.length<=1000000000):
  Calls prog 161 #[.pointer (some ⟨cb,0,none⟩),v,nv] w fun r w'=>r=.returned (.int .i64 (Cp.work (Cp.free N) fns n e 0 ⟨bl,names.reverse,[]⟩).blocks.length) /\
   zfH Z w cb rv fns ((Cp.work (Cp.free N) fns n e 0 ⟨bl,names.reverse,[]⟩).blocks++[(names.reverse.length,(Cp.work (Cp.free N) fns n e 0 ⟨bl,names.reverse,[]⟩).code)]) w':=by
 have mc:∀ (fn:Fn) (first cap:Array Value) (w:World),(Instr.makeFunc fn first cap).run prog w=.ok (.func fn first cap) w:=fun _ _ _ _=>rfl
 obtain ⟨t,x,rfl⟩:=zah hr;obtain ⟨np,nn,nc,rfl⟩:=zae hn;have f0:Fr (fun _=>False) w ((w.alloc (.cells #[.iface t x] 91)).alloc (.cells #[.slice np nn nc] 38)):=((Fr.refl _ _).alloc _).alloc _;have hB:=Blk.new (w.alloc (.cells #[.iface t x] 91)) [.slice np nn nc] 38;have hX:=Blk.alloc (Blk.new w [.iface t x] 91) (.cells #[.slice np nn nc] 38);rw[World.size_alloc]at hB;have CF:=zab (zlp hB (Row.frc hn f0 (by simp)) ev);have HX:=zab hX;have F0:=zab f0;have HH:=zab (And.intro h (And.intro hr (And.intro hf hl)));have HW:=zab hW;clear hW h hr hn hf hl hB hX f0;go_enter func161,ntmps161
 go_wp2_with fail
 refine CF.o.mono ?_;rintro r w2 ⟨sv,rfl,bA,f2⟩;obtain ⟨sp,sn,sc,rfl⟩:=zae bA;have f3:=F0.o.trans f2;have bK:∀ k,(Value.slice sp sn sc).ownBlock=some k->w.heap.size<=k:=fun k hk=>zyR F0.o.size (bA.2 k hk)
 obtain ⟨h,hr,hf,hl⟩:=HH.o;have CA:=zab (zgi (lb:=#[.pointer (some ⟨w.heap.size,0,none⟩)]) zxk (h.fr0 f3) (za0 bA.1 (zy5 _)) (fun k hk=>⟨by have:=h.clt;have:=bK k hk;omega,fun e=>by have:=h.rlt k e;have:=bK k hk;omega,fun e=>by have:=h.zlt k e;have:=bK k hk;omega⟩)
  (fun W bb bQ hb=>zuD HW.o (Fr.blk (Fr.blk HX.o f2 (by simp)) bQ (by simp)) hb (hr.fr0 (f3.trans bQ)) hf) hl)
 have HS:=zab bK;have F3:=zab f3;clear h hr hf hl bA f2 f3 bK CF;go_wp2_with fail
 refine CA.o.mono ?_;rintro r w4 ⟨rfl,Z',aO,z1,hc,f4,n4⟩;have HD:=zab (zmf F3.o HS.o z1 hc f4 n4);clear CA z1 hc f4 n4;go_wp2_with fail
 go_ret
 exact ⟨rfl,HD.o⟩
theorem zkK(hW:zbi M N n)(h:CS Z w cb rv fns bl)(hr:Rep Z w n v e)(hn:Row Z w 9 1 nv names.length (strCells names))(hf:Fit M N fns ⟨bl,names.reverse,[]⟩ e)(ev:names.length<=1000000)(hl:(Cp.work (Cp.free N) fns n e 0 ⟨bl,names.reverse,[]⟩).blocks.length<=1000000000):
  Calls prog 161 #[.pointer (some ⟨cb,0,none⟩),v,nv] w fun r w'=>r=.returned (.int .i64 (Cp.work (Cp.free N) fns n e 0 ⟨bl,names.reverse,[]⟩).blocks.length) /\
   zfH Z w cb rv fns ((Cp.work (Cp.free N) fns n e 0 ⟨bl,names.reverse,[]⟩).blocks++[(names.reverse.length,(Cp.work (Cp.free N) fns n e 0 ⟨bl,names.reverse,[]⟩).code)]) w':=ze3 (hW.zero e) h hr hn hf ev hl
theorem zvn(f:Fr (fun _=>False) w w2)(hz:∀ k,k<w2.heap.size->(Z' k↔Z k))(hc:CS Z' w' cb aO fns bl)(f2:Fr (fun k=>k=cb\/rv.ownBlock=some k\/w.heap.size<=k) w2 w')(hn:New w2 rv aO):zfH Z w cb rv fns bl w':=by
 refine ⟨Z',aO,fun k hk=>hz k (zyS hk f.size),hc,?_,New.trans (New.refl w rv) hn f.size⟩;refine ⟨f2.os.trans f.os,f2.tape.trans f.tape,f2.output.trans f.output,zyR f.size f2.size,fun i hi hK=>(f2.block i (zyS hi f.size) (fun hn=>?_)).trans (f.block i hi (by simp))⟩;rcases hn with e|e|e
 ·exact hK (.inl e)
 ·exact hK (.inr e)
 ·omega
theorem zsU:∀ args w,(callFunc 258 args).run prog w=.ok (.enter 258 args) w:=by
 intro args w
 kernel_rfl
theorem zpB(hW:zbi M N n){pn pc:Nat}{pp:Option Addr}(hx:Blk w bx [.slice pp pn pc,.iface t x] 226)(h:BS Z w cb bb rv sv kv fns q)(hr:Rep Z w n (.iface t x) e)(hf:Fit M N fns q e):
  Calls prog 258 #[.pointer (some ⟨bb,0,none⟩),.pointer (some ⟨bx,0,none⟩)] w fun r w'=>r=.returned (.tuple #[])/\Did Z w cb bb rv sv kv fns (Cp.work (Cp.free N) fns n e 0 q) w':=by
 have c0:=Blk.cell hx 1;simp at c0;have CW:=zab (hW (below:=0) h hr hf (by have:=hf.cl;omega));clear hW h hr hf hx;go_enter func258,ntmps258
 go_wp2_with fail
 refine CW.o.mono ?_;rintro r w' ⟨rfl,hd⟩;have HD:=zab hd;clear hd CW c0;go_wp2_with fail
 first|go_end0|refine bodyPost_ret (results_none rfl _ _ _) rfl ?_
 exact ⟨rfl,HD.o⟩
variable {sl:List Cp.Nm}
theorem zrz(hW:zbi M N n){pv:Value}{l:List Th.Tok}(aK:sl=(names++Th.texts l).reverse)(hq:q=Cp.work (Cp.free N) fns n e 0 ⟨bl,sl,[]⟩)(h:CS Z w cb rv fns bl)(hr:Rep Z w n v e)(hp:Row Z w 88 2 pv l.length (zaj l))(hn:Row Z w 9 1 nv names.length (strCells names))(hf:Fit M N fns ⟨bl,sl,[]⟩ e)(ev:names.length+l.length<=1000000)(hl:q.blocks.length<=1000000000):
  Calls prog 217 #[.pointer (some ⟨cb,0,none⟩),.agg #[pv,v],nv] w fun r w'=>r=.returned (.int .i64 q.blocks.length) /\
   zfH Z w cb rv fns (q.blocks++[(sl.length,q.code)]) w':=by
 have mc:∀ (fn:Fn) (first cap:Array Value) (w:World),(Instr.makeFunc fn first cap).run prog w=.ok (.func fn first cap) w:=fun _ _ _ _=>rfl
 obtain ⟨t,x,rfl⟩:=zah hr;obtain ⟨np,nn,nc,rfl⟩:=zae hn;have xV:∃ pp pc,pv=.slice pp l.length pc:=by
  rcases hp.1.2 with ⟨h1,h0⟩|⟨g,cap,cur,h0,_⟩
  ·rw[<-h0]at h1;exact ⟨_,_,h1⟩
  ·exact ⟨_,_,h0⟩
 obtain ⟨pp,pc,rfl⟩:=xV;have f0:Fr (fun _=>False) w (w.alloc (.cells #[.slice pp l.length pc,.iface t x] 226)):=((Fr.refl _ _).alloc _);have hX:=Blk.new w [.slice pp l.length pc,.iface t x] 226;have CT:=zab (zd1 (Row.frc hp f0 (by simp)) (by omega));have HX:=zab hX;have F0:=zab f0;have HN:=zab hn;have HH:=zab (And.intro h (And.intro hr (And.intro hf hl)));have HW:=zab hW;have iw:=zab (And.intro aK hq);clear hW h hr hn hf hl hp hX f0 aK hq;go_enter func217,ntmps217
 go_wp2_with fail
 refine CT.o.mono ?_;rintro r w1 ⟨tv,rfl,eC,f1⟩;obtain ⟨ta,tn,tc,rfl⟩:=zae eC;have f10:=F0.o.trans f1;have f11:Fr (fun _=>False) w1 (w1.alloc (.cells #[.slice np nn nc,.slice ta tn tc] 38)):=(Fr.refl _ _).alloc _;have CF:=zab (zdR (Blk.new w1 [.slice np nn nc,.slice ta tn tc] 38) (Row.frc HN.o (f10.trans f11) (by simp)) (Row.frc eC f11 (by simp)) (by simp[Th.texts];omega));have F1:=zab (f1.trans f11);have b0:=Blk.cell (Fr.blk HX.o f1 (by simp)) 0;clear eC f1 f10 f11 CT;go_wp2_with fail
 refine CF.o.mono ?_;rintro r w2 ⟨sv,rfl,bA,f2⟩;rw[<-iw.o.1]at bA;obtain ⟨sp,sn,sc,rfl⟩:=zae bA;have f20:=F1.o.trans f2;have f3:=F0.o.trans f20;have bK:∀ k,(Value.slice sp sn sc).ownBlock=some k->w.heap.size<=k:=fun k hk=>zyR (zyR F0.o.size F1.o.size) (bA.2 k hk)
 have oc:Hid (∀ k,(Value.slice sp sn sc).ownBlock=some k->(w.alloc (.cells #[.slice pp l.length pc,.iface t x] 226)).heap.size<=k):=zab (fun k hk=>zyR F1.o.size (bA.2 k hk));obtain ⟨h,hr,hf,hl⟩:=HH.o;have CA:=zab (zgi (lb:=#[.pointer (some ⟨w.heap.size,0,none⟩)]) zsU (h.fr0 f3) (za0 bA.1 (zy5 _)) (fun k hk=>⟨by have:=h.clt;have:=bK k hk;omega,fun e=>by have:=h.rlt k e;have:=bK k hk;omega,fun e=>by have:=h.zlt k e;have:=bK k hk;omega⟩)
  (fun W bb bQ hb=>zpB HW.o (Fr.blk (Fr.blk HX.o f20 (by simp)) bQ (by simp)) hb (hr.fr0 (f3.trans bQ)) hf) (iw.o.2 ▸ hl))
 rw[<-iw.o.2]at CA;have HS:=zab bK;have F3:=zab f3;have tX:=zab f20;clear h hr hf hl bA f2 f3 bK CF f20;go_wp2_with fail
 refine CA.o.mono ?_;rintro r w4 ⟨rfl,Z',aO,z1,hc,f4,n4⟩;have HD:=zab (zmf F3.o HS.o z1 hc f4 n4);clear CA z1 hc f4 n4;go_wp2_with fail
 go_ret
 exact ⟨rfl,HD.o⟩
theorem zyl:∀ args w,(callFunc 215 args).run prog w=.ok (.enter 215 args) w:=by
 intro args w
 kernel_rfl
variable {tag:Nat}
theorem zu6(hW:zbi M N n){pn pc:Nat}{pp:Option Addr}(hx:Blk w bx [.int .i64 tag,.slice pp pn pc,.iface t x] 240)(h:BS Z w cb bb rv sv kv fns q)(hr:Rep Z w n (.iface t x) e)(hf:Fit M N fns q e):
  Calls prog 215 #[.pointer (some ⟨bb,0,none⟩),.pointer (some ⟨bx,0,none⟩)] w fun r w'=>r=.returned (.tuple #[])/\Did Z w cb bb rv sv kv fns (Cp.work (Cp.free N) fns n e 0 q) w':=by
 have c0:=Blk.cell hx 2;simp at c0;have CW:=zab (hW (below:=0) h hr hf (by have:=hf.cl;omega));clear hW h hr hf hx;go_enter func215,ntmps215
 go_wp2_with fail
 refine CW.o.mono ?_;rintro r w' ⟨rfl,hd⟩;have HD:=zab hd;clear hd CW c0;go_wp2_with fail
 first|go_end0|refine bodyPost_ret (results_none rfl _ _ _) rfl ?_
 exact ⟨rfl,HD.o⟩
theorem zw6(hW:zbi M N n){pv:Value}{l:List Th.Tok}(aK:sl=(Th.texts l++names).reverse)(hq:q=Cp.work (Cp.free N) fns n e 0 ⟨bl,sl,[]⟩)(h:CS Z w cb rv fns bl)(hr:Rep Z w n v e)(hp:Row Z w 88 2 pv l.length (zaj l))(hn:Row Z w 9 1 nv names.length (strCells names))(hf:Fit M N fns ⟨bl,sl,[]⟩ e)(ev:names.length+l.length<=1000000)(hl:q.blocks.length<=1000000000):
  Calls prog 160 #[.pointer (some ⟨cb,0,none⟩),.agg #[.int .i64 tag,pv,v],nv] w fun r w'=>r=.returned (.agg #[.int .i64 tag,.int .i64 l.length,.int .i64 q.blocks.length]) /\
   zfH Z w cb rv fns (q.blocks++[(sl.length,q.code)]) w':=by
 have mc:∀ (fn:Fn) (first cap:Array Value) (w:World),(Instr.makeFunc fn first cap).run prog w=.ok (.func fn first cap) w:=fun _ _ _ _=>rfl
 obtain ⟨t,x,rfl⟩:=zah hr;obtain ⟨np,nn,nc,rfl⟩:=zae hn;have xV:∃ pp pc,pv=.slice pp l.length pc:=by
  rcases hp.1.2 with ⟨h1,h0⟩|⟨g,cap,cur,h0,_⟩
  ·rw[<-h0]at h1;exact ⟨_,_,h1⟩
  ·exact ⟨_,_,h0⟩
 obtain ⟨pp,pc,rfl⟩:=xV;have f0:Fr (fun _=>False) w ((w.alloc (.cells #[.int .i64 tag,.slice pp l.length pc,.iface t x] 240)).alloc (.cells #[.int .i64 0,.int .i64 0,.int .i64 0] 290)):=((Fr.refl _ _).alloc _).alloc _;have hX:=Blk.alloc (Blk.new w [.int .i64 tag,.slice pp l.length pc,.iface t x] 240) (.cells #[.int .i64 0,.int .i64 0,.int .i64 0] 290);have hR:=Blk.new (w.alloc (.cells #[.int .i64 tag,.slice pp l.length pc,.iface t x] 240)) [.int .i64 0,.int .i64 0,.int .i64 0] 290;rw[World.size_alloc]at hR;have CT:=zab (zd1 (Row.frc hp f0 (by simp)) (by omega));have HX:=zab hX;have F0:=zab f0;have HN:=zab hn;have HR:=zab hR;clear hR;have HH:=zab (And.intro h (And.intro hr (And.intro hf hl)));have HW:=zab hW;have iw:=zab (And.intro aK hq);clear hW h hr hn hf hl hp hX f0 aK hq;go_enter func160,ntmps160
 go_wp2_with fail
 refine CT.o.mono ?_;rintro r w1 ⟨tv,rfl,eC,f1⟩;obtain ⟨ta,tn,tc,rfl⟩:=zae eC;have f10:=F0.o.trans f1;have f11:Fr (fun _=>False) w1 (w1.alloc (.cells #[.slice ta tn tc,.slice np nn nc] 38)):=(Fr.refl _ _).alloc _;have CF:=zab (zdR (Blk.new w1 [.slice ta tn tc,.slice np nn nc] 38) (Row.frc eC f11 (by simp)) (Row.frc HN.o (f10.trans f11) (by simp)) (by simp[Th.texts];omega));have F1:=zab (f1.trans f11);have b0:=Blk.cell (Fr.blk HX.o f1 (by simp)) 0;clear eC f1 f10 f11 CT;go_wp2_with fail
 refine CF.o.mono ?_;rintro r w2 ⟨sv,rfl,bA,f2⟩;rw[<-iw.o.1]at bA;obtain ⟨sp,sn,sc,rfl⟩:=zae bA;have f20:=F1.o.trans f2;have f3:=F0.o.trans f20;have bK:∀ k,(Value.slice sp sn sc).ownBlock=some k->w.heap.size<=k:=fun k hk=>zyR (zyR F0.o.size F1.o.size) (bA.2 k hk)
 have oc:Hid (∀ k,(Value.slice sp sn sc).ownBlock=some k->((w.alloc (.cells #[.int .i64 tag,.slice pp l.length pc,.iface t x] 240)).alloc (.cells #[.int .i64 0,.int .i64 0,.int .i64 0] 290)).heap.size<=k):=zab (fun k hk=>zyR F1.o.size (bA.2 k hk));obtain ⟨h,hr,hf,hl⟩:=HH.o;have CA:=zab (zgi (lb:=#[.pointer (some ⟨w.heap.size,0,none⟩)]) zyl (h.fr0 f3) (za0 bA.1 (zy5 _)) (fun k hk=>⟨by have:=h.clt;have:=bK k hk;omega,fun e=>by have:=h.rlt k e;have:=bK k hk;omega,fun e=>by have:=h.zlt k e;have:=bK k hk;omega⟩)
  (fun W bb bQ hb=>zu6 HW.o (Fr.blk (Fr.blk HX.o f20 (by simp)) bQ (by simp)) hb (hr.fr0 (f3.trans bQ)) hf) (iw.o.2 ▸ hl))
 rw[<-iw.o.2]at CA;have HS:=zab bK;have F3:=zab f3;have tX:=zab f20;clear h hr hf hl bA f2 f3 bK CF f20;go_wp2_with fail
 refine CA.o.mono ?_;rintro r w4 ⟨rfl,Z',aO,z1,hc,f4,n4⟩;obtain ⟨h,hr,hf,hl⟩:=HH.o;have aB:w.heap.size+1<w2.heap.size:=(Fr.blk HR.o tX.o (by simp)).lt;have wT:∀ j,j=w.heap.size\/j=w.heap.size+1->¬ (j=cb\/rv.ownBlock=some j\/(Value.slice sp sn sc).ownBlock=some j):=by
  rintro j hj (e|e|e)
  ·have:=h.clt;omega
  ·have:=h.rlt j e;omega
  ·have:=oc.o j e;rw[World.size_alloc,World.size_alloc]at this;omega
 have xe:=Fr.blk (Fr.blk HX.o tX.o (by simp)) f4 (wT _ (.inl rfl));have nJ:=Fr.blk (Fr.blk HR.o tX.o (by simp)) f4 (wT _ (.inr rfl));have x0:=Blk.cell xe 0;have x1:=Blk.cell xe 1;have r0:=Blk.cell nJ 0;have r1:=Blk.cell nJ 1;have r2:=Blk.cell nJ 2;have z0:=Blk.frozen nJ 0;have z3:=Blk.frozen nJ 1;have z4:=Blk.frozen nJ 2;simp at x0 x1 r0 r1 r2;have uU:¬ Z' (w.heap.size+1):=fun e=>by have:=h.zlt _ ((z1 _ aB).1 e);omega
 have sJ:aO.ownBlock≠some (w.heap.size+1):=fun e=>by
  rcases n4 _ e with e|e
  ·have:=h.rlt _ e;omega
  ·omega
 have rT:w.heap.size+1≠cb:=by have:=h.clt;omega
 have HC:=zab (And.intro z1 (And.intro hc (And.intro f4 (And.intro n4 (And.intro uU (And.intro sJ rT))))));have vR:=zab nJ;clear h hr hf hl xe nJ z1 hc f4 n4 uU sJ wT CA aB rT b0;go_wp2_with fail
 have hq:=(((Blk.set vR.o 0 (.int .i64 tag)).set 1 (.int .i64 l.length)).set 2 (.int .i64 q.blocks.length));refine bodyPost_ret (results_cell_row rfl _ _ (w.heap.size+1) _ _ _ _ rfl hq underlying290 rfl (by kernel_rfl)) rfl ?_;obtain ⟨z1,hc,f4,n4,uU,sJ,rT⟩:=HC.o;refine ⟨rfl,zvn F3.o z1 (hc.frk (((((Fr.refl (fun k=>k=w.heap.size+1) _).set _ _ (.inl rfl)).set _ _ (.inl rfl)).set _ _ (.inl rfl))) ?_) ?_ n4⟩
 ·rintro k (e|e|e) rfl
  ·exact uU e
  ·exact rT e
  ·exact sJ e
 ·have f5:Fr (fun k=>k=cb\/rv.ownBlock=some k\/w.heap.size<=k) w2 w4:=f4.mono (fun k hk=>by
   rcases hk with e|e|e
   ·exact .inl e
   ·exact .inr (.inl e)
   ·exact .inr (.inr (HS.o k e)))
  exact Fr.set (Fr.set (Fr.set f5 _ _ (.inl (.inr (.inr (zz8 _))))) _ _ (.inl (.inr (.inr (zz8 _))))) _ _ (.inl (.inr (.inr (zz8 _))))
theorem zro:∀ args w,(callFunc 214 args).run prog w=.ok (.enter 214 args) w:=by
 intro args w
 kernel_rfl
variable {sg:ByteArray}
theorem znD(hx:Blk w bx [.string sg] 9)(h:BS Z w cb bb rv sv kv fns q)(hl:q.code.length<=1000000):
  Calls prog 214 #[.pointer (some ⟨bb,0,none⟩),.pointer (some ⟨bx,0,none⟩)] w fun r w'=>r=.returned (.tuple #[])/\Did Z w cb bb rv sv kv fns ((q.write (.comp sg)).write .enter) w':=by
 have c0:=Blk.cell hx 0;simp at c0;have CW:=zab (zbS (i:=.comp sg) h rfl (by omega));clear h hx;go_enter func214,ntmps214
 go_wp2_with fail
 refine CW.o.mono ?_;rintro r w1 ⟨rfl,Z1,bh,bf,cA,z1,hb,f1,n1,n2,n3⟩;have CE:=zab (zbS (i:=.enter) hb rfl (by simp[Cp.Bs.write];omega));have HD:=zab (And.intro z1 (And.intro f1 (And.intro n1 (And.intro n2 n3))));clear CW c0 z1 hb f1 n1 n2 n3;go_wp2_with fail
 refine CE.o.mono ?_;rintro r w2 ⟨rfl,hd⟩;have HE:=zab hd;clear hd CE;go_wp2_with fail
 first|go_end0|refine bodyPost_ret (results_none rfl _ _ _) rfl ?_
 exact ⟨rfl,Did.trans HD.o.1 HD.o.2.1 HD.o.2.2.1 HD.o.2.2.2.1 HD.o.2.2.2.2 HE.o⟩
theorem zvq:∀ args w,(callFunc 259 args).run prog w=.ok (.enter 259 args) w:=by
 intro args w
 kernel_rfl
theorem zrJ{ar:Nat}(hx:Blk w bx [.int .i64 tag,.int .i64 ar] 219)(h:BS Z w cb bb rv sv kv fns q)(hl:q.code.length<=1000000):
  Calls prog 259 #[.pointer (some ⟨bb,0,none⟩),.pointer (some ⟨bx,0,none⟩)] w fun r w'=>r=.returned (.tuple #[])/\Did Z w cb bb rv sv kv fns ((q.write (.pack tag ar)).write .enter) w':=by
 have c0:=Blk.cell hx 0;have c1:=Blk.cell hx 1;simp at c0 c1;have CW:=zab (zbS (i:=.pack tag ar) h rfl (by omega));clear h hx;go_enter func259,ntmps259
 go_wp2_with fail
 refine CW.o.mono ?_;rintro r w1 ⟨rfl,Z1,bh,bf,cA,z1,hb,f1,n1,n2,n3⟩;have CE:=zab (zbS (i:=.enter) hb rfl (by simp[Cp.Bs.write];omega));have HD:=zab (And.intro z1 (And.intro f1 (And.intro n1 (And.intro n2 n3))));clear CW c0 c1 z1 hb f1 n1 n2 n3;go_wp2_with fail
 refine CE.o.mono ?_;rintro r w2 ⟨rfl,hd⟩;have HE:=zab hd;clear hd CE;go_wp2_with fail
 first|go_end0|refine bodyPost_ret (results_none rfl _ _ _) rfl ?_
 exact ⟨rfl,Did.trans HD.o.1 HD.o.2.1 HD.o.2.2.1 HD.o.2.2.2.1 HD.o.2.2.2.2 HE.o⟩
theorem znE(h:CS Z w cb rv fns bl)(hl:bl.length<=1000000000):
  Calls prog 158 #[.pointer (some ⟨cb,0,none⟩),.string sg] w fun r w'=>r=.returned (.int .i64 bl.length)/\zfH Z w cb rv fns (bl++[(2,[.comp sg,.enter])]) w':=by
 have mc:∀ (fn:Fn) (first cap:Array Value) (w:World),(Instr.makeFunc fn first cap).run prog w=.ok (.func fn first cap) w:=fun _ _ _ _=>rfl
 have HX:=zab (Blk.new w [.string sg] 9);have F0:Hid (Fr (fun _=>False) w (w.alloc (.cells #[.string sg] 9))):=zab ((Fr.refl _ _).alloc _);have HH:=zab h;clear h;go_enter func158,ntmps158
 go_wp2_with fail
 generalize w.alloc (.cells #[.string sg] 9)=w0 at HX F0 ⊢;refine (zdV _).mono ?_;rintro r w1 ⟨rfl,aD⟩;have F1:Hid (Fr (fun _=>False) w0 w1):=zab (aD ▸ (Fr.refl _ _).alloc _);have A1:Hid (Blk w1 w0.heap.size [.string ⟨#[]⟩] 9):=zab (aD ▸ Blk.new w0 [.string ⟨#[]⟩] 9);clear aD;go_wp2_with fail
 refine (zdV _).mono ?_;rintro r w2 ⟨rfl,aB⟩;have F2:Hid (Fr (fun _=>False) w1 w2):=zab (aB ▸ (Fr.refl _ _).alloc _);have A2:Hid (Blk w2 w1.heap.size [.string ⟨#[]⟩] 9):=zab (aB ▸ Blk.new w1 [.string ⟨#[]⟩] 9);clear aB;have f3:Fr (fun _=>False) w2 (w2.alloc (.cells #[.slice (some ⟨w0.heap.size,0,none⟩) 1 1,.slice (some ⟨w1.heap.size,0,none⟩) 1 1] 38)):=(Fr.refl _ _).alloc _;have one:∀ {W:World} {g:Nat},Blk W g [.string ⟨#[]⟩] 9->Row (fun _=>True) W 9 1 (.slice (some ⟨g,0,none⟩) 1 1) ([[]]:List Cp.Nm).length (strCells [[]]):=fun hb=>⟨zgj (base:=0) hb rfl (zyN _) (by unfold maxLen;omega) (zy5 _) rfl,fun _ _=>trivial⟩
 have CF:=zab (zdR (Blk.new w2 [.slice (some ⟨w0.heap.size,0,none⟩) 1 1,.slice (some ⟨w1.heap.size,0,none⟩) 1 1] 38) (one (Fr.blk A1.o (F2.o.trans f3) (by simp))) (one (Fr.blk A2.o f3 (by simp))) (by simp));have F3:=zab f3;clear f3 one;go_wp2_with fail
 refine CF.o.mono ?_;rintro r w4 ⟨sv,rfl,bA,f4⟩;obtain ⟨sp,sn,sc,rfl⟩:=zae bA;have aK:(([[]]:List Cp.Nm)++[[]]).reverse=[[],[]]:=rfl;rw[aK]at bA;have f40:=F1.o.trans (F2.o.trans (F3.o.trans f4));have f5:=F0.o.trans f40;have bK:∀ k,(Value.slice sp sn sc).ownBlock=some k->w.heap.size<=k:=fun k hk=>zyR (zyR F0.o.size (zyR F1.o.size (zyR F2.o.size F3.o.size))) (bA.2 k hk)
 have h:=HH.o;have CA:=zab (zgi (lb:=#[.pointer (some ⟨w.heap.size,0,none⟩)]) (q:=((⟨bl,[[],[]],[]⟩:Cp.Bs).write (.comp sg)).write .enter) zro (h.fr0 f5) (za0 bA.1 (zy5 _)) (fun k hk=>⟨by have:=h.clt;have:=bK k hk;omega,fun e=>by have:=h.rlt k e;have:=bK k hk;omega,fun e=>by have:=h.zlt k e;have:=bK k hk;omega⟩)
  (fun W bb bQ hb=>znD (Fr.blk (Fr.blk HX.o f40 (by simp)) bQ (by simp)) hb (by simp)) hl)
 have HS:=zab bK;have F5:=zab f5;clear h bA f4 f40 f5 bK CF aK;go_wp2_with fail
 refine CA.o.mono ?_;rintro r w6 ⟨rfl,Z',aO,z1,hc,f6,n6⟩;have HD:=zab (zmf F5.o HS.o z1 hc f6 n6);clear CA z1 hc f6 n6;go_wp2_with fail
 go_ret
 exact ⟨rfl,HD.o⟩
theorem zvI:(prog.info? 9).map (fun i=>(i.size,i.bytes,i.zero))=some (1,16,some (.string ⟨#[]⟩)):=by kernel_rfl
theorem madeS(n:Nat):madeCells (Value.cells (.string ⟨#[]⟩)) n=(strCells (List.replicate n [])).toArray:=by
 apply Array.ext
 ·simp[madeCells,strCells]
 ·intro i h1 h2;simp[madeCells,strCells,Value.cells,Nat.mod_one]
theorem ztA(hn:n<=1000000)(W:World):(Instr.makeSlice 38 (.int .i64 (n:Int)) (.int .i64 (n:Int))).run prog W=.ok (.slice (some ⟨W.heap.size,0,none⟩) n n) (W.alloc (.cells (strCells (List.replicate n [])).toArray 9)):=by
 obtain ⟨i,hi,he⟩:=zyX.1 zvI;simp only[zzL]at he;obtain ⟨h1,h2,h3⟩:=he;have:=run_make (P:=prog) W 38 9 i (.string ⟨#[]⟩) underlying38 hi h3 .i64 .i64 n n (by omega) (by omega) (by rw[h2];omega) (by omega);rw[this,h1,zy2,zAt,madeS]
theorem zrK{ar:Nat}(aK:sl=List.replicate ar [])(h:CS Z w cb rv fns bl)(hl:bl.length<=1000000000)(pQ:ar<=1000000):
  Calls prog 218 #[.pointer (some ⟨cb,0,none⟩),.agg #[.int .i64 tag,.int .i64 ar]] w fun r w'=>r=.returned (.int .i64 bl.length)/\zfH Z w cb rv fns (bl++[(sl.length,[.pack tag ar,.enter])]) w':=by
 have mc:∀ (fn:Fn) (first cap:Array Value) (w:World),(Instr.makeFunc fn first cap).run prog w=.ok (.func fn first cap) w:=fun _ _ _ _=>rfl
 have HM:=ztA pQ;have aU:sl.length=ar:=by rw[aK];simp
 rw[<-aK]at HM;obtain ⟨vs,gW⟩:∃ vs,strCells sl=vs:=⟨_,rfl⟩;have dJ:vs.length=ar:=by rw[<-gW];simp[strCells,aU]
 rw[gW]at HM;have hX:=Blk.alloc (Blk.new w [.int .i64 tag,.int .i64 ar] 219) (.cells vs.toArray 9);have f0:Fr (fun _=>False) w ((w.alloc (.cells #[.int .i64 tag,.int .i64 ar] 219)).alloc (.cells vs.toArray 9)):=((Fr.refl _ _).alloc _).alloc _;have hB:=Blk.new (w.alloc (.cells #[.int .i64 tag,.int .i64 ar] 219)) vs 9;rw[World.size_alloc]at hB;have ai:((w.alloc (.cells #[.int .i64 tag,.int .i64 ar] 219)).alloc (.cells vs.toArray 9)).ownsRow 0 9 1 (.slice (some ⟨w.heap.size+1,0,none⟩) ar ar) sl.length (strCells sl):=by
  rw[aU,gW];exact zgj hB dJ (zyN _) (by unfold maxLen;omega) (zy5 _) (by rw[<-dJ,zz7])
 have bK:∀ k,(Value.slice (some ⟨w.heap.size+1,0,none⟩) ar ar).ownBlock=some k->w.heap.size<=k:=fun k hk=>by simp[Value.ownBlock]at hk;omega
 have CA:=zab (zgi (lb:=#[.pointer (some ⟨w.heap.size,0,none⟩)]) (q:=((⟨bl,sl,[]⟩:Cp.Bs).write (.pack tag ar)).write .enter) zvq (h.fr0 f0) ai (fun k hk=>⟨by have:=h.clt;have:=bK k hk;omega,fun e=>by have:=h.rlt k e;have:=bK k hk;omega,fun e=>by have:=h.zlt k e;have:=bK k hk;omega⟩)
  (fun W bb bQ hb=>zrJ (Fr.blk hX bQ (by simp)) hb (by simp)) hl)
 have HS:=zab bK;have F0:=zab f0;clear h bK ai hB f0 hX dJ gW aU aK;go_enter func218,ntmps218
 go_wp2_with fail
 refine CA.o.mono ?_;rintro r w6 ⟨rfl,Z',aO,z1,hc,f6,n6⟩;have HD:=zab (zmf F0.o HS.o z1 hc f6 n6);clear CA z1 hc f6 n6;go_wp2_with fail
 go_ret
 exact ⟨rfl,HD.o⟩
theorem zqn(f:Fr (fun _=>False) w w2)(hs:∀ k,sv.ownBlock=some k->w.heap.size<=k)(hz:∀ k,k<w.heap.size->(Z' k↔Z k))(hc:CS Z' w' cb aO fns bl)(f2:Fr (fun k=>k=cb\/rv.ownBlock=some k\/sv.ownBlock=some k) w2 w')(hn:New w2 rv aO):zfH Z w cb rv fns bl w':=by
 refine ⟨Z',aO,hz,hc,?_,New.trans (New.refl w rv) hn f.size⟩;refine ⟨f2.os.trans f.os,f2.tape.trans f.tape,f2.output.trans f.output,zyR f.size f2.size,fun i hi hK=>(f2.block i (zyS hi f.size) (fun hn=>?_)).trans (f.block i hi (by simp))⟩;rcases hn with e|e|e
 ·exact hK (.inl e)
 ·exact hK (.inr e)
 ·have:=hs i e;omega
variable {Z1:Nat->Prop}{w1:World}
theorem BS.box{k:Nat}{vs:List Value}(h:BS Z w cb bb rv sv kv fns q)(f:Fr (KL cb bb rv sv kv) w w1)(z:∀ k,k<w.heap.size->(Z1 k↔Z k))(hb:Blk w k vs t)(hz:Z k):Blk w1 k vs t/\Z1 k:=
 ⟨Fr.blk hb f (h.zk k hz),(z k hb.lt).2 hz⟩
theorem BS.rep(h:BS Z w cb bb rv sv kv fns q)(f:Fr (KL cb bb rv sv kv) w w1)(z:∀ k,k<w.heap.size->(Z1 k↔Z k))(hr:Rep Z w n v e):Rep Z1 w1 n v e:=
 hr.frz f (fun k _ hz=>h.zk k hz) (fun k hk hz=>(z k hk).2 hz)
theorem BS.row{size:Nat}{xs:List Value}(h:BS Z w cb bb rv sv kv fns q)(f:Fr (KL cb bb rv sv kv) w w1)(z:∀ k,k<w.heap.size->(Z1 k↔Z k))(hr:Row Z w t size v n xs):Row Z1 w1 t size v n xs:=
 hr.frz f (fun k _ hz=>h.zk k hz) (fun k hk hz=>(z k hk).2 hz)
def Cp.zjJ (wk:Cp.Bs->Cp.Bs) (sg:ByteArray) (q:Cp.Bs):Cp.Bs:=
 let q2:=(q.write .zbX).push (.push (q.zac.length-1))
 wk (Cp.Bs.push ⟨q2.blocks++[(2,[.comp sg,.enter])],q2.zac,q2.code⟩ (.wait q2.blocks.length))
variable {m:Nat}
theorem zrS(hW:zbi M N n){bc bo:Nat}{lv:Value}(hm:q.zac.length=m+1)(hc:Blk w bc [.pointer (some ⟨cb,0,none⟩)] 83)(zc:Z bc)(ho:Blk w bo [.string sg,lv,.iface t x] 166)(zo:Z bo)(h:BS Z w cb bb rv sv kv fns q)(hr:Rep Z w n (.iface t x) e)(aN:q.code.length<=1000000)(aK:q.zac.length<=1000000)(cV:q.blocks.length<=1000000)(hf:∀ bl cd,bl.length=q.blocks.length+1->cd.length=q.code.length+3->Fit M N fns ⟨bl,(q.zac++[[]])++[[]],cd⟩ e)(aw:2+(M+8)*Cp.wt N e<=1000000000):
  Calls prog 156 #[.pointer (some ⟨bb,0,none⟩),.pointer (some ⟨bc,0,none⟩),.pointer (some ⟨bo,0,none⟩)] w fun r w'=>r=.returned (.tuple #[])/\Did Z w cb bb rv sv kv fns (Cp.zjJ (Cp.work (Cp.free N) fns n e 2) sg q) w':=by
 obtain ⟨sp,sc,Hc,bA,_⟩:=zaO h.ziW;rw[hm]at bA;subst bA;have c1:=Blk.cell h.zbY 1;simp at c1;have CW:=zab (zbS (i:=.zbX) h rfl (by omega));have HH:=zab (And.intro h (And.intro hr (And.intro hf (And.intro hc (And.intro zc (And.intro ho zo))))));have HW:=zab hW;have HM:=zab hm;have GL:m<=1000000:=by omega
 clear h hr hf hc zc ho zo hW hm;go_enter func156,ntmps156
 go_wp2_with fail
 refine CW.o.mono ?_;rintro r w1 ⟨rfl,Z1,bh,bf,cA,z1,b1,f1,n1,n2,n3⟩;obtain ⟨h,hr,hf,hc,zc,ho,zo⟩:=HH.o;have CP:=zab (zbn (i:=.push m) b1 rfl (by simp[Cp.Bs.write];omega) (by simp[Cp.Bs.write];omega));have X1:=zab (And.intro z1 (And.intro b1 (And.intro f1 (And.intro n1 (And.intro n2 n3)))));have Y1:=zab (And.intro (h.rep f1 z1 hr) (And.intro (h.box f1 z1 hc zc) (h.box f1 z1 ho zo)));have HF:=zab hf;clear CW c1 h hr hf hc zc ho zo z1 b1 f1 n1 n2 n3 HH;go_wp2_with fail
 refine CP.o.mono ?_;rintro r w2 ⟨rfl,Z2,im,iq,ik,z1,b1,f1,n1,n2,n3⟩;have h:=X1.o.2.1;have hc:=h.box f1 z1 Y1.o.2.1.1 Y1.o.2.1.2;have ho:=h.box f1 z1 Y1.o.2.2.1 Y1.o.2.2.2;have CC:=zab (znE (sg:=sg) b1.cs (by simp[Cp.Bs.write,Cp.Bs.push];omega));have c0:=Blk.cell hc.1 0;have o0:=Blk.cell ho.1 0;simp at c0 o0;have X2:=zab (And.intro z1 (And.intro b1 (And.intro f1 (And.intro n1 (And.intro n2 n3)))));have Y2:=zab (And.intro (h.rep f1 z1 Y1.o.1) (And.intro hc ho));clear CP h hc ho z1 b1 f1 n1 n2 n3;go_wp2_with fail
 refine CC.o.mono ?_;rintro r w3 ⟨rfl,dc⟩;obtain ⟨Z3,j8,j9,j7,z1,b1,f1,n1,n2,n3⟩:=dc.did X2.o.2.1;have h:=X2.o.2.1;have ho:=h.box f1 z1 Y2.o.2.2.1 Y2.o.2.2.2;have CP:=zab (zbn (i:=.wait q.blocks.length) b1 rfl (by simp[Cp.Bs.write,Cp.Bs.push];omega) (by simp[Cp.Bs.write,Cp.Bs.push];omega));have X3:=zab (And.intro z1 (And.intro b1 (And.intro f1 (And.intro n1 (And.intro n2 n3)))));have Y3:=zab (And.intro (h.rep f1 z1 Y2.o.1) ho);clear CC h ho z1 b1 f1 n1 n2 n3 c0 o0 dc;go_wp2_with fail
 refine CP.o.mono ?_;rintro r w4 ⟨rfl,Z4,yA,yC,yv,z1,b1,f1,n1,n2,n3⟩;have h:=X3.o.2.1;have ho:=h.box f1 z1 Y3.o.2.1 Y3.o.2.2;have o2:=Blk.cell ho.1 2;simp at o2;have CK:=zab (HW.o (below:=2) b1 (h.rep f1 z1 Y3.o.1) (HF.o _ _ (by simp[Cp.Bs.write,Cp.Bs.push]) (by simp[Cp.Bs.write,Cp.Bs.push])) aw);have X4:=zab (And.intro z1 (And.intro b1 (And.intro f1 (And.intro n1 (And.intro n2 n3)))));clear CP h ho z1 b1 f1 n1 n2 n3;go_wp2_with fail
 refine CK.o.mono ?_;rintro r w5 ⟨rfl,d5⟩;have D5:=zab d5;clear d5 CK o2;go_wp2_with fail
 first|go_end0|refine bodyPost_ret (results_none rfl _ _ _) rfl ?_
 refine ⟨rfl,?_⟩;obtain ⟨z1,b1,f1,n1,n2,n3⟩:=X1.o;refine Did.trans z1 f1 n1 n2 n3 ?_;obtain ⟨z1,b1,f1,n1,n2,n3⟩:=X2.o;refine Did.trans z1 f1 n1 n2 n3 ?_;obtain ⟨z1,b1,f1,n1,n2,n3⟩:=X3.o;refine Did.trans z1 f1 n1 n2 n3 ?_;obtain ⟨z1,b1,f1,n1,n2,n3⟩:=X4.o;refine Did.trans z1 f1 n1 n2 n3 ?_;have d5:=D5.o;unfold Cp.zjJ;rw[HM.o];simpa [Cp.Bs.write,Cp.Bs.push] using d5
end Go.Proofs.YtgahgkddaljmkaaGreatDoor
