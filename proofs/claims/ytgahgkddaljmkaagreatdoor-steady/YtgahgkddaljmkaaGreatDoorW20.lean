/- Cmp8 .. Cmp13 -/
import Derived.Test.YtgahgkddaljmkaaGreatDoorW19
set_option maxRecDepth 100000
set_option maxHeartbeats 4000000
namespace Go.Proofs.YtgahgkddaljmkaaGreatDoor
open Tryz
open Go.RowKit Go.Shelf
attribute [local go_sem ↓] Go.wp_at_zero Go.wp_at_succ
def Names (base:Nat) (w:World) (v:Value) (l:List Cp.Nm):Prop:=Row (fun b=>base<=b) w 9 1 v l.length (strCells l)
variable {w:World}
variable {v:Value}
variable {l:List Cp.Nm}
theorem Names.fr0{base:Nat}{w':World}(h:Names base w v l)(f:Fr (fun _=>False) w w'):Names base w' v l:=Row.frc h f (by simp)
theorem Names.base{base b':Nat}{w:World}{v:Value}{l:List Cp.Nm}(h:Names base w v l)(hb:b'<=base):Names b' w v l:=⟨h.1,fun k hk=>zyR hb (h.2 k hk)⟩
variable {S:Nat->Prop}
theorem Rep.fr0{w':World}{n:Nat}{e:Th.Ex}(h:Rep S w n v e)(f:Fr (fun _=>False) w w'):Rep S w' n v e:=Rep.imp (fun _ _ _ _ _ hR=>hR.frc f (by simp)) n v e h
theorem zdp{Z1 Z2:Nat->Prop}{lv mv:Value}{more:List Cp.Nm}(h1:Row Z1 w 9 1 lv l.length (strCells l))(h2:Row Z2 w 9 1 mv more.length (strCells more))(aL:l.length<=1000000)(aC:more.length<=1000000):
  Calls prog 150 #[lv,mv] w fun e w'=>∃ v',e=.returned v'/\Names w.heap.size w' v' (Cp.union l more)/\Fr (fun _=>False) w w':=by
 obtain ⟨la,ln,lc,rfl⟩:=zaF h1.1;have CW:=zab (zkm h2 h1 aC aL);have H1:=zab h1;have eE:(Cp.zaH more l).length<=1000000:=zyR (List.length_filter_le _ _) aC;clear h1 h2;go_enter func150,ntmps150
 go_wp2_with fail
 refine CW.o.mono ?_;rintro e w2 ⟨v',rfl,ai,f2⟩;obtain ⟨va,vn,vc,rfl⟩:=zaF ai;have F2:=zab f2;have CC:=zab (zfs (H1.o.frc f2 (by simp)) (Row.zaE ai) aL eE);clear f2 ai CW;go_wp2_with fail
 refine CC.o.mono ?_;rintro e w3 ⟨a,k,c,rfl,hr,hb⟩;have HR:=zab hr;have F3:=zab (F2.o.trans (Fr.below hb));clear hr hb CC;go_wp2_with fail
 go_ret
 exact ⟨_,rfl,Names.base HR.o F2.o.size,F3.o⟩
def Cp.wt:Nat->Th.Ex->Nat
 |0,_=>0
 |n+1,e=>1+e.names.length+(e.zao.map fun a=>1+a.2.length).sum+(e.kids.map (Cp.wt n)).sum
theorem Cp.zbp(l g:List Cp.Nm):(Cp.zaH l g).length<=l.length:=List.length_filter_le _ _
theorem Cp.zcP(l m:List Cp.Nm):(Cp.union l m).length<=l.length+m.length:=by
 unfold Cp.union;rw[zyT];have:=Cp.zbp m l;omega
theorem Cp.zed(f:Th.Ex->List Cp.Nm)(g:Th.Ex->Nat)(hf:∀ e,(f e).length<=g e):∀ (ps:List Th.Ex) (l:List Cp.Nm),(Cp.zav f ps l).length<=l.length+(ps.map g).sum
 |[],l=>by simp[Cp.zav]
 |p::ps,l=>by
  have h1:=Cp.zed f g hf ps (Cp.union l (f p));have h2:=Cp.zcP l (f p);have h3:=hf p;simp only[Cp.zav,zza,zzd];omega
theorem Cp.zbN(f:Th.Ex->List Cp.Nm)(g:Th.Ex->Nat)(hf:∀ e,(f e).length<=g e):∀ (az:List (Nat × List Th.Tok)) (bs:List Th.Ex) (l:List Cp.Nm),(Cp.zas f az bs l).length<=l.length+(bs.map g).sum
 |[],bs,l=>by simp[Cp.zas]
 |_::_,[],l=>by simp[Cp.zas]
 |a::az,b::bs,l=>by
  have h1:=Cp.zbN f g hf az bs (Cp.union l (Cp.zaH (f b) (Th.texts a.2)));have h2:=Cp.zcP l (Cp.zaH (f b) (Th.texts a.2));have h3:=Cp.zbp (f b) (Th.texts a.2);have h4:=hf b;simp only[Cp.zas,zza,zzd];omega
theorem Cp.zaZ:∀ (n:Nat) (e:Th.Ex),(Cp.free n e).length<=Cp.wt n e
 |0,_=>by simp[Cp.free]
 |n+1,e=>by
  have ih:=Cp.zaZ n;rw[Cp.free,Cp.wt];split
  ·simp;omega
  ·split
   ·split
    ·next b hk=>
     have h1:=Cp.zbp (Cp.free n b) (Th.texts e.names);have h2:=ih b;rw[hk];simp;omega
    ·simp
   ·split
    ·split
     ·next a b hk=>
      have h1:=Cp.zcP (Cp.free n a) (Cp.free n b);have h2:=ih a;have h3:=ih b;rw[hk];simp;omega
     ·simp
    ·split
     ·split
      ·next b ps hk=>
       have h1:=Cp.zcP (Cp.zav (Cp.free n) ps []) (Cp.zaH (Cp.free n b) (Th.texts e.names));have h2:=Cp.zed (Cp.free n) (Cp.wt n) ih ps [];have h3:=Cp.zbp (Cp.free n b) (Th.texts e.names);have h4:=ih b;rw[hk];simp at h2 ⊢;omega
      ·simp
     ·split
      ·split
       ·next b ps hk=>
        have h1:=Cp.zcP (Cp.zaH (Cp.zav (Cp.free n) ps []) (Th.texts e.names)) (Cp.zaH (Cp.free n b) (Th.texts e.names));have h2:=Cp.zed (Cp.free n) (Cp.wt n) ih ps [];have h5:=Cp.zbp (Cp.zav (Cp.free n) ps []) (Th.texts e.names);have h3:=Cp.zbp (Cp.free n b) (Th.texts e.names);have h4:=ih b;rw[hk];simp at h2 ⊢;omega
       ·simp
      ·split
       ·split
        ·next b ps hk=>
         have h1:=Cp.zcP (Cp.free n b) (Cp.zas (Cp.free n) e.zao ps []);have h2:=Cp.zbN (Cp.free n) (Cp.wt n) ih e.zao ps [];have h4:=ih b;rw[hk];simp at h2 ⊢;omega
        ·simp
       ·simp
def zye (n:Nat):Prop:=∀ {S:Nat->Prop} {w:World} {v:Value} {e:Th.Ex},Rep S w n v e->Cp.wt n e<=1000000 ->
 Calls prog 89 #[v] w fun r w'=>∃ v',r=.returned v'/\Names w.heap.size w' v' (Cp.free n e)/\Fr (fun _=>False) w w'
theorem zpt{x:Int}:
  Calls prog 89 #[.iface 217 (.agg #[.int .i64 x])] w fun r w'=>∃ v',r=.returned v'/\Names w.heap.size w' v' []/\Fr (fun _=>False) w w':=by
 have i0:=zhB;have i1:=zdM;have i2:=zdo;have i3:=zhA;have i4:=zgf;have i5:=zeA;go_enter func89,ntmps89
 go_wp2_with fail
 go_ret
 exact ⟨_,rfl,⟨World.ownsRow_nil _ _ _ _,by simp[Value.ownBlock]⟩,Fr.refl _ _⟩
theorem zrw{x y:Int}:
  Calls prog 89 #[.iface 219 (.agg #[.int .i64 x,.int .i64 y])] w fun r w'=>∃ v',r=.returned v'/\Names w.heap.size w' v' []/\Fr (fun _=>False) w w':=by
 have i0:=zfj;have i1:=zew;have i2:=zdC;have i3:=ziq;have i4:=zhz;have i5:=zfh;go_enter func89,ntmps89
 go_wp2_with fail
 go_ret
 exact ⟨_,rfl,⟨World.ownsRow_nil _ _ _ _,by simp[Value.ownBlock]⟩,Fr.refl _ _⟩
theorem zvz{x:Cp.Nm}{y:Int}:
  Calls prog 89 #[.iface 215 (.agg #[.string ⟨x.toArray⟩,.int .i64 y])] w fun r w'=>∃ v',r=.returned v'/\Names w.heap.size w' v' [x]/\Fr (fun _=>False) w w':=by
 have i0:=zlW;go_enter func89,ntmps89
 go_wp2_with fail
 go_ret
 refine ⟨_,rfl,?_,((Fr.refl _ _).alloc _).alloc _⟩;have hB:=Blk.new (w.alloc (.cells #[.string ⟨x.toArray⟩,.int .i64 y] 215)) [.string ⟨x.toArray⟩] 9;rw[World.size_alloc]at hB;refine ⟨zgj (vs:=[.string ⟨x.toArray⟩]) hB rfl (zyN _) (by unfold maxLen;omega) (zy5 _) (by simp[strCells]),fun k hk=>?_⟩;simp[Value.ownBlock]at hk;omega
variable {t1:TypeId}
variable {x1:Value}
variable {l1 l2:List Cp.Nm}
theorem ztb{t2:TypeId}{x2:Value}(aL:l1.length<=1000000)(aC:l2.length<=1000000)(c1:∀ W,Fr (fun _=>False) w W->Calls prog 89 #[.iface t1 x1] W fun r w'=>∃ v',r=.returned v'/\Names W.heap.size w' v' l1/\Fr (fun _=>False) W w')(c2:∀ W,Fr (fun _=>False) w W->Calls prog 89 #[.iface t2 x2] W fun r w'=>∃ v',r=.returned v'/\Names W.heap.size w' v' l2/\Fr (fun _=>False) W w'):
  Calls prog 89 #[.iface 163 (.agg #[.iface t1 x1,.iface t2 x2])] w fun r w'=>∃ v',r=.returned v'/\Names w.heap.size w' v' (Cp.union l1 l2)/\Fr (fun _=>False) w w':=by
 have C1:=zab c1;have C2:=zab c2;clear c1 c2;have i0:=zkf;have i1:=zff;have B0:=zab (Blk.new w [.iface t1 x1,.iface t2 x2] 163);have F0:Hid (Fr (fun _=>False) w (w.alloc (.cells #[.iface t1 x1,.iface t2 x2] 163))):=zab ((Fr.refl _ _).alloc _);go_enter func89,ntmps89
 go_wp2_with fail
 generalize w.alloc (.cells #[.iface t1 x1,.iface t2 x2] 163)=w1 at B0 F0 ⊢;have B1:=B0;clear i0 i1 B0;have FC:Hid (Fr (fun _=>False) w1 w1.drew):=zab (Fr.refl _ _).drew;have q0:=Blk.cell B1.o 0;have q1:=Blk.cell B1.o 1;simp at q0 q1
 go_region_held3 (fun W=>W.cell? ⟨w.heap.size,0,none⟩=some (.iface t1 x1)/\W.cell? ⟨w.heap.size,1,none⟩=some (.iface t2 x2)) (first|(refine ⟨?_,?_⟩ <;> assumption)|go_keep) (first
  |(go_at_call 89;with_reducible refine (C1.o _ (F0.o.trans FC.o)).mono ?_;rintro e wA ⟨va,rfl,ra,fa⟩;have dO:=zab (FC.o.trans fa);(try (have jA:=zab (RB.o.fr0 fa);clear RB;have RB:=jA;clear jA));have RA:=zab (ra.base (zy5 _));clear FC;have FC:=dO;clear dO;have wx:wA.cell? ⟨w.heap.size,0,none⟩=some (.iface t1 x1):=(by simpa using Blk.cell (Fr.blk B1.o FC.o (by simp)) 0);have wE:wA.cell? ⟨w.heap.size,1,none⟩=some (.iface t2 x2):=(by simpa using Blk.cell (Fr.blk B1.o FC.o (by simp)) 1);clear ra fa)
  |(go_at_call 89;with_reducible refine (C2.o _ (F0.o.trans FC.o)).mono ?_;rintro e wB ⟨vb,rfl,rb,fb⟩;have dO:=zab (FC.o.trans fb);(try (have jz:=zab (RA.o.fr0 fb);clear RA;have RA:=jz;clear jz));have RB:=zab (rb.base (zy5 _));clear FC;have FC:=dO;clear dO;have wC:wB.cell? ⟨w.heap.size,0,none⟩=some (.iface t1 x1):=(by simpa using Blk.cell (Fr.blk B1.o FC.o (by simp)) 0);have wF:wB.cell? ⟨w.heap.size,1,none⟩=some (.iface t2 x2):=(by simpa using Blk.cell (Fr.blk B1.o FC.o (by simp)) 1);clear rb fb)
  |(go_at_call 150;refine (zdp RA.o RB.o aL aC).mono ?_;rintro e wU ⟨vu,rfl,ru,fu⟩;have FU:=zab (FC.o.trans fu);have RU:=zab ru;have jP:=zab FC.o.size;have wD:wU.cell? ⟨w.heap.size,0,none⟩=some (.iface t1 x1):=(by simpa using Blk.cell (Fr.blk B1.o FU.o (by simp)) 0);have uw:wU.cell? ⟨w.heap.size,1,none⟩=some (.iface t2 x2):=(by simpa using Blk.cell (Fr.blk B1.o FU.o (by simp)) 1);clear ru fu))
 all_goals
  go_wp2_with fail
  go_ret
  exact ⟨_,rfl,RU.o.base (zyR F0.o.size jP.o),F0.o.trans FU.o⟩
theorem zkB{t2:TypeId}{x2:Value}{s:ByteArray}(aL:l1.length<=1000000)(aC:l2.length<=1000000)(c1:∀ W,Fr (fun _=>False) w W->Calls prog 89 #[.iface t1 x1] W fun r w'=>∃ v',r=.returned v'/\Names W.heap.size w' v' l1/\Fr (fun _=>False) W w')(c2:∀ W,Fr (fun _=>False) w W->Calls prog 89 #[.iface t2 x2] W fun r w'=>∃ v',r=.returned v'/\Names W.heap.size w' v' l2/\Fr (fun _=>False) W w'):
  Calls prog 89 #[.iface 166 (.agg #[.string s,.iface t1 x1,.iface t2 x2])] w fun r w'=>∃ v',r=.returned v'/\Names w.heap.size w' v' (Cp.union l1 l2)/\Fr (fun _=>False) w w':=by
 have C1:=zab c1;have C2:=zab c2;clear c1 c2;have i0:=zeB;have i1:=zcD;have i2:=zcw;have B0:=zab (Blk.new w [.string s,.iface t1 x1,.iface t2 x2] 166);have F0:Hid (Fr (fun _=>False) w (w.alloc (.cells #[.string s,.iface t1 x1,.iface t2 x2] 166))):=zab ((Fr.refl _ _).alloc _);go_enter func89,ntmps89
 go_wp2_with fail
 generalize w.alloc (.cells #[.string s,.iface t1 x1,.iface t2 x2] 166)=w1 at B0 F0 ⊢;have B1:=B0;clear i0 i1 i2 B0;have FC:Hid (Fr (fun _=>False) w1 w1.drew):=zab (Fr.refl _ _).drew;have q0:=Blk.cell B1.o 1;have q1:=Blk.cell B1.o 2;simp at q0 q1
 go_region_held3 (fun W=>W.cell? ⟨w.heap.size,1,none⟩=some (.iface t1 x1)/\W.cell? ⟨w.heap.size,2,none⟩=some (.iface t2 x2)) (first|(refine ⟨?_,?_⟩ <;> assumption)|go_keep) (first
  |(go_at_call 89;with_reducible refine (C1.o _ (F0.o.trans FC.o)).mono ?_;rintro e wA ⟨va,rfl,ra,fa⟩;have dO:=zab (FC.o.trans fa);(try (have jA:=zab (RB.o.fr0 fa);clear RB;have RB:=jA;clear jA));have RA:=zab (ra.base (zy5 _));clear FC;have FC:=dO;clear dO;have wx:wA.cell? ⟨w.heap.size,1,none⟩=some (.iface t1 x1):=(by simpa using Blk.cell (Fr.blk B1.o FC.o (by simp)) 1);have wE:wA.cell? ⟨w.heap.size,2,none⟩=some (.iface t2 x2):=(by simpa using Blk.cell (Fr.blk B1.o FC.o (by simp)) 2);clear ra fa)
  |(go_at_call 89;with_reducible refine (C2.o _ (F0.o.trans FC.o)).mono ?_;rintro e wB ⟨vb,rfl,rb,fb⟩;have dO:=zab (FC.o.trans fb);(try (have jz:=zab (RA.o.fr0 fb);clear RA;have RA:=jz;clear jz));have RB:=zab (rb.base (zy5 _));clear FC;have FC:=dO;clear dO;have wC:wB.cell? ⟨w.heap.size,1,none⟩=some (.iface t1 x1):=(by simpa using Blk.cell (Fr.blk B1.o FC.o (by simp)) 1);have wF:wB.cell? ⟨w.heap.size,2,none⟩=some (.iface t2 x2):=(by simpa using Blk.cell (Fr.blk B1.o FC.o (by simp)) 2);clear rb fb)
  |(go_at_call 150;refine (zdp RA.o RB.o aL aC).mono ?_;rintro e wU ⟨vu,rfl,ru,fu⟩;have FU:=zab (FC.o.trans fu);have RU:=zab ru;have jP:=zab FC.o.size;have wD:wU.cell? ⟨w.heap.size,1,none⟩=some (.iface t1 x1):=(by simpa using Blk.cell (Fr.blk B1.o FU.o (by simp)) 1);have uw:wU.cell? ⟨w.heap.size,2,none⟩=some (.iface t2 x2):=(by simpa using Blk.cell (Fr.blk B1.o FU.o (by simp)) 2);clear ru fu))
 all_goals
  go_wp2_with fail
  go_ret
  exact ⟨_,rfl,RU.o.base (zyR F0.o.size jP.o),F0.o.trans FU.o⟩
theorem zcQ{Z1 Z2:Nat->Prop}{lv gv:Value}{gone:List Cp.Nm}(h1:Row Z1 w 9 1 lv l.length (strCells l))(h2:Row Z2 w 9 1 gv gone.length (strCells gone))(aL:l.length<=1000000)(aC:gone.length<=1000000):
  Calls prog 152 #[lv,gv] w fun e w'=>∃ v',e=.returned v'/\Names w.heap.size w' v' (Cp.zaH l gone)/\Fr (fun _=>False) w w':=
 (zkm h1 h2 aL aC).mono fun _ _ ⟨v',e,h,f⟩=>⟨v',e,Row.zaE h,f⟩
theorem zd1{nv:Value}{l:List Th.Tok}(hr:Row S w 88 2 nv l.length (zaj l))(hl:l.length<=1000000):
  Calls prog 52 #[nv] w fun e w'=>∃ v',e=.returned v'/\Names w.heap.size w' v' (Th.texts l)/\Fr (fun _=>False) w w':=
 (ze4 hr hl).mono fun _ _ ⟨v',e,h,f⟩=>⟨v',e,Row.zaE (by simpa [Th.texts] using h),Fr.below f⟩
variable {p:Option Addr}
variable {m cp:Nat}
theorem ztc(aL:l1.length<=1000000)(aC:l2.length<=1000000)(c1:∀ W,Fr (fun _=>False) w W->Calls prog 89 #[.iface t1 x1] W fun r w'=>∃ v',r=.returned v'/\Names W.heap.size w' v' l1/\Fr (fun _=>False) W w')(c2:∀ W,Fr (fun _=>False) w W->Calls prog 92 #[.slice p m cp] W fun r w'=>∃ v',r=.returned v'/\Names W.heap.size w' v' l2/\Fr (fun _=>False) W w'):
  Calls prog 89 #[.iface 173 (.agg #[.iface t1 x1,.slice p m cp])] w fun r w'=>∃ v',r=.returned v'/\Names w.heap.size w' v' (Cp.union l1 l2)/\Fr (fun _=>False) w w':=by
 have C1:=zab c1;have C2:=zab c2;clear c1 c2;have i0:=zkg;have i1:=zfg;have i2:=zd5;have i3:=zp2;have i4:=zin;have B0:=zab (Blk.new w [.iface t1 x1,.slice p m cp] 173);have F0:Hid (Fr (fun _=>False) w (w.alloc (.cells #[.iface t1 x1,.slice p m cp] 173))):=zab ((Fr.refl _ _).alloc _);go_enter func89,ntmps89
 go_wp2_with fail
 generalize w.alloc (.cells #[.iface t1 x1,.slice p m cp] 173)=w1 at B0 F0 ⊢;have B1:=B0;clear i0 i1 i2 i3 i4 B0;have FC:Hid (Fr (fun _=>False) w1 w1.drew):=zab (Fr.refl _ _).drew;have q0:=Blk.cell B1.o 0;have q1:=Blk.cell B1.o 1;simp at q0 q1
 go_region_held3 (fun W=>W.cell? ⟨w.heap.size,0,none⟩=some (.iface t1 x1)/\W.cell? ⟨w.heap.size,1,none⟩=some (.slice p m cp)) (first|(refine ⟨?_,?_⟩ <;> assumption)|go_keep) (first
  |(go_at_call 89;with_reducible refine (C1.o _ (F0.o.trans FC.o)).mono ?_;rintro e wA ⟨va,rfl,ra,fa⟩;have dO:=zab (FC.o.trans fa);(try (have jA:=zab (RB.o.fr0 fa);clear RB;have RB:=jA;clear jA));have RA:=zab (ra.base (zy5 _));clear FC;have FC:=dO;clear dO;have wx:wA.cell? ⟨w.heap.size,0,none⟩=some (.iface t1 x1):=(by simpa using Blk.cell (Fr.blk B1.o FC.o (by simp)) 0);have wE:wA.cell? ⟨w.heap.size,1,none⟩=some (.slice p m cp):=(by simpa using Blk.cell (Fr.blk B1.o FC.o (by simp)) 1);clear ra fa)
  |(go_at_call 92;with_reducible refine (C2.o _ (F0.o.trans FC.o)).mono ?_;rintro e wB ⟨vb,rfl,rb,fb⟩;have dO:=zab (FC.o.trans fb);(try (have jz:=zab (RA.o.fr0 fb);clear RA;have RA:=jz;clear jz));have RB:=zab (rb.base (zy5 _));clear FC;have FC:=dO;clear dO;have wC:wB.cell? ⟨w.heap.size,0,none⟩=some (.iface t1 x1):=(by simpa using Blk.cell (Fr.blk B1.o FC.o (by simp)) 0);have wF:wB.cell? ⟨w.heap.size,1,none⟩=some (.slice p m cp):=(by simpa using Blk.cell (Fr.blk B1.o FC.o (by simp)) 1);clear rb fb)
  |(go_at_call 150;refine (zdp RA.o RB.o aL aC).mono ?_;rintro e wU ⟨vu,rfl,ru,fu⟩;have FU:=zab (FC.o.trans fu);have RU:=zab ru;have jP:=zab FC.o.size;have wD:wU.cell? ⟨w.heap.size,0,none⟩=some (.iface t1 x1):=(by simpa using Blk.cell (Fr.blk B1.o FU.o (by simp)) 0);have uw:wU.cell? ⟨w.heap.size,1,none⟩=some (.slice p m cp):=(by simpa using Blk.cell (Fr.blk B1.o FU.o (by simp)) 1);clear ru fu))
 all_goals
  go_wp2_with fail
  go_ret
  exact ⟨_,rfl,RU.o.base (zyR F0.o.size jP.o),F0.o.trans FU.o⟩
theorem zps(aL:l1.length<=1000000)(aC:l2.length<=1000000)(c1:∀ W,Fr (fun _=>False) w W->Calls prog 89 #[.iface t1 x1] W fun r w'=>∃ v',r=.returned v'/\Names W.heap.size w' v' l1/\Fr (fun _=>False) W w')(c2:∀ W,Fr (fun _=>False) w W->Calls prog 52 #[.slice p m cp] W fun r w'=>∃ v',r=.returned v'/\Names W.heap.size w' v' l2/\Fr (fun _=>False) W w'):
  Calls prog 89 #[.iface 226 (.agg #[.slice p m cp,.iface t1 x1])] w fun r w'=>∃ v',r=.returned v'/\Names w.heap.size w' v' (Cp.zaH l1 l2)/\Fr (fun _=>False) w w':=by
 have C1:=zab c1;have C2:=zab c2;clear c1 c2;have i0:=zhy;have i1:=zdK;have i2:=zdn;have i3:=zhx;have i4:=zge;have i5:=zey;have B0:=zab (Blk.new w [.slice p m cp,.iface t1 x1] 226);have F0:Hid (Fr (fun _=>False) w (w.alloc (.cells #[.slice p m cp,.iface t1 x1] 226))):=zab ((Fr.refl _ _).alloc _);go_enter func89,ntmps89
 go_wp2_with fail
 generalize w.alloc (.cells #[.slice p m cp,.iface t1 x1] 226)=w1 at B0 F0 ⊢;have B1:=B0;clear i0 i1 i2 i3 i4 i5 B0;have FC:Hid (Fr (fun _=>False) w1 w1.drew):=zab (Fr.refl _ _).drew;have q0:=Blk.cell B1.o 1;have q1:=Blk.cell B1.o 0;simp at q0 q1
 go_region_held3 (fun W=>W.cell? ⟨w.heap.size,1,none⟩=some (.iface t1 x1)/\W.cell? ⟨w.heap.size,0,none⟩=some (.slice p m cp)) (first|(refine ⟨?_,?_⟩ <;> assumption)|go_keep) (first
  |(go_at_call 89;with_reducible refine (C1.o _ (F0.o.trans FC.o)).mono ?_;rintro e wA ⟨va,rfl,ra,fa⟩;have dO:=zab (FC.o.trans fa);(try (have jA:=zab (RB.o.fr0 fa);clear RB;have RB:=jA;clear jA));have RA:=zab (ra.base (zy5 _));clear FC;have FC:=dO;clear dO;have wx:wA.cell? ⟨w.heap.size,1,none⟩=some (.iface t1 x1):=(by simpa using Blk.cell (Fr.blk B1.o FC.o (by simp)) 1);have wE:wA.cell? ⟨w.heap.size,0,none⟩=some (.slice p m cp):=(by simpa using Blk.cell (Fr.blk B1.o FC.o (by simp)) 0);clear ra fa)
  |(go_at_call 52;with_reducible refine (C2.o _ (F0.o.trans FC.o)).mono ?_;rintro e wB ⟨vb,rfl,rb,fb⟩;have dO:=zab (FC.o.trans fb);(try (have jz:=zab (RA.o.fr0 fb);clear RA;have RA:=jz;clear jz));have RB:=zab (rb.base (zy5 _));clear FC;have FC:=dO;clear dO;have wC:wB.cell? ⟨w.heap.size,1,none⟩=some (.iface t1 x1):=(by simpa using Blk.cell (Fr.blk B1.o FC.o (by simp)) 1);have wF:wB.cell? ⟨w.heap.size,0,none⟩=some (.slice p m cp):=(by simpa using Blk.cell (Fr.blk B1.o FC.o (by simp)) 0);clear rb fb)
  |(go_at_call 152;refine (zcQ RA.o RB.o aL aC).mono ?_;rintro e wU ⟨vu,rfl,ru,fu⟩;have FU:=zab (FC.o.trans fu);have RU:=zab ru;have jP:=zab FC.o.size;have wD:wU.cell? ⟨w.heap.size,1,none⟩=some (.iface t1 x1):=(by simpa using Blk.cell (Fr.blk B1.o FU.o (by simp)) 1);have uw:wU.cell? ⟨w.heap.size,0,none⟩=some (.slice p m cp):=(by simpa using Blk.cell (Fr.blk B1.o FU.o (by simp)) 0);clear ru fu))
 all_goals
  go_wp2_with fail
  go_ret
  exact ⟨_,rfl,RU.o.base (zyR F0.o.size jP.o),F0.o.trans FU.o⟩
def zqd (w:World) (v:Value) (l:List Cp.Nm):Prop:=∀ W,Fr (fun _=>False) w W->Calls prog 89 #[v] W fun r w'=>∃ v',r=.returned v'/\Names W.heap.size w' v' l/\Fr (fun _=>False) W w'
variable {g:Th.Ex->Nat}
theorem zf8{sv:Value}{zao:List (Nat × List Th.Tok)}{ag:List Th.Ex}{nvs bvs:List Value}{f:Th.Ex->List Cp.Nm}(hg:∀ e,(f e).length<=g e)(h3:ag.length=zao.length)(h4:nvs.length=zao.length)(h5:bvs.length=zao.length)(h6:Row S w 240 3 sv zao.length (za7 zao nvs bvs))(h7:∀ (i:Nat) (a:Nat × List Th.Tok) (nv:Value),zao[i]?=some a->nvs[i]?=some nv->Row S w 88 2 nv a.2.length (zaj a.2)/\a.2.length<=1000000)(h8:∀ (i:Nat) (bv:Value) (p:Th.Ex),bvs[i]?=some bv->ag[i]?=some p->(∃ t x,bv=.iface t x)/\zqd w bv (f p))(hb:(ag.map g).sum<=1000000)(aU:zao.length<=1000000):
  Calls prog 92 #[sv] w fun r w'=>∃ v',r=.returned v'/\Names w.heap.size w' v' (Cp.zas f zao ag [])/\Fr (fun _=>False) w w':=by
 have eM:=zan h6;obtain ⟨sa,sn,sc,rfl⟩:=zae h6;have fD:sn=zao.length:=by
  rcases h6.1.2 with ⟨h,h0⟩|⟨_,_,_,h0,_⟩
  ·cases h;exact h0.symm
  ·cases h0;rfl
 subst fD;have H3:=zab h3;have H4:=zab h4;have H5:=zab h5;have H6:=zab h6;have H7:=zab h7;have H8:=zab h8;have HB:=zab hb;have HG:=zab hg;clear h3 h4 h5 h6 h7 h8 hb hg;go_enter func92,ntmps92
 go_wp2_with fail
 go_loopg [3,8] zao.length (fun gk v iv wr=>∃ (k:Nat) (cur:List Cp.Nm),iv=.int .i64 k/\k+gk=zao.length/\Names w.heap.size wr v cur/\Cp.zas f (zao.drop k) (ag.drop k) cur=Cp.zas f zao ag []/\cur.length+((ag.drop k).map g).sum<=1000000/\Fr (fun _=>False) w wr)
 case atStart=>exact ⟨0,[],rfl,by omega,⟨World.ownsRow_nil _ _ _ _,by simp[Value.ownBlock]⟩,by simp,by simpa using HB.o,Fr.refl _ _⟩
 case round=>
  obtain ⟨k,cur,rfl,hk,fK,hE,hl,hf⟩:=hrel;obtain ⟨va,vn,vc,rfl⟩:=zae fK;have HC:=zab fK;have HE:=zab hE;have HL:=zab hl;have HF:=zab hf;by_cases aj:k<zao.length
  ·obtain ⟨gb,jw⟩:∃ gb,sa=some ⟨gb,0,none⟩:=by
    rcases eM with h|⟨g,cap,h⟩
    ·have:=(Value.slice.inj h).2.1;omega
    ·exact ⟨g,(Value.slice.inj h).1⟩
   subst jw;obtain ⟨a,ha⟩:∃ a,zao[k]?=some a:=⟨zao[k],zyM aj⟩;obtain ⟨p,hp⟩:∃ p,ag[k]?=some p:=⟨_,zyM (by rw[H3.o];exact aj)⟩;obtain ⟨nv,ay⟩:∃ nv,nvs[k]?=some nv:=⟨_,zyM (by rw[H4.o];exact aj)⟩;obtain ⟨bv,cC⟩:∃ bv,bvs[k]?=some bv:=⟨_,zyM (by rw[H5.o];exact aj)⟩;obtain ⟨hN,wX⟩:=H7.o k a nv ha ay;obtain ⟨⟨pt,px,rfl⟩,hB⟩:=H8.o k bv p cC hp;obtain ⟨np,nn,nc,rfl⟩:=zae hN;have aE:=zdx zao nvs bvs k a _ _ ha ay cC;have af:=(Row.frc H6.o hf (by simp)).1;have c0:=(af.cellAt (k*3) (by omega)).trans aE.1;have c1:=(af.cellAt (k*3+1) (by omega)).trans aE.2.1;have c2:=(af.cellAt (k*3+2) (by omega)).trans aE.2.2;have dF:(0:Int)<=(k:Int):=zzN _;have rA:zao.drop k=a::zao.drop (k+1):=by rw[zzs aj];rw[zyM aj]at ha;cases ha;rfl
   have jS:ag.drop k=p::ag.drop (k+1):=by
    have gu:k<ag.length:=by rw[H3.o];exact aj
    rw[zzs gu];rw[zyM gu]at hp;cases hp;rfl
   have gO:Cp.zas f (zao.drop (k+1)) (ag.drop (k+1)) (Cp.union cur (Cp.zaH (f p) (Th.texts a.2)))=Cp.zas f zao ag []:=by
    rw[<-hE,rA,jS,Cp.zas]
   have sN:=HG.o p;have aD:=Cp.zbp (f p) (Th.texts a.2);have eI:=Cp.zcP cur (Cp.zaH (f p) (Th.texts a.2));have rG:(Cp.union cur (Cp.zaH (f p) (Th.texts a.2))).length+((ag.drop (k+1)).map g).sum<=1000000:=by
    rw[jS,zza,zzd]at hl;omega
   have b1:Hid (cur.length<=1000000):=zab (by omega);have b2:Hid ((f p).length<=1000000/\(Cp.zaH (f p) (Th.texts a.2)).length<=1000000/\(Th.texts a.2).length<=1000000):=zab (by
    rw[jS,zza,zzd]at hl;exact ⟨by omega,by omega,by simpa [Th.texts] using wX⟩)
   have fU:=zab (And.intro gO rG);have C1:=zab (fun W (hW:Fr (fun _=>False) wr W)=>hB W (hf.trans hW));have C2:=zab (fun W (hW:Fr (fun _=>False) wr W)=>zd1 (Row.frc hN (hf.trans hW) (by simp)) wX);have B0:=zab (Blk.new wr [.int .i64 a.1,.slice np nn nc,.iface pt px] 240);have F0:Hid (Fr (fun _=>False) wr (wr.alloc (.cells #[.int .i64 a.1,.slice np nn nc,.iface pt px] 240))):=zab ((Fr.refl _ _).alloc _);clear fK hE hl hf ha hp ay cC hN wX hB aE af rA jS gO sN aD eI rG eM;go_wp2_with fail
   generalize wr.alloc (.cells #[.int .i64 a.1,.slice np nn nc,.iface pt px] 240)=w1 at B0 F0 ⊢;have B1:=B0;clear B0 c0 c1 c2;have FC:Hid (Fr (fun _=>False) w1 w1.drew):=zab (Fr.refl _ _).drew;have q1:=Blk.cell B1.o 1;have q2:=Blk.cell B1.o 2;simp at q1 q2
   go_region_held3 (fun W=>W.cell? ⟨wr.heap.size,1,none⟩=some (.slice np nn nc)/\W.cell? ⟨wr.heap.size,2,none⟩=some (.iface pt px)) (first|(refine ⟨?_,?_⟩ <;> assumption)|go_keep) (first
    |(go_at_call 89;with_reducible refine (C1.o _ (F0.o.trans FC.o)).mono ?_;rintro e wA ⟨Hq,rfl,tM,oK⟩;have dO:=zab (FC.o.trans oK);(try (have jA:=zab (RB.o.fr0 oK);clear RB;have RB:=jA;clear jA));have RA:=zab (tM.base (zy5 _));clear FC;have FC:=dO;clear dO;have zt:wA.cell? ⟨wr.heap.size,1,none⟩=some (.slice np nn nc):=(by simpa using Blk.cell (Fr.blk B1.o FC.o (by simp)) 1);have zw:wA.cell? ⟨wr.heap.size,2,none⟩=some (.iface pt px):=(by simpa using Blk.cell (Fr.blk B1.o FC.o (by simp)) 2);clear tM oK)
    |(go_at_call 52;with_reducible refine (C2.o _ (F0.o.trans FC.o)).mono ?_;rintro e wB ⟨Hu,rfl,tN,oL⟩;have dO:=zab (FC.o.trans oL);(try (have jz:=zab (RA.o.fr0 oL);clear RA;have RA:=jz;clear jz));have RB:=zab (tN.base (zy5 _));clear FC;have FC:=dO;clear dO;have zu:wB.cell? ⟨wr.heap.size,1,none⟩=some (.slice np nn nc):=(by simpa using Blk.cell (Fr.blk B1.o FC.o (by simp)) 1);have zx:wB.cell? ⟨wr.heap.size,2,none⟩=some (.iface pt px):=(by simpa using Blk.cell (Fr.blk B1.o FC.o (by simp)) 2);clear tN oL)
    |(go_at_call 152;refine (zcQ RA.o RB.o b2.o.1 b2.o.2.2).mono ?_;rintro e wW ⟨Hy,rfl,tO,rj⟩;have dO:=zab (FC.o.trans rj);have RW:=zab (tO.base (zy5 _));clear FC;have FC:=dO;clear dO;have zv:wW.cell? ⟨wr.heap.size,1,none⟩=some (.slice np nn nc):=(by simpa using Blk.cell (Fr.blk B1.o FC.o (by simp)) 1);have zy:wW.cell? ⟨wr.heap.size,2,none⟩=some (.iface pt px):=(by simpa using Blk.cell (Fr.blk B1.o FC.o (by simp)) 2);clear tO rj)
    |(go_at_call 150;refine (zdp (HC.o.fr0 (F0.o.trans FC.o)) RW.o b1.o b2.o.2.1).mono ?_;rintro e wU ⟨vu,rfl,ru,fu⟩;have FU:=zab (FC.o.trans fu);have jP:=zab FC.o.size;have RU:=zab (ru.base (zy5 _));have Dn:=zab ru;have uw:wU.cell? ⟨wr.heap.size,1,none⟩=some (.slice np nn nc):=(by simpa using Blk.cell (Fr.blk B1.o FU.o (by simp)) 1);have Gd:wU.cell? ⟨wr.heap.size,2,none⟩=some (.iface pt px):=(by simpa using Blk.cell (Fr.blk B1.o FU.o (by simp)) 2);clear ru fu))
   all_goals
    go_wp2_with fail
    go_roundg (zao.length-(k+1))
    case measure=>omega
    case rel=>
     refine ⟨k+1,_,by go_num,by omega,Dn.o.base ?_,fU.o.1,fU.o.2,HF.o.trans (F0.o.trans FU.o)⟩;exact zyR HF.o.size (zyR F0.o.size jP.o)
  ·have aG:k=zao.length:=by omega
   have hR:cur=Cp.zas f zao ag []:=by
    rw[<-hE,aG,List.drop_length,Cp.zas];simp
   have HR:=zab hR;clear fK hE hl hf aG eM hR;go_wp2_with fail
   go_ret
   exact ⟨_,rfl,HR.o ▸ HC.o,HF.o⟩
theorem zmm{sv:Value}{r:Bool}{l:List Th.Tok}{parts:List Th.Ex}{pvs:List Value}{bt:TypeId}{bx:Value}{lb:List Cp.Nm}{f:Th.Ex->List Cp.Nm}(hg:∀ e,(f e).length<=g e)(h3:parts.length=l.length)(h4:pvs.length=l.length)(h6:Row S w 312 3 sv l.length (zaM l pvs))(h8:∀ (i:Nat) (bv:Value) (p:Th.Ex),pvs[i]?=some bv->parts[i]?=some p->(∃ t x,bv=.iface t x)/\zqd w bv (f p))(h9:zqd w (.iface bt bx) lb)(o5:lb.length<=1000000)(hb:(parts.map g).sum<=1000000)(aU:l.length<=1000000):
  Calls prog 151 #[.agg #[.bool r,sv,.iface bt bx]] w fun q w'=>∃ v',q=.returned v'/\Names w.heap.size w' v' (Cp.union (if r then Cp.zaH (Cp.zav f parts []) (Th.texts l) else Cp.zav f parts []) (Cp.zaH lb (Th.texts l)))/\Fr (fun _=>False) w w':=by
 have eM:=zan h6;obtain ⟨sa,sn,sc,rfl⟩:=zae h6;have fD:sn=l.length:=by
  rcases h6.1.2 with ⟨h,h0⟩|⟨_,_,_,h0,_⟩
  ·cases h;exact h0.symm
  ·cases h0;rfl
 subst fD;have bR:∀ (i:Nat) (pv:Value),pvs[i]?=some pv->pv.oneCell'=true:=fun i pv hp=>by
  have:i<parts.length:=by rw[h3,<-h4];exact (zyL.1 hp).1
  obtain ⟨⟨t,x,rfl⟩,_⟩:=h8 i pv parts[i] hp (zyM this);rfl
 have f0:Fr (fun _=>False) w (w.alloc (.cells #[.bool r,.slice sa l.length sc,.iface bt bx] 178)):=(Fr.refl _ _).alloc _;have ek:=zab (zcX (rb:=r) (bt:=bt) (bx:=bx) (Row.frc h6 f0 (by simp)) h4 bR aU);have yR:=zab (Blk.new w [.bool r,.slice sa l.length sc,.iface bt bx] 178);have F0:=zab f0;have H3:=zab h3;have H4:=zab h4;have H6:=zab h6;have H8:=zab h8;have H9:=zab h9;have HB:=zab hb;have HG:=zab hg;have mC:Hid ((Th.texts l).length<=1000000):=zab (by simpa [Th.texts] using aU);clear h3 h4 h6 h8 hb hg h9 bR f0;go_enter func151,ntmps151
 go_wp2_with fail
 refine ek.o.mono ?_;clear ek;rintro en w1 ⟨tv,rfl,eC,aA⟩;obtain ⟨ta,tn,tc,rfl⟩:=zaF eC;have f1:Fr (fun _=>False) (w.alloc (.cells #[.bool r,.slice sa l.length sc,.iface bt bx] 178)) w1:=Fr.below aA;have HT:Hid (Names 0 w1 (.slice ta tn tc) (Th.texts l)):=zab (Names.base (Row.zaE (by simpa [Th.texts] using eC)) (zy5 _));have my:=zab (Fr.blk yR.o f1 (by simp));have F1:=zab (F0.o.trans f1);have q1:=Blk.cell my.o 1;simp at q1;clear eC aA f1 yR F0;go_wp2_with fail
 clear q1
 go_loopg [4,12] l.length (fun gk v iv wr=>∃ (k:Nat) (cur:List Cp.Nm),iv=.int .i64 k/\k+gk=l.length/\Names w.heap.size wr v cur/\Cp.zav f (parts.drop k) cur=Cp.zav f parts []/\cur.length+((parts.drop k).map g).sum<=1000000/\Fr (fun _=>False) w1 wr)
 case atStart=>exact ⟨0,[],rfl,by omega,⟨World.ownsRow_nil _ _ _ _,by simp[Value.ownBlock]⟩,by simp,by simpa using HB.o,Fr.refl _ _⟩
 case round=>
  obtain ⟨k,cur,rfl,hk,fK,hE,hl,hf⟩:=hrel;obtain ⟨va,vn,vc,rfl⟩:=zae fK;have HC:=zab fK;have HE:=zab hE;have HL:=zab hl;have HF:=zab hf;by_cases aj:k<l.length
  ·obtain ⟨gb,jw⟩:∃ gb,sa=some ⟨gb,0,none⟩:=by
    rcases eM with h|⟨g,cap,h⟩
    ·have:=(Value.slice.inj h).2.1;omega
    ·exact ⟨g,(Value.slice.inj h).1⟩
   subst jw;obtain ⟨a,ha⟩:∃ a,l[k]?=some a:=⟨l[k],zyM aj⟩;obtain ⟨p,hp⟩:∃ p,parts[k]?=some p:=⟨_,zyM (by rw[H3.o];exact aj)⟩;obtain ⟨bv,cC⟩:∃ bv,pvs[k]?=some bv:=⟨_,zyM (by rw[H4.o];exact aj)⟩;obtain ⟨⟨pt,px,rfl⟩,hB⟩:=H8.o k bv p cC hp;have aE:=zbA l pvs k a _ ha cC;have af:=(Row.frc H6.o (F1.o.trans hf) (by simp)).1;have c0:=(af.cellAt (k*3) (by omega)).trans aE.1;have c1:=(af.cellAt (k*3+1) (by omega)).trans aE.2.1;have c2:=(af.cellAt (k*3+2) (by omega)).trans aE.2.2;have dF:(0:Int)<=(k:Int):=zzN _;have jS:parts.drop k=p::parts.drop (k+1):=by
    have gu:k<parts.length:=by rw[H3.o];exact aj
    rw[zzs gu];rw[zyM gu]at hp;cases hp;rfl
   have gO:Cp.zav f (parts.drop (k+1)) (Cp.union cur (f p))=Cp.zav f parts []:=by
    rw[<-hE,jS,Cp.zav]
   have sN:=HG.o p;have eI:=Cp.zcP cur (f p);have rG:(Cp.union cur (f p)).length+((parts.drop (k+1)).map g).sum<=1000000:=by
    rw[jS,zza,zzd]at hl;omega
   have b1:Hid (cur.length<=1000000):=zab (by omega);have b2:Hid ((f p).length<=1000000):=zab (by
    rw[jS,zza,zzd]at hl;omega)
   have fU:=zab (And.intro gO rG);have C1:=zab (fun W (hW:Fr (fun _=>False) wr W)=>hB W (F1.o.trans (hf.trans hW)));have F2:Hid (Fr (fun _=>False) wr (wr.alloc (.cells #[.string ⟨a.s.toArray⟩,.int .i64 a.at_,.iface pt px] 312))):=zab ((Fr.refl _ _).alloc _);clear fK hE hl hf ha hp cC hB aE af jS gO sN eI rG eM;go_wp2_with fail
   refine (C1.o _ F2.o).mono ?_;rintro e wA ⟨vx,rfl,ra,fa⟩;obtain ⟨xa,xn,xc,rfl⟩:=zae ra;have RA:=zab ra;have FA:=zab (F2.o.trans fa);clear ra fa c0 c1 c2;go_wp2_with fail
   refine (zdp (HC.o.fr0 FA.o) RA.o b1.o b2.o).mono ?_;rintro e wU ⟨vu,rfl,ru,fu⟩;have RU:=zab ru;have FU:=zab fu;clear ru fu;go_wp2_with fail
   go_roundg (l.length-(k+1))
   case measure=>omega
   case rel=>
    refine ⟨k+1,_,by go_num,by omega,RU.o.base ?_,fU.o.1,fU.o.2,HF.o.trans (FA.o.trans FU.o)⟩;exact zyR F1.o.size (zyR HF.o.size FA.o.size)
  ·have aG:k=l.length:=by omega
   have hR:cur=Cp.zav f parts []:=by
    rw[<-hE,aG,<-H3.o,List.drop_length,Cp.zav]
   have wY:Hid (cur.length<=1000000):=zab (by omega);have HR:=zab hR;have fU:=zab (Fr.blk my.o hf (by simp));have e0:=Blk.cell fU.o 0;have e2:=Blk.cell fU.o 2;simp at e0 e2;have C1:=zab (fun W (hW:Fr (fun _=>False) wr W)=>H9.o W (F1.o.trans (HF.o.trans hW)));have zd:=zab (zyR F1.o.size HF.o.size);clear fK hE hl hf aG eM hR;cases r
   ·have hR:=HR.o;subst hR;have FZ:=zab (Fr.refl (fun _=>False) wr);have LZ:=zab (HC.o.base (zy5 _));have LN:=wY;go_wp2_with fail
    refine (C1.o _ FZ.o).mono ?_;rintro e wA ⟨vx,rfl,ra,fa⟩;obtain ⟨xa,xn,xc,rfl⟩:=zae ra;have RA:=zab ra;have FA:=zab (FZ.o.trans fa);have LC:=zab (LZ.o.fr0 fa);clear ra fa e0 e2;go_wp2_with fail
    refine (zcQ RA.o (HT.o.fr0 (HF.o.trans FA.o)) o5 mC.o).mono ?_;rintro e wB ⟨vx,rfl,ra,fa⟩;obtain ⟨ya,yn,yc,rfl⟩:=zae ra;have RB:=zab ra;have FB:=zab (FA.o.trans fa);have LD:=zab (LC.o.fr0 fa);clear ra fa;go_wp2_with fail
    refine (zdp LD.o RB.o LN.o (zyR (Cp.zbp _ _) o5)).mono ?_;rintro e wU ⟨vu,rfl,ru,fu⟩;have RU:=zab ru;have FU:=zab fu;clear ru fu;go_wp2_with fail
    go_ret
    refine ⟨_,rfl,?_,F1.o.trans (HF.o.trans (FB.o.trans FU.o))⟩;exact Names.base RU.o (zyR zd.o FB.o.size)
   ·have hR:=HR.o;subst hR;go_wp2_with fail
    refine (zcQ HC.o (HT.o.fr0 HF.o) wY.o mC.o).mono ?_;rintro e wz ⟨vx,rfl,rz,fz⟩;obtain ⟨za,zn,zc,rfl⟩:=zae rz;have LZ:=zab (rz.base (zy5 _));have FZ:=zab fz;have LN:=zab (zyR (Cp.zbp (Cp.zav f parts []) (Th.texts l)) wY.o);clear rz e0 e2;have yS:=zab (Fr.blk fU.o fz (by simp));have e0:=Blk.cell yS.o 0;have e2:=Blk.cell yS.o 2;simp at e0 e2;clear fz;go_wp2_with fail
    refine (C1.o _ FZ.o).mono ?_;rintro e wA ⟨vx,rfl,ra,fa⟩;obtain ⟨xa,xn,xc,rfl⟩:=zae ra;have RA:=zab ra;have FA:=zab (FZ.o.trans fa);have LC:=zab (LZ.o.fr0 fa);clear ra fa e0 e2;go_wp2_with fail
    refine (zcQ RA.o (HT.o.fr0 (HF.o.trans FA.o)) o5 mC.o).mono ?_;rintro e wB ⟨vx,rfl,ra,fa⟩;obtain ⟨ya,yn,yc,rfl⟩:=zae ra;have RB:=zab ra;have FB:=zab (FA.o.trans fa);have LD:=zab (LC.o.fr0 fa);clear ra fa;go_wp2_with fail
    refine (zdp LD.o RB.o LN.o (zyR (Cp.zbp _ _) o5)).mono ?_;rintro e wU ⟨vu,rfl,ru,fu⟩;have RU:=zab ru;have FU:=zab fu;clear ru fu;go_wp2_with fail
    go_ret
    refine ⟨_,rfl,?_,F1.o.trans (HF.o.trans (FB.o.trans FU.o))⟩;exact Names.base RU.o (zyR zd.o FB.o.size)
theorem zvy{r:Bool}(c1:∀ W,Fr (fun _=>False) w W->Calls prog 151 #[.agg #[.bool r,.slice p m cp,.iface t1 x1]] W fun r w'=>∃ v',r=.returned v'/\Names W.heap.size w' v' l/\Fr (fun _=>False) W w'):
  Calls prog 89 #[.iface 178 (.agg #[.bool r,.slice p m cp,.iface t1 x1])] w fun r w'=>∃ v',r=.returned v'/\Names w.heap.size w' v' l/\Fr (fun _=>False) w w':=by
 have C1:=zab c1;clear c1;have i0:=zlV;have i1:=zgD;have i2:=zez;have i3:=zlU;have F0:Hid (Fr (fun _=>False) w (w.alloc (.cells #[.bool r,.slice p m cp,.iface t1 x1] 178))):=zab ((Fr.refl _ _).alloc _);go_enter func89,ntmps89
 go_wp2_with fail
 refine (C1.o _ F0.o).mono ?_;rintro e wA ⟨vx,rfl,ra,fa⟩;have RA:=zab ra;have FA:=zab fa;clear ra fa i0 i1 i2 i3;go_wp2_with fail
 go_ret
 exact ⟨_,rfl,RA.o.base F0.o.size,F0.o.trans FA.o⟩
theorem zpX{g:Th.Ex->Nat}:∀ {l:List Th.Ex} {k:Nat} {p:Th.Ex},l[k]?=some p->g p<=(l.map g).sum
 |[],k,p,h=>by simp at h
 |a::l,0,p,h=>by simp at h;subst h;simp
 |a::l,k+1,p,h=>by
  have:=zpX (g:=g) (l:=l) (k:=k) (p:=p) (by simpa using h);simp;omega
theorem ziL:∀ {l:List (Nat × List Th.Tok)} {k:Nat} {a:Nat × List Th.Tok},l[k]?=some a->1+a.2.length<=(l.map fun a=>1+a.2.length).sum
 |[],k,p,h=>by simp at h
 |a::l,0,p,h=>by simp at h;subst h;simp
 |a::l,k+1,p,h=>by
  have:=ziL (l:=l) (k:=k) (a:=p) (by simpa using h);simp;omega
theorem zl4:∀ (l:List (Nat × List Th.Tok)),l.length<=(l.map fun a=>1+a.2.length).sum
 |[]=>by simp
 |a::l=>by
  have:=zl4 l;simp;omega
theorem zgU(n:Nat):zye n:=by
 induction n with
 |zero=>intro S w v e h;exact h.elim
 |succ n ih=>
  intro S w v e h hw;have at_:∀ {bv:Value} {b:Th.Ex},Rep S w n bv b->Cp.wt n b<=1000000->zqd w bv (Cp.free n b):=fun hr hb W hW=>ih (hr.fr0 hW) hb
  have fl:=Cp.zaZ n;rw[Cp.wt]at hw;rcases h with ⟨hk,rfl⟩|⟨hk,rfl⟩|⟨hk,rfl⟩|⟨hk,sv,bv,b,h1,rfl,h3,h4⟩|⟨hk,v1,v2,e1,e2,h1,rfl,h3,h4⟩|⟨hk,v1,v2,e1,e2,h1,rfl,h3,h4⟩|⟨hk,sv,bv,b,parts,pvs,h1,rfl,h3,h4,h5,h6,h7⟩|⟨hk,cv,sv,b,ag,nvs,bvs,h1,rfl,h3,h4,h5,h6,h7,h8,h9⟩
  ·rw[show Cp.free (n+1) e=[] by simp[Cp.free,hk]];exact zpt
  ·rw[show Cp.free (n+1) e=[e.tok.s] by simp[Cp.free,hk]];exact zvz
  ·rw[show Cp.free (n+1) e=[] by simp[Cp.free,hk]];exact zrw
  ·obtain ⟨t,x,rfl⟩:=zah h4;obtain ⟨a,m,c,rfl⟩:=zae h3;rw[show Cp.free (n+1) e=Cp.zaH (Cp.free n b) (Th.texts e.names) by simp[Cp.free,hk,h1]];rw[h1]at hw;simp at hw;have:=fl b;refine zps (by omega) (by simp[Th.texts];omega) (at_ h4 (by omega)) (fun W hW=>?_);exact zd1 (Row.frc h3 hW (by simp)) (by omega)
  ·obtain ⟨t,x,rfl⟩:=zah h3;obtain ⟨t2,x2,rfl⟩:=zah h4;rw[show Cp.free (n+1) e=Cp.union (Cp.free n e1) (Cp.free n e2) by simp[Cp.free,hk,h1]];rw[h1]at hw;simp at hw;have:=fl e1;have:=fl e2;exact ztb (by omega) (by omega) (at_ h3 (by omega)) (at_ h4 (by omega))
  ·obtain ⟨t,x,rfl⟩:=zah h3;obtain ⟨t2,x2,rfl⟩:=zah h4;rw[show Cp.free (n+1) e=Cp.union (Cp.free n e1) (Cp.free n e2) by simp[Cp.free,hk,h1]];rw[h1]at hw;simp at hw;have:=fl e1;have:=fl e2;exact zkB (by omega) (by omega) (at_ h3 (by omega)) (at_ h4 (by omega))
  ·obtain ⟨t,x,rfl⟩:=zah h7;obtain ⟨a,m,c,rfl⟩:=zae h5;have hE:Cp.free (n+1) e=Cp.union (if (e.kind == 8)=true then Cp.zaH (Cp.zav (Cp.free n) parts []) (Th.texts e.names) else Cp.zav (Cp.free n) parts []) (Cp.zaH (Cp.free n b) (Th.texts e.names)):=by
    rcases hk with hk|hk <;> simp[Cp.free,hk,h1]
   rw[hE];rw[h1]at hw;simp only[zza,zzd]at hw;have:=fl b;refine zvy (fun W hW=>?_);refine zmm fl h3 h4 (Row.frc h5 hW (by simp)) (fun i bv p hi hp=>⟨zah (h6 i bv p hi hp),fun W' bQ=>?_⟩) (fun W' bQ=>ih (h7.fr0 (hW.trans bQ)) (by omega)) (by omega) (by omega) (by omega);exact ih ((h6 i bv p hi hp).fr0 (hW.trans bQ)) (by have:=zpX (g:=Cp.wt n) hp;omega)
  ·obtain ⟨t,x,rfl⟩:=zah h9;obtain ⟨a,m,c,rfl⟩:=zae h6;rw[show Cp.free (n+1) e=Cp.union (Cp.free n b) (Cp.zas (Cp.free n) e.zao ag []) by simp[Cp.free,hk,h1]];rw[h1]at hw;simp only[zza,zzd]at hw;have:=fl b;have:=zl4 e.zao;have:=Cp.zbN (Cp.free n) (Cp.wt n) fl e.zao ag [];simp only[zzm,zzG]at this;refine ztc (by omega) (by omega) (at_ h9 (by omega)) (fun W hW=>?_);refine zf8 fl h3 h4 h5 (Row.frc h6 hW (by simp)) (fun i a nv hi hv=>⟨Row.frc (h7 i a nv hi hv) hW (by simp),by have:=ziL hi;omega⟩) (fun i bv p hi hp=>⟨zah (h8 i bv p hi hp),fun W' bQ=>?_⟩) (by omega) (by omega);exact ih ((h8 i bv p hi hp).fr0 (hW.trans bQ)) (by have:=zpX (g:=Cp.wt n) hp;omega)
end Go.Proofs.YtgahgkddaljmkaaGreatDoor
