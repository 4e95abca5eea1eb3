/- Cmp8 .. Cmp13 -/
import Derived.Test.YtgahgkddaljmkaaGreatDoorV19
import Derived.Test.YtgahgkddaljmkaaGreatDoorV1
set_option maxRecDepth 100000
set_option maxHeartbeats 4000000
namespace Go.Proofs.YtgahgkddaljmkaaGreatDoor
open Go.RowKit Go.Shelf
attribute [local go_sem ↓] Go.wp_at_zero Go.wp_at_succ
def Names (base:Nat) (w:World) (v:Value) (l:List Cp.Nm):Prop:=Row (fun b=>base<=b) w 9 1 v l.length (strCells l)
variable {w:World}
variable {v:Value}
variable {l:List Cp.Nm}
theorem Names.fr0{base:Nat}{w':World}(h:Names base w v l)(f:Fr (fun _=>False) w w'):Names base w' v l:=Row.frc h f (by simp)
theorem Names.base{base b':Nat}{w:World}{v:Value}{l:List Cp.Nm}(h:Names base w v l)(hb:b'<=base):Names b' w v l:=⟨h.1,fun k hk=>zxN hb (h.2 k hk)⟩
variable {S:Nat->Prop}
theorem Rep.fr0{w':World}{n:Nat}{e:Th.Ex}(h:Rep S w n v e)(f:Fr (fun _=>False) w w'):Rep S w' n v e:=Rep.imp (fun _ _ _ _ _ hR=>hR.frc f (by simp)) n v e h
theorem zdb{Z1 Z2:Nat->Prop}{lv mv:Value}{more:List Cp.Nm}(h1:Row Z1 w 9 1 lv l.length (strCells l))(h2:Row Z2 w 9 1 mv more.length (strCells more))(hl1:l.length<=1000000)(hl2:more.length<=1000000):
  Calls Tryz.prog 150 #[lv,mv] w fun e w'=>∃ v',e=.returned v'/\Names w.heap.size w' v' (Cp.union l more)/\Fr (fun _=>False) w w':=by
 obtain ⟨la,ln,lc,rfl⟩:=zaF h1.1;have CW:=zab (zjy h2 h1 hl2 hl1);have H1:=zab h1;have hwl:(Cp.zaG more l).length<=1000000:=zxN (List.length_filter_le _ _) hl2;clear h1 h2;go_enter Tryz.func150,Tryz.ntmps150
 go_wp2_with fail
 refine CW.o.mono ?_;rintro e w2 ⟨v',rfl,hown,f2⟩;obtain ⟨va,vn,vc,rfl⟩:=zaF hown;have F2:=zab f2;have CC:=zab (zfz (H1.o.frc f2 (by simp)) (Row.zaE hown) hl1 hwl);clear f2 hown CW;go_wp2_with fail
 refine CC.o.mono ?_;rintro e w3 ⟨a,k,c,rfl,hr,hb⟩;have HR:=zab hr;have F3:=zab (F2.o.trans (Fr.below hb));clear hr hb CC;go_wp2_with fail
 go_ret
 exact ⟨_,rfl,Names.base HR.o F2.o.size,F3.o⟩
def Cp.wt:Nat->Th.Ex->Nat
 |0,_=>0
 |n+1,e=>1+e.names.length+(e.zao.map fun a=>1+a.2.length).sum+(e.kids.map (Cp.wt n)).sum
theorem Cp.zbm(l g:List Cp.Nm):(Cp.zaG l g).length<=l.length:=List.length_filter_le _ _
theorem Cp.zcN(l m:List Cp.Nm):(Cp.union l m).length<=l.length+m.length:=by
 unfold Cp.union;rw[zxP];have:=Cp.zbm m l;omega
theorem Cp.zed(f:Th.Ex->List Cp.Nm)(g:Th.Ex->Nat)(hf:∀ e,(f e).length<=g e):∀ (ps:List Th.Ex) (l:List Cp.Nm),(Cp.zaw f ps l).length<=l.length+(ps.map g).sum
 |[],l=>by simp[Cp.zaw]
 |p::ps,l=>by
  have h1:=Cp.zed f g hf ps (Cp.union l (f p));have h2:=Cp.zcN l (f p);have h3:=hf p;simp only[Cp.zaw,zx6,zx9];omega
theorem Cp.zbP(f:Th.Ex->List Cp.Nm)(g:Th.Ex->Nat)(hf:∀ e,(f e).length<=g e):∀ (az:List (Nat × List Th.Tok)) (bs:List Th.Ex) (l:List Cp.Nm),(Cp.zas f az bs l).length<=l.length+(bs.map g).sum
 |[],bs,l=>by simp[Cp.zas]
 |_::_,[],l=>by simp[Cp.zas]
 |a::az,b::bs,l=>by
  have h1:=Cp.zbP f g hf az bs (Cp.union l (Cp.zaG (f b) (Th.texts a.2)));have h2:=Cp.zcN l (Cp.zaG (f b) (Th.texts a.2));have h3:=Cp.zbm (f b) (Th.texts a.2);have h4:=hf b;simp only[Cp.zas,zx6,zx9];omega
theorem Cp.zaZ:∀ (n:Nat) (e:Th.Ex),(Cp.free n e).length<=Cp.wt n e
 |0,_=>by simp[Cp.free]
 |n+1,e=>by
  have ih:=Cp.zaZ n;rw[Cp.free,Cp.wt];split
  ·simp;omega
  ·split
   ·split
    ·next b hk=>
     have h1:=Cp.zbm (Cp.free n b) (Th.texts e.names);have h2:=ih b;rw[hk];simp;omega
    ·simp
   ·split
    ·split
     ·next a b hk=>
      have h1:=Cp.zcN (Cp.free n a) (Cp.free n b);have h2:=ih a;have h3:=ih b;rw[hk];simp;omega
     ·simp
    ·split
     ·split
      ·next b ps hk=>
       have h1:=Cp.zcN (Cp.zaw (Cp.free n) ps []) (Cp.zaG (Cp.free n b) (Th.texts e.names));have h2:=Cp.zed (Cp.free n) (Cp.wt n) ih ps [];have h3:=Cp.zbm (Cp.free n b) (Th.texts e.names);have h4:=ih b;rw[hk];simp at h2 ⊢;omega
      ·simp
     ·split
      ·split
       ·next b ps hk=>
        have h1:=Cp.zcN (Cp.zaG (Cp.zaw (Cp.free n) ps []) (Th.texts e.names)) (Cp.zaG (Cp.free n b) (Th.texts e.names));have h2:=Cp.zed (Cp.free n) (Cp.wt n) ih ps [];have h5:=Cp.zbm (Cp.zaw (Cp.free n) ps []) (Th.texts e.names);have h3:=Cp.zbm (Cp.free n b) (Th.texts e.names);have h4:=ih b;rw[hk];simp at h2 ⊢;omega
       ·simp
      ·split
       ·split
        ·next b ps hk=>
         have h1:=Cp.zcN (Cp.free n b) (Cp.zas (Cp.free n) e.zao ps []);have h2:=Cp.zbP (Cp.free n) (Cp.wt n) ih e.zao ps [];have h4:=ih b;rw[hk];simp at h2 ⊢;omega
        ·simp
       ·simp
def zxA (n:Nat):Prop:=∀ {S:Nat->Prop} {w:World} {v:Value} {e:Th.Ex},Rep S w n v e->Cp.wt n e<=1000000 ->
 Calls Tryz.prog 89 #[v] w fun r w'=>∃ v',r=.returned v'/\Names w.heap.size w' v' (Cp.free n e)/\Fr (fun _=>False) w w'
theorem zph{x:Int}:
  Calls Tryz.prog 89 #[.iface 217 (.agg #[.int .i64 x])] w fun r w'=>∃ v',r=.returned v'/\Names w.heap.size w' v' []/\Fr (fun _=>False) w w':=by
 have i0:=zgJ;have i1:=zdJ;have i2:=zdc;have i3:=zgZ;have i4:=zf8;have i5:=zet;go_enter Tryz.func89,Tryz.ntmps89
 go_wp2_with fail
 go_ret
 exact ⟨_,rfl,⟨World.ownsRow_nil _ _ _ _,by simp[Value.ownBlock]⟩,Fr.refl _ _⟩
theorem zrx{x y:Int}:
  Calls Tryz.prog 89 #[.iface 219 (.agg #[.int .i64 x,.int .i64 y])] w fun r w'=>∃ v',r=.returned v'/\Names w.heap.size w' v' []/\Fr (fun _=>False) w w':=by
 have i0:=zfc;have i1:=zen;have i2:=zdv;have i3:=zhX;have i4:=zhi;have i5:=ze6;go_enter Tryz.func89,Tryz.ntmps89
 go_wp2_with fail
 go_ret
 exact ⟨_,rfl,⟨World.ownsRow_nil _ _ _ _,by simp[Value.ownBlock]⟩,Fr.refl _ _⟩
theorem zuX{x:Cp.Nm}{y:Int}:
  Calls Tryz.prog 89 #[.iface 215 (.agg #[.string ⟨x.toArray⟩,.int .i64 y])] w fun r w'=>∃ v',r=.returned v'/\Names w.heap.size w' v' [x]/\Fr (fun _=>False) w w':=by
 have i0:=zlh;go_enter Tryz.func89,Tryz.ntmps89
 go_wp2_with fail
 go_ret
 refine ⟨_,rfl,?_,((Fr.refl _ _).alloc _).alloc _⟩;have hB:=Blk.new (w.alloc (.cells #[.string ⟨x.toArray⟩,.int .i64 y] 215)) [.string ⟨x.toArray⟩] 9;rw[World.size_alloc]at hB;refine ⟨zgr (vs:=[.string ⟨x.toArray⟩]) hB rfl (zxJ _) (by unfold maxLen;omega) (zx1 _) (by simp[strCells]),fun k hk=>?_⟩;simp[Value.ownBlock]at hk;omega
variable {t1:TypeId}
variable {x1:Value}
variable {l1 l2:List Cp.Nm}
theorem ztr{t2:TypeId}{x2:Value}(hl1:l1.length<=1000000)(hl2:l2.length<=1000000)(c1:∀ W,Fr (fun _=>False) w W->Calls Tryz.prog 89 #[.iface t1 x1] W fun r w'=>∃ v',r=.returned v'/\Names W.heap.size w' v' l1/\Fr (fun _=>False) W w')(c2:∀ W,Fr (fun _=>False) w W->Calls Tryz.prog 89 #[.iface t2 x2] W fun r w'=>∃ v',r=.returned v'/\Names W.heap.size w' v' l2/\Fr (fun _=>False) W w'):
  Calls Tryz.prog 89 #[.iface 163 (.agg #[.iface t1 x1,.iface t2 x2])] w fun r w'=>∃ v',r=.returned v'/\Names w.heap.size w' v' (Cp.union l1 l2)/\Fr (fun _=>False) w w':=by
 have C1:=zab c1;have C2:=zab c2;clear c1 c2;have i0:=zjU;have i1:=zeF;have B0:=zab (Blk.new w [.iface t1 x1,.iface t2 x2] 163);have F0:Hid (Fr (fun _=>False) w (w.alloc (.cells #[.iface t1 x1,.iface t2 x2] 163))):=zab ((Fr.refl _ _).alloc _);go_enter Tryz.func89,Tryz.ntmps89
 go_wp2_with fail
 generalize w.alloc (.cells #[.iface t1 x1,.iface t2 x2] 163)=w1 at B0 F0 ⊢;have B1:=B0;clear i0 i1 B0;have FC:Hid (Fr (fun _=>False) w1 w1.drew):=zab (Fr.refl _ _).drew;have q0:=Blk.cell B1.o 0;have q1:=Blk.cell B1.o 1;simp at q0 q1
 go_region_held3 (fun W=>W.cell? ⟨w.heap.size,0,none⟩=some (.iface t1 x1)/\W.cell? ⟨w.heap.size,1,none⟩=some (.iface t2 x2)) (first|(refine ⟨?_,?_⟩ <;> assumption)|go_keep) (first
  |(go_at_call 89;with_reducible refine (C1.o _ (F0.o.trans FC.o)).mono ?_;rintro e wA ⟨va,rfl,ra,fa⟩;have FCn:=zab (FC.o.trans fa);(try (have RBn:=zab (RB.o.fr0 fa);clear RB;have RB:=RBn;clear RBn));have RA:=zab (ra.base (zx1 _));clear FC;have FC:=FCn;clear FCn;have d0a:wA.cell? ⟨w.heap.size,0,none⟩=some (.iface t1 x1):=(by simpa using Blk.cell (Fr.blk B1.o FC.o (by simp)) 0);have d1a:wA.cell? ⟨w.heap.size,1,none⟩=some (.iface t2 x2):=(by simpa using Blk.cell (Fr.blk B1.o FC.o (by simp)) 1);clear ra fa)
  |(go_at_call 89;with_reducible refine (C2.o _ (F0.o.trans FC.o)).mono ?_;rintro e wB ⟨vb,rfl,rb,fb⟩;have FCn:=zab (FC.o.trans fb);(try (have RAn:=zab (RA.o.fr0 fb);clear RA;have RA:=RAn;clear RAn));have RB:=zab (rb.base (zx1 _));clear FC;have FC:=FCn;clear FCn;have d0b:wB.cell? ⟨w.heap.size,0,none⟩=some (.iface t1 x1):=(by simpa using Blk.cell (Fr.blk B1.o FC.o (by simp)) 0);have d1b:wB.cell? ⟨w.heap.size,1,none⟩=some (.iface t2 x2):=(by simpa using Blk.cell (Fr.blk B1.o FC.o (by simp)) 1);clear rb fb)
  |(go_at_call 150;refine (zdb RA.o RB.o hl1 hl2).mono ?_;rintro e wU ⟨vu,rfl,ru,fu⟩;have FU:=zab (FC.o.trans fu);have RU:=zab ru;have HSU:=zab FC.o.size;have d0u:wU.cell? ⟨w.heap.size,0,none⟩=some (.iface t1 x1):=(by simpa using Blk.cell (Fr.blk B1.o FU.o (by simp)) 0);have d1u:wU.cell? ⟨w.heap.size,1,none⟩=some (.iface t2 x2):=(by simpa using Blk.cell (Fr.blk B1.o FU.o (by simp)) 1);clear ru fu))
 all_goals
  go_wp2_with fail
  go_ret
  exact ⟨_,rfl,RU.o.base (zxN F0.o.size HSU.o),F0.o.trans FU.o⟩
theorem zks{t2:TypeId}{x2:Value}{s:ByteArray}(hl1:l1.length<=1000000)(hl2:l2.length<=1000000)(c1:∀ W,Fr (fun _=>False) w W->Calls Tryz.prog 89 #[.iface t1 x1] W fun r w'=>∃ v',r=.returned v'/\Names W.heap.size w' v' l1/\Fr (fun _=>False) W w')(c2:∀ W,Fr (fun _=>False) w W->Calls Tryz.prog 89 #[.iface t2 x2] W fun r w'=>∃ v',r=.returned v'/\Names W.heap.size w' v' l2/\Fr (fun _=>False) W w'):
  Calls Tryz.prog 89 #[.iface 166 (.agg #[.string s,.iface t1 x1,.iface t2 x2])] w fun r w'=>∃ v',r=.returned v'/\Names w.heap.size w' v' (Cp.union l1 l2)/\Fr (fun _=>False) w w':=by
 have C1:=zab c1;have C2:=zab c2;clear c1 c2;have i0:=zev;have i1:=zcA;have i2:=zcu;have B0:=zab (Blk.new w [.string s,.iface t1 x1,.iface t2 x2] 166);have F0:Hid (Fr (fun _=>False) w (w.alloc (.cells #[.string s,.iface t1 x1,.iface t2 x2] 166))):=zab ((Fr.refl _ _).alloc _);go_enter Tryz.func89,Tryz.ntmps89
 go_wp2_with fail
 generalize w.alloc (.cells #[.string s,.iface t1 x1,.iface t2 x2] 166)=w1 at B0 F0 ⊢;have B1:=B0;clear i0 i1 i2 B0;have FC:Hid (Fr (fun _=>False) w1 w1.drew):=zab (Fr.refl _ _).drew;have q0:=Blk.cell B1.o 1;have q1:=Blk.cell B1.o 2;simp at q0 q1
 go_region_held3 (fun W=>W.cell? ⟨w.heap.size,1,none⟩=some (.iface t1 x1)/\W.cell? ⟨w.heap.size,2,none⟩=some (.iface t2 x2)) (first|(refine ⟨?_,?_⟩ <;> assumption)|go_keep) (first
  |(go_at_call 89;with_reducible refine (C1.o _ (F0.o.trans FC.o)).mono ?_;rintro e wA ⟨va,rfl,ra,fa⟩;have FCn:=zab (FC.o.trans fa);(try (have RBn:=zab (RB.o.fr0 fa);clear RB;have RB:=RBn;clear RBn));have RA:=zab (ra.base (zx1 _));clear FC;have FC:=FCn;clear FCn;have d0a:wA.cell? ⟨w.heap.size,1,none⟩=some (.iface t1 x1):=(by simpa using Blk.cell (Fr.blk B1.o FC.o (by simp)) 1);have d1a:wA.cell? ⟨w.heap.size,2,none⟩=some (.iface t2 x2):=(by simpa using Blk.cell (Fr.blk B1.o FC.o (by simp)) 2);clear ra fa)
  |(go_at_call 89;with_reducible refine (C2.o _ (F0.o.trans FC.o)).mono ?_;rintro e wB ⟨vb,rfl,rb,fb⟩;have FCn:=zab (FC.o.trans fb);(try (have RAn:=zab (RA.o.fr0 fb);clear RA;have RA:=RAn;clear RAn));have RB:=zab (rb.base (zx1 _));clear FC;have FC:=FCn;clear FCn;have d0b:wB.cell? ⟨w.heap.size,1,none⟩=some (.iface t1 x1):=(by simpa using Blk.cell (Fr.blk B1.o FC.o (by simp)) 1);have d1b:wB.cell? ⟨w.heap.size,2,none⟩=some (.iface t2 x2):=(by simpa using Blk.cell (Fr.blk B1.o FC.o (by simp)) 2);clear rb fb)
  |(go_at_call 150;refine (zdb RA.o RB.o hl1 hl2).mono ?_;rintro e wU ⟨vu,rfl,ru,fu⟩;have FU:=zab (FC.o.trans fu);have RU:=zab ru;have HSU:=zab FC.o.size;have d0u:wU.cell? ⟨w.heap.size,1,none⟩=some (.iface t1 x1):=(by simpa using Blk.cell (Fr.blk B1.o FU.o (by simp)) 1);have d1u:wU.cell? ⟨w.heap.size,2,none⟩=some (.iface t2 x2):=(by simpa using Blk.cell (Fr.blk B1.o FU.o (by simp)) 2);clear ru fu))
 all_goals
  go_wp2_with fail
  go_ret
  exact ⟨_,rfl,RU.o.base (zxN F0.o.size HSU.o),F0.o.trans FU.o⟩
theorem zcH{Z1 Z2:Nat->Prop}{lv gv:Value}{gone:List Cp.Nm}(h1:Row Z1 w 9 1 lv l.length (strCells l))(h2:Row Z2 w 9 1 gv gone.length (strCells gone))(hl1:l.length<=1000000)(hl2:gone.length<=1000000):
  Calls Tryz.prog 152 #[lv,gv] w fun e w'=>∃ v',e=.returned v'/\Names w.heap.size w' v' (Cp.zaG l gone)/\Fr (fun _=>False) w w':=
 (zjy h1 h2 hl1 hl2).mono fun _ _ ⟨v',e,h,f⟩=>⟨v',e,Row.zaE h,f⟩
theorem zdK{nv:Value}{l:List Th.Tok}(hr:Row S w 88 2 nv l.length (zaj l))(hl:l.length<=1000000):
  Calls Tryz.prog 52 #[nv] w fun e w'=>∃ v',e=.returned v'/\Names w.heap.size w' v' (Th.texts l)/\Fr (fun _=>False) w w':=
 (zeE hr hl).mono fun _ _ ⟨v',e,h,f⟩=>⟨v',e,Row.zaE (by simpa [Th.texts] using h),Fr.below f⟩
variable {p:Option Addr}
variable {m cp:Nat}
theorem ztb(hl1:l1.length<=1000000)(hl2:l2.length<=1000000)(c1:∀ W,Fr (fun _=>False) w W->Calls Tryz.prog 89 #[.iface t1 x1] W fun r w'=>∃ v',r=.returned v'/\Names W.heap.size w' v' l1/\Fr (fun _=>False) W w')(c2:∀ W,Fr (fun _=>False) w W->Calls Tryz.prog 92 #[.slice p m cp] W fun r w'=>∃ v',r=.returned v'/\Names W.heap.size w' v' l2/\Fr (fun _=>False) W w'):
  Calls Tryz.prog 89 #[.iface 173 (.agg #[.iface t1 x1,.slice p m cp])] w fun r w'=>∃ v',r=.returned v'/\Names w.heap.size w' v' (Cp.union l1 l2)/\Fr (fun _=>False) w w':=by
 have C1:=zab c1;have C2:=zab c2;clear c1 c2;have i0:=zjj;have i1:=zeK;have i2:=zdO;have i3:=zpB;have i4:=zh2;have B0:=zab (Blk.new w [.iface t1 x1,.slice p m cp] 173);have F0:Hid (Fr (fun _=>False) w (w.alloc (.cells #[.iface t1 x1,.slice p m cp] 173))):=zab ((Fr.refl _ _).alloc _);go_enter Tryz.func89,Tryz.ntmps89
 go_wp2_with fail
 generalize w.alloc (.cells #[.iface t1 x1,.slice p m cp] 173)=w1 at B0 F0 ⊢;have B1:=B0;clear i0 i1 i2 i3 i4 B0;have FC:Hid (Fr (fun _=>False) w1 w1.drew):=zab (Fr.refl _ _).drew;have q0:=Blk.cell B1.o 0;have q1:=Blk.cell B1.o 1;simp at q0 q1
 go_region_held3 (fun W=>W.cell? ⟨w.heap.size,0,none⟩=some (.iface t1 x1)/\W.cell? ⟨w.heap.size,1,none⟩=some (.slice p m cp)) (first|(refine ⟨?_,?_⟩ <;> assumption)|go_keep) (first
  |(go_at_call 89;with_reducible refine (C1.o _ (F0.o.trans FC.o)).mono ?_;rintro e wA ⟨va,rfl,ra,fa⟩;have FCn:=zab (FC.o.trans fa);(try (have RBn:=zab (RB.o.fr0 fa);clear RB;have RB:=RBn;clear RBn));have RA:=zab (ra.base (zx1 _));clear FC;have FC:=FCn;clear FCn;have d0a:wA.cell? ⟨w.heap.size,0,none⟩=some (.iface t1 x1):=(by simpa using Blk.cell (Fr.blk B1.o FC.o (by simp)) 0);have d1a:wA.cell? ⟨w.heap.size,1,none⟩=some (.slice p m cp):=(by simpa using Blk.cell (Fr.blk B1.o FC.o (by simp)) 1);clear ra fa)
  |(go_at_call 92;with_reducible refine (C2.o _ (F0.o.trans FC.o)).mono ?_;rintro e wB ⟨vb,rfl,rb,fb⟩;have FCn:=zab (FC.o.trans fb);(try (have RAn:=zab (RA.o.fr0 fb);clear RA;have RA:=RAn;clear RAn));have RB:=zab (rb.base (zx1 _));clear FC;have FC:=FCn;clear FCn;have d0b:wB.cell? ⟨w.heap.size,0,none⟩=some (.iface t1 x1):=(by simpa using Blk.cell (Fr.blk B1.o FC.o (by simp)) 0);have d1b:wB.cell? ⟨w.heap.size,1,none⟩=some (.slice p m cp):=(by simpa using Blk.cell (Fr.blk B1.o FC.o (by simp)) 1);clear rb fb)
  |(go_at_call 150;refine (zdb RA.o RB.o hl1 hl2).mono ?_;rintro e wU ⟨vu,rfl,ru,fu⟩;have FU:=zab (FC.o.trans fu);have RU:=zab ru;have HSU:=zab FC.o.size;have d0u:wU.cell? ⟨w.heap.size,0,none⟩=some (.iface t1 x1):=(by simpa using Blk.cell (Fr.blk B1.o FU.o (by simp)) 0);have d1u:wU.cell? ⟨w.heap.size,1,none⟩=some (.slice p m cp):=(by simpa using Blk.cell (Fr.blk B1.o FU.o (by simp)) 1);clear ru fu))
 all_goals
  go_wp2_with fail
  go_ret
  exact ⟨_,rfl,RU.o.base (zxN F0.o.size HSU.o),F0.o.trans FU.o⟩
theorem zpN(hl1:l1.length<=1000000)(hl2:l2.length<=1000000)(c1:∀ W,Fr (fun _=>False) w W->Calls Tryz.prog 89 #[.iface t1 x1] W fun r w'=>∃ v',r=.returned v'/\Names W.heap.size w' v' l1/\Fr (fun _=>False) W w')(c2:∀ W,Fr (fun _=>False) w W->Calls Tryz.prog 52 #[.slice p m cp] W fun r w'=>∃ v',r=.returned v'/\Names W.heap.size w' v' l2/\Fr (fun _=>False) W w'):
  Calls Tryz.prog 89 #[.iface 226 (.agg #[.slice p m cp,.iface t1 x1])] w fun r w'=>∃ v',r=.returned v'/\Names w.heap.size w' v' (Cp.zaG l1 l2)/\Fr (fun _=>False) w w':=by
 have C1:=zab c1;have C2:=zab c2;clear c1 c2;have i0:=zg4;have i1:=zdD;have i2:=zdg;have i3:=zgB;have i4:=zfZ;have i5:=zeu;have B0:=zab (Blk.new w [.slice p m cp,.iface t1 x1] 226);have F0:Hid (Fr (fun _=>False) w (w.alloc (.cells #[.slice p m cp,.iface t1 x1] 226))):=zab ((Fr.refl _ _).alloc _);go_enter Tryz.func89,Tryz.ntmps89
 go_wp2_with fail
 generalize w.alloc (.cells #[.slice p m cp,.iface t1 x1] 226)=w1 at B0 F0 ⊢;have B1:=B0;clear i0 i1 i2 i3 i4 i5 B0;have FC:Hid (Fr (fun _=>False) w1 w1.drew):=zab (Fr.refl _ _).drew;have q0:=Blk.cell B1.o 1;have q1:=Blk.cell B1.o 0;simp at q0 q1
 go_region_held3 (fun W=>W.cell? ⟨w.heap.size,1,none⟩=some (.iface t1 x1)/\W.cell? ⟨w.heap.size,0,none⟩=some (.slice p m cp)) (first|(refine ⟨?_,?_⟩ <;> assumption)|go_keep) (first
  |(go_at_call 89;with_reducible refine (C1.o _ (F0.o.trans FC.o)).mono ?_;rintro e wA ⟨va,rfl,ra,fa⟩;have FCn:=zab (FC.o.trans fa);(try (have RBn:=zab (RB.o.fr0 fa);clear RB;have RB:=RBn;clear RBn));have RA:=zab (ra.base (zx1 _));clear FC;have FC:=FCn;clear FCn;have d0a:wA.cell? ⟨w.heap.size,1,none⟩=some (.iface t1 x1):=(by simpa using Blk.cell (Fr.blk B1.o FC.o (by simp)) 1);have d1a:wA.cell? ⟨w.heap.size,0,none⟩=some (.slice p m cp):=(by simpa using Blk.cell (Fr.blk B1.o FC.o (by simp)) 0);clear ra fa)
  |(go_at_call 52;with_reducible refine (C2.o _ (F0.o.trans FC.o)).mono ?_;rintro e wB ⟨vb,rfl,rb,fb⟩;have FCn:=zab (FC.o.trans fb);(try (have RAn:=zab (RA.o.fr0 fb);clear RA;have RA:=RAn;clear RAn));have RB:=zab (rb.base (zx1 _));clear FC;have FC:=FCn;clear FCn;have d0b:wB.cell? ⟨w.heap.size,1,none⟩=some (.iface t1 x1):=(by simpa using Blk.cell (Fr.blk B1.o FC.o (by simp)) 1);have d1b:wB.cell? ⟨w.heap.size,0,none⟩=some (.slice p m cp):=(by simpa using Blk.cell (Fr.blk B1.o FC.o (by simp)) 0);clear rb fb)
  |(go_at_call 152;refine (zcH RA.o RB.o hl1 hl2).mono ?_;rintro e wU ⟨vu,rfl,ru,fu⟩;have FU:=zab (FC.o.trans fu);have RU:=zab ru;have HSU:=zab FC.o.size;have d0u:wU.cell? ⟨w.heap.size,1,none⟩=some (.iface t1 x1):=(by simpa using Blk.cell (Fr.blk B1.o FU.o (by simp)) 1);have d1u:wU.cell? ⟨w.heap.size,0,none⟩=some (.slice p m cp):=(by simpa using Blk.cell (Fr.blk B1.o FU.o (by simp)) 0);clear ru fu))
 all_goals
  go_wp2_with fail
  go_ret
  exact ⟨_,rfl,RU.o.base (zxN F0.o.size HSU.o),F0.o.trans FU.o⟩
def zp0 (w:World) (v:Value) (l:List Cp.Nm):Prop:=∀ W,Fr (fun _=>False) w W->Calls Tryz.prog 89 #[v] W fun r w'=>∃ v',r=.returned v'/\Names W.heap.size w' v' l/\Fr (fun _=>False) W w'
variable {g:Th.Ex->Nat}
theorem zf1{sv:Value}{zao:List (Nat × List Th.Tok)}{bodies:List Th.Ex}{nvs bvs:List Value}{f:Th.Ex->List Cp.Nm}(hg:∀ e,(f e).length<=g e)(h3:bodies.length=zao.length)(h4:nvs.length=zao.length)(h5:bvs.length=zao.length)(h6:Row S w 240 3 sv zao.length (za7 zao nvs bvs))(h7:∀ (i:Nat) (a:Nat × List Th.Tok) (nv:Value),zao[i]?=some a->nvs[i]?=some nv->Row S w 88 2 nv a.2.length (zaj a.2)/\a.2.length<=1000000)(h8:∀ (i:Nat) (bv:Value) (p:Th.Ex),bvs[i]?=some bv->bodies[i]?=some p->(∃ t x,bv=.iface t x)/\zp0 w bv (f p))(hb:(bodies.map g).sum<=1000000)(hal:zao.length<=1000000):
  Calls Tryz.prog 92 #[sv] w fun r w'=>∃ v',r=.returned v'/\Names w.heap.size w' v' (Cp.zas f zao bodies [])/\Fr (fun _=>False) w w':=by
 have hss:=zan h6;obtain ⟨sa,sn,sc,rfl⟩:=zae h6;have hsn:sn=zao.length:=by
  rcases h6.1.2 with ⟨h,h0⟩|⟨_,_,_,h0,_⟩
  ·cases h;exact h0.symm
  ·cases h0;rfl
 subst hsn;have H3:=zab h3;have H4:=zab h4;have H5:=zab h5;have H6:=zab h6;have H7:=zab h7;have H8:=zab h8;have HB:=zab hb;have HG:=zab hg;clear h3 h4 h5 h6 h7 h8 hb hg;go_enter Tryz.func92,Tryz.ntmps92
 go_wp2_with fail
 go_loopg [3,8] zao.length (fun gk v iv wr=>∃ (k:Nat) (cur:List Cp.Nm),iv=.int .i64 k/\k+gk=zao.length/\Names w.heap.size wr v cur/\Cp.zas f (zao.drop k) (bodies.drop k) cur=Cp.zas f zao bodies []/\cur.length+((bodies.drop k).map g).sum<=1000000/\Fr (fun _=>False) w wr)
 case atStart=>exact ⟨0,[],rfl,by omega,⟨World.ownsRow_nil _ _ _ _,by simp[Value.ownBlock]⟩,by simp,by simpa using HB.o,Fr.refl _ _⟩
 case round=>
  obtain ⟨k,cur,rfl,hk,hcur,hE,hl,hf⟩:=hrel;obtain ⟨va,vn,vc,rfl⟩:=zae hcur;have HC:=zab hcur;have HE:=zab hE;have HL:=zab hl;have HF:=zab hf;by_cases hlt:k<zao.length
  ·obtain ⟨gb,hsa⟩:∃ gb,sa=some ⟨gb,0,none⟩:=by
    rcases hss with h|⟨g,cap,h⟩
    ·have:=(Value.slice.inj h).2.1;omega
    ·exact ⟨g,(Value.slice.inj h).1⟩
   subst hsa;obtain ⟨a,ha⟩:∃ a,zao[k]?=some a:=⟨zao[k],zxI hlt⟩;obtain ⟨p,hp⟩:∃ p,bodies[k]?=some p:=⟨_,zxI (by rw[H3.o];exact hlt)⟩;obtain ⟨nv,hnv⟩:∃ nv,nvs[k]?=some nv:=⟨_,zxI (by rw[H4.o];exact hlt)⟩;obtain ⟨bv,hbv⟩:∃ bv,bvs[k]?=some bv:=⟨_,zxI (by rw[H5.o];exact hlt)⟩;obtain ⟨hN,hNl⟩:=H7.o k a nv ha hnv;obtain ⟨⟨pt,px,rfl⟩,hB⟩:=H8.o k bv p hbv hp;obtain ⟨np,nn,nc,rfl⟩:=zae hN;have hcs:=zdu zao nvs bvs k a _ _ ha hnv hbv;have hrow:=(Row.frc H6.o hf (by simp)).1;have c0:=(hrow.cellAt (k*3) (by omega)).trans hcs.1;have c1:=(hrow.cellAt (k*3+1) (by omega)).trans hcs.2.1;have c2:=(hrow.cellAt (k*3+2) (by omega)).trans hcs.2.2;have hk0:(0:Int)<=(k:Int):=zyJ _;have hDa:zao.drop k=a::zao.drop (k+1):=by rw[zyn hlt];rw[zxI hlt]at ha;cases ha;rfl
   have hDb:bodies.drop k=p::bodies.drop (k+1):=by
    have hlt':k<bodies.length:=by rw[H3.o];exact hlt
    rw[zyn hlt'];rw[zxI hlt']at hp;cases hp;rfl
   have hE2:Cp.zas f (zao.drop (k+1)) (bodies.drop (k+1)) (Cp.union cur (Cp.zaG (f p) (Th.texts a.2)))=Cp.zas f zao bodies []:=by
    rw[<-hE,hDa,hDb,Cp.zas]
   have hp1:=HG.o p;have hw1:=Cp.zbm (f p) (Th.texts a.2);have hu1:=Cp.zcN cur (Cp.zaG (f p) (Th.texts a.2));have hL2:(Cp.union cur (Cp.zaG (f p) (Th.texts a.2))).length+((bodies.drop (k+1)).map g).sum<=1000000:=by
    rw[hDb,zx6,zx9]at hl;omega
   have b1:Hid (cur.length<=1000000):=zab (by omega);have b2:Hid ((f p).length<=1000000/\(Cp.zaG (f p) (Th.texts a.2)).length<=1000000/\(Th.texts a.2).length<=1000000):=zab (by
    rw[hDb,zx6,zx9]at hl;exact ⟨by omega,by omega,by simpa [Th.texts] using hNl⟩)
   have HE2:=zab (And.intro hE2 hL2);have C1:=zab (fun W (hW:Fr (fun _=>False) wr W)=>hB W (hf.trans hW));have C2:=zab (fun W (hW:Fr (fun _=>False) wr W)=>zdK (Row.frc hN (hf.trans hW) (by simp)) hNl);have B0:=zab (Blk.new wr [.int .i64 a.1,.slice np nn nc,.iface pt px] 240);have F0:Hid (Fr (fun _=>False) wr (wr.alloc (.cells #[.int .i64 a.1,.slice np nn nc,.iface pt px] 240))):=zab ((Fr.refl _ _).alloc _);clear hcur hE hl hf ha hp hnv hbv hN hNl hB hcs hrow hDa hDb hE2 hp1 hw1 hu1 hL2 hss;go_wp2_with fail
   generalize wr.alloc (.cells #[.int .i64 a.1,.slice np nn nc,.iface pt px] 240)=w1 at B0 F0 ⊢;have B1:=B0;clear B0 c0 c1 c2;have FC:Hid (Fr (fun _=>False) w1 w1.drew):=zab (Fr.refl _ _).drew;have q1:=Blk.cell B1.o 1;have q2:=Blk.cell B1.o 2;simp at q1 q2
   go_region_held3 (fun W=>W.cell? ⟨wr.heap.size,1,none⟩=some (.slice np nn nc)/\W.cell? ⟨wr.heap.size,2,none⟩=some (.iface pt px)) (first|(refine ⟨?_,?_⟩ <;> assumption)|go_keep) (first
    |(go_at_call 89;with_reducible refine (C1.o _ (F0.o.trans FC.o)).mono ?_;rintro e wA ⟨va1,rfl,rva1,fva1⟩;have FCn:=zab (FC.o.trans fva1);(try (have RBn:=zab (RB.o.fr0 fva1);clear RB;have RB:=RBn;clear RBn));have RA:=zab (rva1.base (zx1 _));clear FC;have FC:=FCn;clear FCn;have d1va1:wA.cell? ⟨wr.heap.size,1,none⟩=some (.slice np nn nc):=(by simpa using Blk.cell (Fr.blk B1.o FC.o (by simp)) 1);have d2va1:wA.cell? ⟨wr.heap.size,2,none⟩=some (.iface pt px):=(by simpa using Blk.cell (Fr.blk B1.o FC.o (by simp)) 2);clear rva1 fva1)
    |(go_at_call 52;with_reducible refine (C2.o _ (F0.o.trans FC.o)).mono ?_;rintro e wB ⟨vb1,rfl,rvb1,fvb1⟩;have FCn:=zab (FC.o.trans fvb1);(try (have RAn:=zab (RA.o.fr0 fvb1);clear RA;have RA:=RAn;clear RAn));have RB:=zab (rvb1.base (zx1 _));clear FC;have FC:=FCn;clear FCn;have d1vb1:wB.cell? ⟨wr.heap.size,1,none⟩=some (.slice np nn nc):=(by simpa using Blk.cell (Fr.blk B1.o FC.o (by simp)) 1);have d2vb1:wB.cell? ⟨wr.heap.size,2,none⟩=some (.iface pt px):=(by simpa using Blk.cell (Fr.blk B1.o FC.o (by simp)) 2);clear rvb1 fvb1)
    |(go_at_call 152;refine (zcH RA.o RB.o b2.o.1 b2.o.2.2).mono ?_;rintro e wW ⟨vw1,rfl,rvw1,fvw1⟩;have FCn:=zab (FC.o.trans fvw1);have RW:=zab (rvw1.base (zx1 _));clear FC;have FC:=FCn;clear FCn;have d1vw1:wW.cell? ⟨wr.heap.size,1,none⟩=some (.slice np nn nc):=(by simpa using Blk.cell (Fr.blk B1.o FC.o (by simp)) 1);have d2vw1:wW.cell? ⟨wr.heap.size,2,none⟩=some (.iface pt px):=(by simpa using Blk.cell (Fr.blk B1.o FC.o (by simp)) 2);clear rvw1 fvw1)
    |(go_at_call 150;refine (zdb (HC.o.fr0 (F0.o.trans FC.o)) RW.o b1.o b2.o.2.1).mono ?_;rintro e wU ⟨vu,rfl,ru,fu⟩;have FU:=zab (FC.o.trans fu);have HSU:=zab FC.o.size;have RU:=zab (ru.base (zx1 _));have RUB:=zab ru;have d1u:wU.cell? ⟨wr.heap.size,1,none⟩=some (.slice np nn nc):=(by simpa using Blk.cell (Fr.blk B1.o FU.o (by simp)) 1);have d2u:wU.cell? ⟨wr.heap.size,2,none⟩=some (.iface pt px):=(by simpa using Blk.cell (Fr.blk B1.o FU.o (by simp)) 2);clear ru fu))
   all_goals
    go_wp2_with fail
    go_roundg (zao.length-(k+1))
    case measure=>omega
    case rel=>
     refine ⟨k+1,_,by go_num,by omega,RUB.o.base ?_,HE2.o.1,HE2.o.2,HF.o.trans (F0.o.trans FU.o)⟩;exact zxN HF.o.size (zxN F0.o.size HSU.o)
  ·have hk2:k=zao.length:=by omega
   have hR:cur=Cp.zas f zao bodies []:=by
    rw[<-hE,hk2,List.drop_length,Cp.zas];simp
   have HR:=zab hR;clear hcur hE hl hf hk2 hss hR;go_wp2_with fail
   go_ret
   exact ⟨_,rfl,HR.o ▸ HC.o,HF.o⟩
theorem zl6{sv:Value}{r:Bool}{l:List Th.Tok}{parts:List Th.Ex}{pvs:List Value}{bt:TypeId}{bx:Value}{lb:List Cp.Nm}{f:Th.Ex->List Cp.Nm}(hg:∀ e,(f e).length<=g e)(h3:parts.length=l.length)(h4:pvs.length=l.length)(h6:Row S w 312 3 sv l.length (zaM l pvs))(h8:∀ (i:Nat) (bv:Value) (p:Th.Ex),pvs[i]?=some bv->parts[i]?=some p->(∃ t x,bv=.iface t x)/\zp0 w bv (f p))(h9:zp0 w (.iface bt bx) lb)(hlb:lb.length<=1000000)(hb:(parts.map g).sum<=1000000)(hal:l.length<=1000000):
  Calls Tryz.prog 151 #[.agg #[.bool r,sv,.iface bt bx]] w fun q w'=>∃ v',q=.returned v'/\Names w.heap.size w' v' (Cp.union (if r then Cp.zaG (Cp.zaw f parts []) (Th.texts l) else Cp.zaw f parts []) (Cp.zaG lb (Th.texts l)))/\Fr (fun _=>False) w w':=by
 have hss:=zan h6;obtain ⟨sa,sn,sc,rfl⟩:=zae h6;have hsn:sn=l.length:=by
  rcases h6.1.2 with ⟨h,h0⟩|⟨_,_,_,h0,_⟩
  ·cases h;exact h0.symm
  ·cases h0;rfl
 subst hsn;have hone:∀ (i:Nat) (pv:Value),pvs[i]?=some pv->pv.oneCell'=true:=fun i pv hp=>by
  have:i<parts.length:=by rw[h3,<-h4];exact (zxH.1 hp).1
  obtain ⟨⟨t,x,rfl⟩,_⟩:=h8 i pv parts[i] hp (zxI this);rfl
 have f0:Fr (fun _=>False) w (w.alloc (.cells #[.bool r,.slice sa l.length sc,.iface bt bx] 178)):=(Fr.refl _ _).alloc _;have hbn:=zab (zcY (rb:=r) (bt:=bt) (bx:=bx) (Row.frc h6 f0 (by simp)) h4 hone hal);have HE0:=zab (Blk.new w [.bool r,.slice sa l.length sc,.iface bt bx] 178);have F0:=zab f0;have H3:=zab h3;have H4:=zab h4;have H6:=zab h6;have H8:=zab h8;have H9:=zab h9;have HB:=zab hb;have HG:=zab hg;have HTL:Hid ((Th.texts l).length<=1000000):=zab (by simpa [Th.texts] using hal);clear h3 h4 h6 h8 hb hg h9 hone f0;go_enter Tryz.func151,Tryz.ntmps151
 go_wp2_with fail
 refine hbn.o.mono ?_;clear hbn;rintro en w1 ⟨tv,rfl,htv,hb1⟩;obtain ⟨ta,tn,tc,rfl⟩:=zaF htv;have f1:Fr (fun _=>False) (w.alloc (.cells #[.bool r,.slice sa l.length sc,.iface bt bx] 178)) w1:=Fr.below hb1;have HT:Hid (Names 0 w1 (.slice ta tn tc) (Th.texts l)):=zab (Names.base (Row.zaE (by simpa [Th.texts] using htv)) (zx1 _));have HE1:=zab (Fr.blk HE0.o f1 (by simp));have F1:=zab (F0.o.trans f1);have q1:=Blk.cell HE1.o 1;simp at q1;clear htv hb1 f1 HE0 F0;go_wp2_with fail
 clear q1
 go_loopg [4,12] l.length (fun gk v iv wr=>∃ (k:Nat) (cur:List Cp.Nm),iv=.int .i64 k/\k+gk=l.length/\Names w.heap.size wr v cur/\Cp.zaw f (parts.drop k) cur=Cp.zaw f parts []/\cur.length+((parts.drop k).map g).sum<=1000000/\Fr (fun _=>False) w1 wr)
 case atStart=>exact ⟨0,[],rfl,by omega,⟨World.ownsRow_nil _ _ _ _,by simp[Value.ownBlock]⟩,by simp,by simpa using HB.o,Fr.refl _ _⟩
 case round=>
  obtain ⟨k,cur,rfl,hk,hcur,hE,hl,hf⟩:=hrel;obtain ⟨va,vn,vc,rfl⟩:=zae hcur;have HC:=zab hcur;have HE:=zab hE;have HL:=zab hl;have HF:=zab hf;by_cases hlt:k<l.length
  ·obtain ⟨gb,hsa⟩:∃ gb,sa=some ⟨gb,0,none⟩:=by
    rcases hss with h|⟨g,cap,h⟩
    ·have:=(Value.slice.inj h).2.1;omega
    ·exact ⟨g,(Value.slice.inj h).1⟩
   subst hsa;obtain ⟨a,ha⟩:∃ a,l[k]?=some a:=⟨l[k],zxI hlt⟩;obtain ⟨p,hp⟩:∃ p,parts[k]?=some p:=⟨_,zxI (by rw[H3.o];exact hlt)⟩;obtain ⟨bv,hbv⟩:∃ bv,pvs[k]?=some bv:=⟨_,zxI (by rw[H4.o];exact hlt)⟩;obtain ⟨⟨pt,px,rfl⟩,hB⟩:=H8.o k bv p hbv hp;have hcs:=zbB l pvs k a _ ha hbv;have hrow:=(Row.frc H6.o (F1.o.trans hf) (by simp)).1;have c0:=(hrow.cellAt (k*3) (by omega)).trans hcs.1;have c1:=(hrow.cellAt (k*3+1) (by omega)).trans hcs.2.1;have c2:=(hrow.cellAt (k*3+2) (by omega)).trans hcs.2.2;have hk0:(0:Int)<=(k:Int):=zyJ _;have hDb:parts.drop k=p::parts.drop (k+1):=by
    have hlt':k<parts.length:=by rw[H3.o];exact hlt
    rw[zyn hlt'];rw[zxI hlt']at hp;cases hp;rfl
   have hE2:Cp.zaw f (parts.drop (k+1)) (Cp.union cur (f p))=Cp.zaw f parts []:=by
    rw[<-hE,hDb,Cp.zaw]
   have hp1:=HG.o p;have hu1:=Cp.zcN cur (f p);have hL2:(Cp.union cur (f p)).length+((parts.drop (k+1)).map g).sum<=1000000:=by
    rw[hDb,zx6,zx9]at hl;omega
   have b1:Hid (cur.length<=1000000):=zab (by omega);have b2:Hid ((f p).length<=1000000):=zab (by
    rw[hDb,zx6,zx9]at hl;omega)
   have HE2:=zab (And.intro hE2 hL2);have C1:=zab (fun W (hW:Fr (fun _=>False) wr W)=>hB W (F1.o.trans (hf.trans hW)));have F2:Hid (Fr (fun _=>False) wr (wr.alloc (.cells #[.string ⟨a.s.toArray⟩,.int .i64 a.at_,.iface pt px] 312))):=zab ((Fr.refl _ _).alloc _);clear hcur hE hl hf ha hp hbv hB hcs hrow hDb hE2 hp1 hu1 hL2 hss;go_wp2_with fail
   refine (C1.o _ F2.o).mono ?_;rintro e wA ⟨vx,rfl,ra,fa⟩;obtain ⟨xa,xn,xc,rfl⟩:=zae ra;have RA:=zab ra;have FA:=zab (F2.o.trans fa);clear ra fa c0 c1 c2;go_wp2_with fail
   refine (zdb (HC.o.fr0 FA.o) RA.o b1.o b2.o).mono ?_;rintro e wU ⟨vu,rfl,ru,fu⟩;have RU:=zab ru;have FU:=zab fu;clear ru fu;go_wp2_with fail
   go_roundg (l.length-(k+1))
   case measure=>omega
   case rel=>
    refine ⟨k+1,_,by go_num,by omega,RU.o.base ?_,HE2.o.1,HE2.o.2,HF.o.trans (FA.o.trans FU.o)⟩;exact zxN F1.o.size (zxN HF.o.size FA.o.size)
  ·have hk2:k=l.length:=by omega
   have hR:cur=Cp.zaw f parts []:=by
    rw[<-hE,hk2,<-H3.o,List.drop_length,Cp.zaw]
   have hR2:Hid (cur.length<=1000000):=zab (by omega);have HR:=zab hR;have HE2:=zab (Fr.blk HE1.o hf (by simp));have e0:=Blk.cell HE2.o 0;have e2:=Blk.cell HE2.o 2;simp at e0 e2;have C1:=zab (fun W (hW:Fr (fun _=>False) wr W)=>H9.o W (F1.o.trans (HF.o.trans hW)));have HSZ:=zab (zxN F1.o.size HF.o.size);clear hcur hE hl hf hk2 hss hR;cases r
   ·have hR:=HR.o;subst hR;have FZ:=zab (Fr.refl (fun _=>False) wr);have LZ:=zab (HC.o.base (zx1 _));have LN:=hR2;go_wp2_with fail
    refine (C1.o _ FZ.o).mono ?_;rintro e wA ⟨vx,rfl,ra,fa⟩;obtain ⟨xa,xn,xc,rfl⟩:=zae ra;have RA:=zab ra;have FA:=zab (FZ.o.trans fa);have LC:=zab (LZ.o.fr0 fa);clear ra fa e0 e2;go_wp2_with fail
    refine (zcH RA.o (HT.o.fr0 (HF.o.trans FA.o)) hlb HTL.o).mono ?_;rintro e wB ⟨vx,rfl,ra,fa⟩;obtain ⟨ya,yn,yc,rfl⟩:=zae ra;have RB:=zab ra;have FB:=zab (FA.o.trans fa);have LD:=zab (LC.o.fr0 fa);clear ra fa;go_wp2_with fail
    refine (zdb LD.o RB.o LN.o (zxN (Cp.zbm _ _) hlb)).mono ?_;rintro e wU ⟨vu,rfl,ru,fu⟩;have RU:=zab ru;have FU:=zab fu;clear ru fu;go_wp2_with fail
    go_ret
    refine ⟨_,rfl,?_,F1.o.trans (HF.o.trans (FB.o.trans FU.o))⟩;exact Names.base RU.o (zxN HSZ.o FB.o.size)
   ·have hR:=HR.o;subst hR;go_wp2_with fail
    refine (zcH HC.o (HT.o.fr0 HF.o) hR2.o HTL.o).mono ?_;rintro e wz ⟨vx,rfl,rz,fz⟩;obtain ⟨za,zn,zc,rfl⟩:=zae rz;have LZ:=zab (rz.base (zx1 _));have FZ:=zab fz;have LN:=zab (zxN (Cp.zbm (Cp.zaw f parts []) (Th.texts l)) hR2.o);clear rz e0 e2;have HE3:=zab (Fr.blk HE2.o fz (by simp));have e0:=Blk.cell HE3.o 0;have e2:=Blk.cell HE3.o 2;simp at e0 e2;clear fz;go_wp2_with fail
    refine (C1.o _ FZ.o).mono ?_;rintro e wA ⟨vx,rfl,ra,fa⟩;obtain ⟨xa,xn,xc,rfl⟩:=zae ra;have RA:=zab ra;have FA:=zab (FZ.o.trans fa);have LC:=zab (LZ.o.fr0 fa);clear ra fa e0 e2;go_wp2_with fail
    refine (zcH RA.o (HT.o.fr0 (HF.o.trans FA.o)) hlb HTL.o).mono ?_;rintro e wB ⟨vx,rfl,ra,fa⟩;obtain ⟨ya,yn,yc,rfl⟩:=zae ra;have RB:=zab ra;have FB:=zab (FA.o.trans fa);have LD:=zab (LC.o.fr0 fa);clear ra fa;go_wp2_with fail
    refine (zdb LD.o RB.o LN.o (zxN (Cp.zbm _ _) hlb)).mono ?_;rintro e wU ⟨vu,rfl,ru,fu⟩;have RU:=zab ru;have FU:=zab fu;clear ru fu;go_wp2_with fail
    go_ret
    refine ⟨_,rfl,?_,F1.o.trans (HF.o.trans (FB.o.trans FU.o))⟩;exact Names.base RU.o (zxN HSZ.o FB.o.size)
theorem zvz{r:Bool}(c1:∀ W,Fr (fun _=>False) w W->Calls Tryz.prog 151 #[.agg #[.bool r,.slice p m cp,.iface t1 x1]] W fun r w'=>∃ v',r=.returned v'/\Names W.heap.size w' v' l/\Fr (fun _=>False) W w'):
  Calls Tryz.prog 89 #[.iface 178 (.agg #[.bool r,.slice p m cp,.iface t1 x1])] w fun r w'=>∃ v',r=.returned v'/\Names w.heap.size w' v' l/\Fr (fun _=>False) w w':=by
 have C1:=zab c1;clear c1;have i0:=zkY;have i1:=zgo;have i2:=zew;have i3:=zlC;have F0:Hid (Fr (fun _=>False) w (w.alloc (.cells #[.bool r,.slice p m cp,.iface t1 x1] 178))):=zab ((Fr.refl _ _).alloc _);go_enter Tryz.func89,Tryz.ntmps89
 go_wp2_with fail
 refine (C1.o _ F0.o).mono ?_;rintro e wA ⟨vx,rfl,ra,fa⟩;have RA:=zab ra;have FA:=zab fa;clear ra fa i0 i1 i2 i3;go_wp2_with fail
 go_ret
 exact ⟨_,rfl,RA.o.base F0.o.size,F0.o.trans FA.o⟩
theorem zo7{g:Th.Ex->Nat}:∀ {l:List Th.Ex} {k:Nat} {p:Th.Ex},l[k]?=some p->g p<=(l.map g).sum
 |[],k,p,h=>by simp at h
 |a::l,0,p,h=>by simp at h;subst h;simp
 |a::l,k+1,p,h=>by
  have:=zo7 (g:=g) (l:=l) (k:=k) (p:=p) (by simpa using h);simp;omega
theorem ziK:∀ {l:List (Nat × List Th.Tok)} {k:Nat} {a:Nat × List Th.Tok},l[k]?=some a->1+a.2.length<=(l.map fun a=>1+a.2.length).sum
 |[],k,p,h=>by simp at h
 |a::l,0,p,h=>by simp at h;subst h;simp
 |a::l,k+1,p,h=>by
  have:=ziK (l:=l) (k:=k) (a:=p) (by simpa using h);simp;omega
theorem zmq:∀ (l:List (Nat × List Th.Tok)),l.length<=(l.map fun a=>1+a.2.length).sum
 |[]=>by simp
 |a::l=>by
  have:=zmq l;simp;omega
theorem zhe(n:Nat):zxA n:=by
 induction n with
 |zero=>intro S w v e h;exact h.elim
 |succ n ih=>
  intro S w v e h hw;have at_:∀ {bv:Value} {b:Th.Ex},Rep S w n bv b->Cp.wt n b<=1000000->zp0 w bv (Cp.free n b):=fun hr hb W hW=>ih (hr.fr0 hW) hb
  have fl:=Cp.zaZ n;rw[Cp.wt]at hw;rcases h with ⟨hk,rfl⟩|⟨hk,rfl⟩|⟨hk,rfl⟩|⟨hk,sv,bv,b,h1,rfl,h3,h4⟩|⟨hk,v1,v2,e1,e2,h1,rfl,h3,h4⟩|⟨hk,v1,v2,e1,e2,h1,rfl,h3,h4⟩|⟨hk,sv,bv,b,parts,pvs,h1,rfl,h3,h4,h5,h6,h7⟩|⟨hk,cv,sv,b,bodies,nvs,bvs,h1,rfl,h3,h4,h5,h6,h7,h8,h9⟩
  ·rw[show Cp.free (n+1) e=[] by simp[Cp.free,hk]];exact zph
  ·rw[show Cp.free (n+1) e=[e.tok.s] by simp[Cp.free,hk]];exact zuX
  ·rw[show Cp.free (n+1) e=[] by simp[Cp.free,hk]];exact zrx
  ·obtain ⟨t,x,rfl⟩:=zah h4;obtain ⟨a,m,c,rfl⟩:=zae h3;rw[show Cp.free (n+1) e=Cp.zaG (Cp.free n b) (Th.texts e.names) by simp[Cp.free,hk,h1]];rw[h1]at hw;simp at hw;have:=fl b;refine zpN (by omega) (by simp[Th.texts];omega) (at_ h4 (by omega)) (fun W hW=>?_);exact zdK (Row.frc h3 hW (by simp)) (by omega)
  ·obtain ⟨t,x,rfl⟩:=zah h3;obtain ⟨t2,x2,rfl⟩:=zah h4;rw[show Cp.free (n+1) e=Cp.union (Cp.free n e1) (Cp.free n e2) by simp[Cp.free,hk,h1]];rw[h1]at hw;simp at hw;have:=fl e1;have:=fl e2;exact ztr (by omega) (by omega) (at_ h3 (by omega)) (at_ h4 (by omega))
  ·obtain ⟨t,x,rfl⟩:=zah h3;obtain ⟨t2,x2,rfl⟩:=zah h4;rw[show Cp.free (n+1) e=Cp.union (Cp.free n e1) (Cp.free n e2) by simp[Cp.free,hk,h1]];rw[h1]at hw;simp at hw;have:=fl e1;have:=fl e2;exact zks (by omega) (by omega) (at_ h3 (by omega)) (at_ h4 (by omega))
  ·obtain ⟨t,x,rfl⟩:=zah h7;obtain ⟨a,m,c,rfl⟩:=zae h5;have hE:Cp.free (n+1) e=Cp.union (if (e.kind == 8)=true then Cp.zaG (Cp.zaw (Cp.free n) parts []) (Th.texts e.names) else Cp.zaw (Cp.free n) parts []) (Cp.zaG (Cp.free n b) (Th.texts e.names)):=by
    rcases hk with hk|hk <;> simp[Cp.free,hk,h1]
   rw[hE];rw[h1]at hw;simp only[zx6,zx9]at hw;have:=fl b;refine zvz (fun W hW=>?_);refine zl6 fl h3 h4 (Row.frc h5 hW (by simp)) (fun i bv p hi hp=>⟨zah (h6 i bv p hi hp),fun W' hW'=>?_⟩) (fun W' hW'=>ih (h7.fr0 (hW.trans hW')) (by omega)) (by omega) (by omega) (by omega);exact ih ((h6 i bv p hi hp).fr0 (hW.trans hW')) (by have:=zo7 (g:=Cp.wt n) hp;omega)
  ·obtain ⟨t,x,rfl⟩:=zah h9;obtain ⟨a,m,c,rfl⟩:=zae h6;rw[show Cp.free (n+1) e=Cp.union (Cp.free n b) (Cp.zas (Cp.free n) e.zao bodies []) by simp[Cp.free,hk,h1]];rw[h1]at hw;simp only[zx6,zx9]at hw;have:=fl b;have:=zmq e.zao;have:=Cp.zbP (Cp.free n) (Cp.wt n) fl e.zao bodies [];simp only[zyi,zyC]at this;refine ztb (by omega) (by omega) (at_ h9 (by omega)) (fun W hW=>?_);refine zf1 fl h3 h4 h5 (Row.frc h6 hW (by simp)) (fun i a nv hi hv=>⟨Row.frc (h7 i a nv hi hv) hW (by simp),by have:=ziK hi;omega⟩) (fun i bv p hi hp=>⟨zah (h8 i bv p hi hp),fun W' hW'=>?_⟩) (by omega) (by omega);exact ih ((h8 i bv p hi hp).fr0 (hW.trans hW')) (by have:=zo7 (g:=Cp.wt n) hp;omega)
end Go.Proofs.YtgahgkddaljmkaaGreatDoor
