/- Iter1 .. Mach36 -/
import Derived.RangeFuncNested
import Derived.RangeFuncBound
import Derived.OwnWalkIn
import Derived.TacticsInMore
import Derived.LoopNIn
import Derived.LoopIn
import Derived.Test.YtgahgkddaljmkaaGreatDoorT5
import Derived.Shelf.Spec.SlicesGrow
set_option maxRecDepth 100000
set_option maxHeartbeats 4000000
namespace Go.Proofs.YtgahgkddaljmkaaGreatDoor
open Tryz
open Go.RowKit Go.Shelf
attribute [local go_sem] Oper.semAt_some
theorem zwG{t:List UInt8}(h:t≠[]):1<=(Th.word t).2.length:=by
 have:0<t.length:=zzA.2 h;unfold Th.word;split <;> exact this
theorem zw0{q:UInt8->Bool}{c:UInt8}{r:List UInt8}(h:q c=true):(c::r).takeWhile q≠[]:=by simp[h]
theorem zeO(t:List UInt8)(h:2<=(Th.first t).1):1<=(Th.first t).2.length:=by
 cases t with
 |nil=>simp[Th.first]at h
 |cons c r=>
  simp only[Th.first]at h ⊢;split
  ·next hc=>exact zwG (zw0 (by simp[Th.zlx,hc]))
  ·split
   ·next hc hd=>
    rw[if_neg hc,if_pos hd]at h;have hp:=zw0 (q:=Th.zba) (r:=r) hd;have:0<((c::r).takeWhile Th.zba).length:=zzA.2 hp;unfold Th.zo7 at h ⊢;split
    ·next h9=>rw[if_pos h9]at h;simp at h
    ·exact this
   ·split
    ·next hc hd hs=>rw[if_neg hc,if_neg hd,if_pos hs]at h;simp at h
    ·next hs=>
     have:=zlP (c::r);simp only[zzf];omega
theorem zvx(t:List UInt8):(Th.first t).2.length<=t.length:=by
 cases t with
 |nil=>simp[Th.first]
 |cons c r=>
  simp only[Th.first];split
  ·have:=zuI Th.zlx (c::r);unfold Th.word;split <;> exact this
  ·split
   ·have:=zuI Th.zba (c::r);unfold Th.zo7;split
    ·simp
    ·exact this
   ·split
    ·simp
    ·simp only[zzf];omega
theorem zoN(f:Nat)(t:List UInt8)(p:Nat):Th.zdN (f+1) t p=⟨(Th.first (t.drop (t.takeWhile Th.zda).length)).1,(Th.first (t.drop (t.takeWhile Th.zda).length)).2,p+(t.takeWhile Th.zda).length⟩ ::
  (if (Th.first (t.drop (t.takeWhile Th.zda).length)).1<=1 then [] else Th.zdN f ((t.drop (t.takeWhile Th.zda).length).drop (Th.first (t.drop (t.takeWhile Th.zda).length)).2.length) (p+(t.takeWhile Th.zda).length+(Th.first (t.drop (t.takeWhile Th.zda).length)).2.length)):=rfl
def zoK (t:Th.Tok):Value:=.agg #[.int .i64 t.k,.string ⟨t.s.toArray⟩,.int .i64 t.at_]
def Kp3 (n₀ Bn:Nat) (A B:World):Prop:=Below n₀ A B/\B.heap[Bn]?=A.heap[Bn]?/\∀ (b:Nat) (cs:Array Value),A.heap[b]?=some (.cells cs 135 (0,0))->cs.size=3->B.heap[b]?=some (.cells cs 135 (0,0))
theorem zqr(s:ByteArray)(p:Nat):(s.extract p s.size).data.toList=s.data.toList.drop p:=by
 rw[Lib.extract_data,zy9];simp
theorem zpa{J:List Th.Tok->World->Prop}{B:Nat}(hJ:AbidesFrom B J){pre:List Th.Tok}{A C:World}(h:J pre A)(hb:Below A.heap.size A C):J pre C:=
 hJ pre A C none h (zaf none hb) (by simp)
theorem zsc(n:Nat)(hn:1<=n)(l Bn n₀:Nat)(s:ByteArray)(hs:s.size<=600)(J Jx:List Th.Tok->World->Prop)(hY:∀ pre x W,J pre W->pre.length<(zay s).length->YieldAt Fence.wide (n-1) prog l #[zoK x] W fun e W'=>
   (e=.returned (.bool true)/\J (pre++[x]) W'/\Kp3 n₀ Bn W W')\/(e=.returned (.bool false)/\Jx (pre++[x]) W'))(W:World)(hn₀:n₀<=W.heap.size)(hJ:AbidesFrom W.heap.size J)(DT:W.cell? ⟨Bn,0,none⟩=some (.string s))(h0:J [] W):
  CallsIn Fence.wide n prog 187 #[.func (.yield l) #[] #[],.pointer (some ⟨Bn,0,none⟩)] W fun e W'=>(∃ v,e=.returned v) /\
   ((∃ ys,ys=zay s/\J ys W')\/(∃ pre,pre <+: zay s/\Jx pre W')):=by
 have HY:=zab hY;have HJ:=zab hJ;clear hY hJ;refine callsIn_of_wp func187 rfl trivial ?_ rfl;simp only[ntmps187,zzr,zy8,zzm,Nat.reduceAdd,Nat.reduceSub,zzB,zzC,zzH,zzE,zzb,zy7]
 gi_wp2
 gi_loopw [3] (fun i wr=>∃ (pre:List Th.Tok) (p f:Nat),i=.int .i64 p/\p<=s.size/\s.size-p<=f/\Hid (zay s=pre++Th.zdN (f+1) (s.data.toList.drop p) p)/\wr.cell? ⟨Bn,0,none⟩=some (.string s)/\n₀<=wr.heap.size/\Hid (Below n₀ W wr)/\Hid (J pre wr))
  (fun i _=>s.size+1-(intOf i).toNat)
 case atStart=>exact ⟨[],0,s.size,rfl,zy5 _,by omega,zab (by simp[zay]),DT,hn₀,zab (Below.refl _ _),zab h0⟩
 case round=>
  obtain ⟨pre,p,f,rfl,hp,hf,hT,hB,hz,zF,zM⟩:=hrel;obtain ⟨b,hb⟩:∃ b,((s.data.toList.drop p).takeWhile Th.zda).length=b:=⟨_,rfl⟩;have cV:b<=s.size-p:=by
   have:=zuI Th.zda (s.data.toList.drop p);rw[hb]at this;simpa using this
  obtain ⟨a,ha⟩:∃ a,p+b=a:=⟨_,rfl⟩;have aU:a<=s.size:=by omega
  have js:p<=a:=by omega
  obtain ⟨⟨k,t⟩,jI⟩:∃ x,Th.first (s.data.toList.drop a)=x:=⟨_,rfl⟩
  have cu:=zvx (s.data.toList.drop a);rw[jI]at cu;simp only[zzu]at cu;have Fe:t.length<=s.size-a:=by simpa using cu
  have gl:Hid (zay s=pre++⟨k,t,a⟩::(if k<=1 then [] else Th.zdN f (s.data.toList.drop (a+t.length)) (a+t.length))):=zab (by
   have e:=hT.o;rw[zoN,hb,List.drop_drop,ha,jI]at e;simp only[List.drop_drop]at e;exact e)
  have bp:Hid (2<=k->1<=t.length):=zab (fun h=>by have:=zeO (s.data.toList.drop a) (by rw[jI];exact h);rw[jI]at this;exact this);have Ha:=zab ha;clear ha;have Hb:=zab hb;have Dg:=zab jI;clear hb jI cu hT
  gi_wp2
  refine ⟨trivial,?_⟩;refine (callsIn_wide.2 (zxR _ _ (by rw[ByteArray.size_extract];omega))).mono ?_;rintro e w1 ⟨rfl,pos,aD⟩;rw[zqr,Hb.o];have aA:Below wr.heap.size wr w1:=by rw[aD];exact zam _ _
  have zL:=zab (zpa HJ.o zM.o aA);have ry:=zab (zF.o.trans (aA.mono hz));have cU:w1.cell? ⟨Bn,0,none⟩=some (.string s):=(aA.cell (p:=⟨Bn,0,none⟩) (zeK hB)).trans hB;have aP:n₀<=w1.heap.size:=zyR hz aA.size;clear aA aD hB zM zF hz
  gi_wp2
  refine ⟨trivial,?_⟩;rw[show ((p:Int)+(b:Int))=(a:Int) by have:=Ha.o;omega,show p+b=a from Ha.o];refine (callsIn_wide.2 (zs7 _ _ (by rw[ByteArray.size_extract];omega))).mono ?_;rintro e w2 ⟨rfl,aw⟩;rw[zqr,Dg.o];have wR:=zab (zpa HJ.o (zpa HJ.o zL.o aw) (zam w2 (.cells #[.int .i64 k,.string ⟨t.toArray⟩,.int .i64 (a:Int)] 135)));have oM:=zab ((ry.o.trans (aw.mono aP)).trans ((zam w2 (.cells #[.int .i64 k,.string ⟨t.toArray⟩,.int .i64 (a:Int)] 135)).mono (zyR aP aw.size)));have jh:w2.cell? ⟨Bn,0,none⟩=some (.string s):=(aw.cell (p:=⟨Bn,0,none⟩) (zeK cU)).trans cU;have bF:n₀<=w2.heap.size:=zyR aP aw.size;have hlen:pre.length<(zay s).length:=by rw[gl.o];simp
  obtain ⟨fn,tmps,assign,body,hy,hR⟩:=HY.o pre ⟨k,t,a⟩ _ wR.o hlen;have HR:=zab hR;simp only[zoK]at hy;clear hR aw cU zL ry
  gi_wp2
  refine HR.o.mono ?_;rintro e w3 (⟨rfl,gP,dG⟩|⟨rfl,rD⟩)
  ·have wP:Blk w3 w2.heap.size [.int .i64 k,.string ⟨t.toArray⟩,.int .i64 a] 135:=dG.2.2 _ _ (heap_alloc_new w2 _) rfl;have c0:=wP.cell 0;have c1:=wP.cell 1;simp at c0 c1;have ia:w3.cell? ⟨Bn,0,none⟩=some (.string s):=(World.cell?_of_block (a:=⟨Bn,0,none⟩) dG.2.1).trans ((((zam w2 (.cells #[.int .i64 k,.string ⟨t.toArray⟩,.int .i64 (a:Int)] 135)).cell (p:=⟨Bn,0,none⟩) (zeK jh))).trans jh);have ym:n₀<=w3.heap.size:=by have:=dG.1.size;simp at this;omega
   have wO:=zab (oM.o.trans dG.1);have iu:=zab gP;clear wP dG gP hy HR wR oM jh bF;by_cases dF:k=0
   ·have rK:Hid (zay s=pre++[⟨k,t,a⟩]):=zab (by have e:=gl.o;rw[if_pos (by omega)]at e;exact e);have xC:((k:Int) == 0)=true:=by simp;omega
    have HK:=zab dF;clear dF
    gi_wp2
    refine bodyPost_ret (results_none rfl _ _ _) rfl ?_;exact ⟨⟨_,rfl⟩,.inl ⟨_,rK.o.symm,iu.o⟩⟩
   ·have xC:((k:Int) == 0)=false:=by simp;omega
    by_cases cK:k=1
    ·have rK:Hid (zay s=pre++[⟨k,t,a⟩]):=zab (by have e:=gl.o;rw[if_pos (by omega)]at e;exact e);have xD:((k:Int) == 1)=true:=by simp;omega
     clear dF cK
     gi_wp2
     refine bodyPost_ret (results_none rfl _ _ _) rfl ?_;exact ⟨⟨_,rfl⟩,.inl ⟨_,rK.o.symm,iu.o⟩⟩
    ·have xD:((k:Int) == 1)=false:=by simp;omega
     have rK:Hid (zay s=(pre++[⟨k,t,a⟩])++Th.zdN f (s.data.toList.drop (a+t.length)) (a+t.length)):=zab (by have e:=gl.o;rw[if_neg (by omega)]at e;rw[e];simp);have sN:=bp.o (by omega);clear dF cK
     gi_wp2
     go_roundw
     case rel=>
      cases f with
      |zero=>omega
      |succ f=>
       refine ⟨pre++[⟨k,t,a⟩],a+t.length,f,?_,by omega,by omega,rK,ia,ym,wO,iu⟩
       first|rfl|(congr 1;simp;omega)|go_num
     case measure=>
      simp[intOf];omega
  ·have Ci:=zab rD;clear rD hy HR wR oM jh
   gi_wp2
   refine bodyPost_ret (results_none rfl _ _ _) rfl ?_;refine ⟨⟨_,rfl⟩,.inr ⟨pre++[⟨k,t,a⟩],?_,Ci.o⟩⟩;rw[gl.o];exact ⟨_,by simp;rfl⟩
theorem zxt:(prog.info? 135).map (fun i=>(i.zero,i.size,i.bytes))=some (some (.agg #[.int .i64 0,.string ⟨#[]⟩,.int .i64 0]),3,32):=by kernel_rfl
variable {P:Program}
theorem zq9(w:World)(base:Nat)(t ty e:TypeId)(i:TypeInfo)(z:Value)(bytes:Nat)(ht:P.underlying t=some (.slice e))(hi:P.info? e=some i)(hz:i.zero=some z)(iO:i.size=3)(uG:i.bytes=bytes)(yq:z.cells.size=3)(v:Value)(n:Nat)(xs:List Value)(ai:w.ownsRow base e 3 v n xs)(ck:v=.slice none 0 0\/1<=n)(a:Addr)(c:Nat)(news:List Value)(hl:news.length=1*3)(jK:∀ j u,news[j]?=some u->w.cell? (a.add j)=some u)(h1:∀ u∈news,u.oneCell'=true)(uC:n+1<=maxLen)(gQ:(n+1)*bytes<=140737488355328)(kO:base<=w.heap.size):
  ∃ v' w',(Builtin.append_ #[t,t] ty #[v,.slice (some a) 1 c]).run P w=.ok v' w'/\w'.ownsRow base e 3 v' (n+1) (xs++news)/\w.grownBy w' v.ownBlock/\(v'=.slice none 0 0↔v=.slice none 0 0/\1=0) /\
   (∀ (b:Nat) (cs:Array Value),w.heap[b]?=some (.cells cs e (0,0))->cs.size=3->w'.heap[b]?=some (.cells cs e (0,0))):=by
 obtain ⟨v',w',hr,h2,h3,h4⟩:=run_append_own (P:=P) w base t ty e i z 3 bytes ht hi hz iO uG yq (by omega) v n xs ai a 1 c news hl jK h1 uC gQ kO;refine ⟨v',w',hr,h2,h3,h4,fun b cs hb aE=>?_⟩;have aj:b<w.heap.size:=(zyY.1 hb).1;by_cases hv:some b=v.ownBlock
 ·rcases ai.2 with ⟨rfl,_⟩|⟨g,cap,cur,rfl,rR,hg,o6,lY,fK,AQ⟩
  ·simp[Value.ownBlock]at hv
  ·simp only[Value.ownBlock,zyP]at hv;subst hv;rw[hg]at hb;simp only[zyP,Obj.cells.injEq]at hb;have kS:cap=1:=by rw[<-hb.1,fK]at aE;omega
   rcases ck with ck|ck
   ·cases ck
   ·have holds:∀ j u,xs[j]?=some u->w.cell? ((⟨b,0,none⟩:Addr).add j)=some u:=ai.cells (g:=b) rfl;have cg:=run_append_grow (P:=P) w t ty e i z ht hi hz ⟨b,0,none⟩ n cap xs (by rw[iO];exact ai.1) holds a 1 c news (by rw[iO];exact hl) jK (by omega) (by unfold maxLen at uC;omega) (growslice_fits (by omega) (by rw[uG];exact gQ));rw[cg]at hr;simp only[Result.ok.injEq]at hr;rw[<-hr.2];exact (Below.heap_alloc w.drew _ b aj).trans (by rw[<-hb.1];exact hg)
 ·rw[h3.block b aj hv];exact hb
theorem zgH{F:Fence}{nF:Nat}(w:World){ops:Array Oper}{rest:List Oper}{o:Oper}{a:Act}{Q:Exit->Act->World->Prop}(oY:o.guard=none)(s x:Operand)(t:TypeId)(ho:o.op=.call { callee:=.builtin .append,args:=#[s,x],argTypes:=#[t,t] })(base:Nat)(e:TypeId)(i:TypeInfo)(z:Value)(bytes:Nat)(ht:P.underlying t=some (.slice e))(hi:P.info? e=some i)(hz:i.zero=some z)(iO:i.size=3)(uG:i.bytes=bytes)(yq:z.cells.size=3)(v:Value)(n:Nat)(xs:List Value)(hs:a.eval s=v)(ai:w.ownsRow base e 3 v n xs)(ck:v=.slice none 0 0\/1<=n)(ad:Addr)(c:Nat)(news:List Value)(hx:a.eval x=.slice (some ad) 1 c)(hl:news.length=1*3)(jK:∀ j u,news[j]?=some u->w.cell? (ad.add j)=some u)(h1:∀ u∈news,u.oneCell'=true)(uC:n+1<=maxLen)(gQ:(n+1)*bytes<=140737488355328)(kO:base<=w.heap.size)(h:∀ v' w',w'.ownsRow base e 3 v' (n+1) (xs++news)->w.grownBy w' v.ownBlock ->
   (∀ (b:Nat) (cs:Array Value),w.heap[b]?=some (.cells cs e (0,0))->cs.size=3->w'.heap[b]?=some (.cells cs e (0,0)))->wpListIn F nF P ops Q rest (a.put o.dst v') w'):
  wpListIn F nF P ops Q (o::rest) a w:=by
 refine wpListIn_plain oY fun K hK=>?_
 obtain ⟨v',w',hr,h2,h3,h4,h5⟩:=zq9 (P:=P) w base t o.type e i z bytes ht hi hz iO uG yq v n xs ai ck ad c news hl jK h1 uC gQ kO;unfold Oper.wpIn;refine ⟨by simp[Oper.about,ho,resolve,Target.leads,Sem.run_pure],?_⟩;rw[Oper.semAt_plain F _ _ (by rw[ho];intro c eV;cases eV)];simp[execOp,ho,resolve,invoke,builtin,hs,hx,hr,Result.andThen];exact hK _ _ (h v' w' h2 h3 h5)
variable {n₀ Bn:Nat}
theorem kp3_t{A B C:World}(h:Kp3 n₀ Bn A B)(k:Kp3 n₀ Bn B C):Kp3 n₀ Bn A C:=⟨h.1.trans k.1,k.2.1.trans h.2.1,fun b cs hb hc=>k.2.2 b cs (h.2.2 b cs hb hc) hc⟩
variable {w:World}
theorem kp3_b(hn:n₀<=w.heap.size)(hB:Bn<w.heap.size)(W:World)(l:Nat)(o o':Obj)(hl:w.heap.size<=l)(h:W.heap[l]?=some o)(hc:o.isCells=false)(hw:o.isWalk=false):Kp3 n₀ Bn W (W.putObj l o'):=by
 refine ⟨belowK_b hn W l o o' hl h hc hw,World.putObj_heap_other (by omega),fun b cs hb _=>?_⟩;have aH:b≠l:=by
  intro e;subst e;rw[h]at hb;cases hb;cases hc
 rw[World.putObj_heap_other aH];exact hb
theorem ztl(W:World)(hn:n₀<=W.heap.size)(hB:Bn<W.heap.size)(o:Obj):Kp3 n₀ Bn W (W.alloc o):=
 ⟨(Below.refl n₀ W).alloc hn o,Below.heap_alloc _ _ _ hB,fun b cs hb _=>by rw[Below.heap_alloc _ _ _ (zyY.1 hb).1];exact hb⟩
variable {row:Option Nat}
theorem Blk.own(Bx:Nat)(vs:List Value)(t:TypeId){X Y:World}(h:Blk X Bx vs t)(hg:X.grownBy Y row)(hr:∀ r,row=some r->∃ o:Obj,X.heap[r]?=some o/\o.isCells=false):Blk Y Bx vs t:=by
 refine h.grown hg (fun e=>?_);obtain ⟨o,ho,hc⟩:=hr Bx e.symm;unfold Blk at h;rw[h]at ho;cases ho;cases hc
theorem zk3(l:List Th.Tok)(t:Th.Tok):za2 (l++[t])=za2 l++zb6 t:=by simp[za2]
theorem zxX(t:Th.Tok):∀ u∈zb6 t,u.oneCell'=true:=by
 intro u hu;simp only[zb6,zzo,zzZ,or_false]at hu;rcases hu with rfl|rfl|rfl <;> rfl
theorem zuG(n:Nat)(s:ByteArray)(w:World):
  CallsIn Fence.wide n prog 114 #[.string s] w fun e w'=>e=.returned (.func (.func 187) #[] #[.pointer (some ⟨w.heap.size,0,none⟩)])/\w'=w.alloc (.cells #[.string s] 9):=by
 refine callsIn_of_wp func114 rfl trivial ?_ rfl;simp only[ntmps114,zzr,zy8,zzm,Nat.reduceAdd,Nat.reduceSub,zzB,zzC,zzH,zzE,zzb,zy7]
 gi_wp2
 go_ret
 exact ⟨rfl,rfl⟩
theorem zfE:∀ (f:Nat) (t:List UInt8) (p:Nat),(Th.zdN f t p).length<=f+1
 |0,_,_=>by simp[Th.zdN]
 |f+1,t,p=>by
  rw[zoN];simp only[zy8];split
  ·simp
  ·have:=zfE f ((t.drop (t.takeWhile Th.zda).length).drop (Th.first (t.drop (t.takeWhile Th.zda).length)).2.length) (p+(t.takeWhile Th.zda).length+(Th.first (t.drop (t.takeWhile Th.zda).length)).2.length);omega
theorem zrh(s:ByteArray)(w:World)(hs:s.size<=600):
  CallsIn Fence.wide 5 prog 66 #[.string s] w fun e w'=>∃ v,e=.returned v/\w'.ownsRow w.heap.size 135 3 v (zay s).length (za2 (zay s))/\Below w.heap.size w w':=by
 have Gt:(zay s).length<=602:=by have:=zfE (s.size+1) s.data.toList 0;unfold zay;omega
 obtain ⟨i0,hi,bq,aP,bF⟩:=info_parts zxt;have HI:=zab hi;clear hi;have HZ:=zab (And.intro bq (And.intro aP bF));clear bq aP bF;refine callsIn_of_wp_marks func66 rfl trivial ?_ rfl;simp only[ntmps66,zzr,zy8,zzm,Nat.reduceAdd,Nat.reduceSub,zzB,zzC,zzH,zzE,zzb,zy7]
 gi_wp2
 refine ⟨trivial,?_⟩;refine (zuG 4 s _).mono ?_;rintro e w1 ⟨rfl,rfl⟩
 gi_wp2
 have bO:=Boxed.new w 129 (.slice none 0 0);have bN:=Boxed.new (w.alloc (.cells #[.slice none 0 0] 129)) 9 (.string s);simp only[World.size_alloc]at bN ⊢;have nH:Below w.heap.size w ((w.alloc (.cells #[.slice none 0 0] 129)).alloc (.cells #[.string s] 9)):=((Below.refl _ w).alloc (zyN _) _).alloc (by simp) _;have zq:=bO.alloc (.cells #[.string s] 9);have cT:((w.alloc (.cells #[.slice none 0 0] 129)).alloc (.cells #[.string s] 9)).heap.size=w.heap.size+2:=by simp
 obtain ⟨W0,rL⟩:∃ W0,(w.alloc (.cells #[.slice none 0 0] 129)).alloc (.cells #[.string s] 9)=W0:=⟨_,rfl⟩;rw[rL]at zq bN nH cT ⊢;clear rL bO;refine wpIn_rangeFunc_ownH rfl (by omega) (gf:=187) (lb:=#[.pointer (some ⟨w.heap.size+1,0,none⟩)]) rfl trivial (enters_of func187 (by kernel_rfl) rfl)
  (encs:=fun x:Th.Tok=>#[zoK x]) (Kp:=Kp3 w.heap.size (w.heap.size+1)) (S:=fun ys=>ys=zay s) (Sp:=fun pre=>pre <+: zay s) (N:=(zay s).length) (w0:=W0)
  (fun l J Jx W hW hJ wS hY h0=>zsc _ (by omega) l (w.heap.size+1) w.heap.size s hs J Jx hY W (by have:=hW.size;omega) hJ ((hW.cell (p:=⟨w.heap.size+1,0,none⟩) (by simp;omega)).trans bN.cell) h0)
  kp3_t (kp3_b (by omega) (by omega)) (Below.refl _ _) (fun _=>rfl)
  (fun pre W=>(∃ v,Boxed W w.heap.size 129 v/\W.ownsRow w.heap.size 135 3 v pre.length (za2 pre)/\(v=.slice none 0 0↔pre=[]))/\(Below w.heap.size w W/\Boxed W (w.heap.size+1) 9 (.string s)))
  (fun _ _ _=>False)
  (OwnFrom.and (Own.from (holdsRow_own w.heap.size w.heap.size 129 135 3 (fun pre:List Th.Tok=>pre.length) (fun pre=>za2 pre) (fun pre v=>v=.slice none 0 0↔pre=[])) _) (OwnFrom.and (ownFrom_below (zyN _) (by omega)) (Own.from (boxed_own _ _ _) _)))
  (fun _ _ _ _ _ hs _ _=>hs)
  ⟨⟨_,zq,World.ownsRow_nil _ _ _ _,by simp⟩,nH,bN⟩
  (fun x a' W=>∃ Bx,w.heap.size+1<Bx/\Blk W Bx (zb6 x) 135/\a'={ tmps:=#[.string s,undef,.slice none 0 0,.pointer (some ⟨w.heap.size,0,none⟩),.pointer (some ⟨Bx,0,none⟩),.string s,.func (.func 187) #[] #[.pointer (some ⟨w.heap.size+1,0,none⟩)],zoK x,undef,undef,undef,undef,undef],defers:=[] })
  (fun x a' _ X Y row hs hg hr=>by obtain ⟨Bx,h1,h2,h3⟩:=hs;exact ⟨Bx,h1,h2.own _ _ _ hg (fun r e=>(hr r e).2),h3⟩)
  ?assign ?body ?done ?stop
 case assign=>
  rintro l pre x W K ⟨⟨v,hv,af,ck⟩,⟨cU,eG⟩⟩ hK;unfold zoK at *
  gi_wp2
  exact hK _ _ ((KeepsOthers.alloc _ _).from _) (ztl W cU.size eG.lt _) ⟨⟨v,hv.alloc _,af.alloc _,ck⟩,cU.alloc cU.size _,eG.alloc _⟩ ⟨W.heap.size,eG.lt,Blk.new W _ _,rfl⟩
 case body=>
  rintro l pre x a' W hl ⟨r,hr⟩ ⟨⟨v,hv,af,ck⟩,⟨cU,eG⟩⟩ ⟨Bx,Gp,bX,rfl⟩ aj;have hc:=hv.cell;have x0:=bX.cell 0;have x1:=bX.cell 1;have x2:=bX.cell 2;simp[zb6]at x0 x1 x2;have gK:pre.length<=602:=by omega
  have cR:v=.slice none 0 0\/1<=pre.length:=by
   by_cases he:pre=[]
   ·exact .inl (ck.2 he)
   ·exact .inr (zzA.2 he)
  gi_wp2_with (gi_at_builtin;refine zgH _ rfl _ _ 129 rfl w.heap.size 135 i0 _ 32 underlying129 HI.o HZ.o.1 HZ.o.2.1 HZ.o.2.2 rfl _ pre.length (za2 pre) rfl (af.alloc _) cR ⟨W.heap.size,0,none⟩ 1 (zb6 x) rfl rfl (World.news_of_block (cs:=#[.int .i64 x.k,.string ⟨x.s.toArray⟩,.int .i64 x.at_]) (t:=135) (fr:=(0,0)) (heap_alloc_new W _)) (zxX x) (by unfold maxLen;omega) (by omega) (by have:=cU.size;simp;omega) ?_;intro v' w1 dR ah h5;obtain ⟨g',dU,rfl⟩:=ownsRow_succ dR;obtain ⟨qg,Fl,cg,aG,aw⟩:=hv.appended (by decide) af cU.size (zyN _) dR ah;have bH:=qg.cell;have l8:=qg.frozen)
  refine ⟨aG.from _,⟨aw,?_,?_⟩,⟨_,Fl,?_,?_⟩,cU.trans aw,?_⟩
  ·rw[Below.heap_setCell _ _ _ _ (by simp),ah.block _ (by simp;have:=eG.lt;omega) (eG.not_row (by decide) af),Below.heap_alloc _ _ _ eG.lt]
  ·intro b cs hb aE;have aH:b≠w.heap.size:=by
    intro e;subst e;rw[show W.heap[w.heap.size]?=_ from hv]at hb;cases hb
   rw[Below.heap_setCell _ _ _ _ aH];exact h5 b cs (by rw[Below.heap_alloc _ _ _ (zyY.1 hb).1];exact hb) aE
  ·rw[zk3,zyT];exact cg
  ·simp
  ·exact ((eG.alloc _).kept ah (eG.not_row (by decide) af)).other (by omega) _
 case done=>
  rintro D ys W hD rfl ⟨⟨v,hv,af,ck⟩,⟨hB,_⟩⟩ hK;have hc:=hv.cell
  gi_wp2
  refine ⟨by simp,.inl ⟨_,_,rfl,run_takeDeferred hK,?_⟩⟩;exact ⟨_,results_tmp rfl _ _ _,v,rfl,ownsRow_putObj af _ hK rfl,hB.trans (belowK_b (w:=w) (zyN _) W D _ _ (by omega) hK rfl rfl)⟩
 case stop=>
  rintro D c pre W _ _ h _;exact h.elim
theorem zri:znl:=fun s w hs=>callsIn_wide.1 (zrh s w hs)
end Go.Proofs.YtgahgkddaljmkaaGreatDoor
namespace Go.Proofs.YtgahgkddaljmkaaGreatDoor
open Tryz
open Go.RowKit
def strCells (l:List (List UInt8)):List Value:=l.map fun s=>.string ⟨s.toArray⟩
def after (o:Option Nat) (l:List Nat):Option Nat:=match o with|some p=>some p|none=>l.head?
theorem zbZ(o:Option Nat):after o []=o:=by cases o <;> rfl
theorem zaQ(o:Option Nat)(a b:List Nat):after o (a++b)=after (after o a) b:=by
 cases o with
 |some p=>rfl
 |none=>cases a <;> rfl
def Chk (w:World) (c:Nat) (o:Option Nat):Prop:=Blk w c [.bool o.isSome,.int .i64 (o.getD 0)] 140
variable {w w':World}{c:Nat}{o row:Option Nat}
theorem Chk.gb(h:Chk w c o)(hg:w.grownBy w' row)(hr:some c≠row):Chk w' c o:=Blk.grown h hg hr
theorem Chk.below{w w':World}{c:Nat}{o:Option Nat}(h:Chk w c o)(hb:Below w.heap.size w w'):Chk w' c o:=Blk.below h hb (Blk.lt h)
theorem Chk.lt{w:World}{c:Nat}{o:Option Nat}(h:Chk w c o):c<w.heap.size:=Blk.lt h
theorem znt(h:Chk w c o)(s:ByteArray)(p:Nat):
  Calls prog 120 #[.pointer (some ⟨c,0,none⟩),.agg #[.string s,.int .i64 p]] w fun e w'=>e=.returned (.tuple #[])/\Chk w' c (after o [p])/\w.grownBy w' (some c):=by
 have hl:=h.lt;have c0:=Blk.cell h 0;have c1:=Blk.cell h 1;have f0:=Blk.frozen h 0;have f1:=Blk.frozen h 1;have H:=zab h;simp at c0 c1;clear h;cases o with
 |some q=>
  go_enter func120,ntmps120
  go_wp2_with fail
  go_end0
  exact ⟨rfl,Blk.alloc H.o _,zag _ _ _⟩
 |none=>
  go_enter func120,ntmps120
  go_wp2_with fail
  go_end0
  refine ⟨rfl,?_,?_⟩
  ·exact ((Blk.set H.o 0 (.bool true)).set 1 (.int .i64 p)).alloc _
  ·exact zad (zad (zaT _ _ _ _) (zaT _ _ _ _)) (zag _ _ _)
variable {base g n cap:Nat}{e:TypeId}{xs:List Value}
theorem zg6{i:Nat}(h:w.ownsRow base e 1 (.slice (some ⟨g,0,none⟩) n cap) n xs)(hi:i<=n):w.ownsRow base e 1 (.slice (some ⟨g,0,none⟩) i cap) i (xs.take i):=by
 obtain ⟨h1,h2⟩:=h;refine ⟨by simp at h1 ⊢;omega,?_⟩;rcases h2 with ⟨h2,_⟩|⟨g',dU,cur,hv,hg,hh,hn,hm,hs,ht⟩
 ·cases h2
 ·cases hv;refine .inr ⟨g,cap,cur,rfl,hg,hh,by omega,hm,hs,?_⟩;rw[<-ht,zAq];congr 1;omega
theorem znK(l:List (List UInt8))(x:ByteArray):Lib.containsS (l.map fun s=>(⟨s.toArray⟩:ByteArray)) x=l.contains x.data.toList:=by
 rw[zAa,Lib.containsS_iff];simp only[zz1,List.contains_iff_mem];constructor
 ·rintro ⟨s,hs,rfl⟩;simpa using hs
 ·intro h;exact ⟨x.data.toList,h,by cases x;simp⟩
variable {v:Value}{l:List (List UInt8)}
theorem zcJ(h:w.ownsRow base 9 1 v l.length (strCells l))(hl:l.length<=1000000)(x:ByteArray):
  Calls prog 119 #[v,.string x] w fun e w'=>e=.returned (.bool (l.contains x.data.toList))/\w'=w:=by
 have h0:=h;rcases h.2 with ⟨rfl,hn⟩|⟨g,cap,cur,rfl,hg,hh,hn,hm,hs,ht⟩
 ·have:l=[]:=zzn.1 hn;subst this;exact (Tryz.slices_Contains_string_empty none 0 x w).mono fun e w' hw=>by simpa using hw
 ·refine (Tryz.slices_Contains_string g 0 l.length cap (l.map fun s=>(⟨s.toArray⟩:ByteArray)) x w (by simp) (by omega) ?_).mono ?_
  ·intro j hj;simp at hj;have:=h0.cellAt j (by omega);rw[zzG,this];simp[strCells,hj]
  ·rintro e w' ⟨rfl,rfl⟩;rw[zy9 (by simp),znK];exact ⟨rfl,rfl⟩
theorem zgW(h:Chk w c o)(s:ByteArray)(p:Nat)(hr:w.ownsRow base 9 1 v l.length (strCells l))(hl:l.length<=1000000):
  Calls prog 69 #[.pointer (some ⟨c,0,none⟩),.agg #[.string s,.int .i64 p],v] w fun e w'=>e=.returned (.tuple #[])/\Chk w' c (after o (if l.contains s.data.toList then [p] else []))/\w.grownBy w' (some c):=by
 have H:=zab h;have da:=h.lt;have af:=hr.alloc (.cells #[.string s,.int .i64 p] 88);have gV:v=.slice none 0 0\/∃ g cap,v=.slice (some ⟨g,0,none⟩) l.length cap:=zan (Row.zaE hr);clear h hr;cases hc:l.contains s.data.toList
 ·have HC:=zab hc;clear hc;rcases gV with rfl|⟨g,cap,rfl⟩
  all_goals
   go_enter func69,ntmps69
   go_wp2_with fail
   refine (zcJ af hl s).mono ?_;rintro e w1 ⟨rfl,rfl⟩;rw[HC.o];go_wp2_with fail
   go_end0
   refine ⟨rfl,?_,zag _ _ _⟩;simp only[zbZ];exact Blk.alloc H.o _
 ·have HC:=zab hc;clear hc;rcases gV with rfl|⟨g,cap,rfl⟩
  all_goals
   go_enter func69,ntmps69
   go_wp2_with fail
   refine (zcJ af hl s).mono ?_;rintro e w1 ⟨rfl,rfl⟩;rw[HC.o];go_wp2_with fail
   refine (znt (Blk.alloc H.o _) s p).mono ?_;rintro e w2 ⟨rfl,h2,aF⟩;have H2:=zab (And.intro h2 (zad (zag _ _ _) aF));clear h2 aF;go_wp2_with fail
   go_end0
   exact ⟨rfl,H2.o.1,H2.o.2⟩
theorem zdH:∀ (l:List Th.Tok) (i:Nat) (t:Th.Tok),l[i]?=some t->(zaj l)[i*2]?=some (.string ⟨t.s.toArray⟩)/\(zaj l)[i*2+1]?=some (.int .i64 t.at_)
 |[],i,t,h=>by simp at h
 |x::l,0,t,h=>by
  simp only[zzl,zyP]at h;subst h;exact ⟨rfl,rfl⟩
 |x::l,i+1,t,h=>by
  have ih:=zdH l i t (by simpa using h);have e:∀ c,(zaj (x::l))[(i+1)*2+c]?=(zaj l)[i*2+c]?:=by
   intro c;rw[show zaj (x::l)=zbP x++zaj l from rfl,zy3 (by simp[zbP];omega)];congr 1;simp[zbP];omega
  refine ⟨?_,?_⟩
  ·have:=e 0;simp only[zzO]at this;rw[this];exact ih.1
  ·rw[e 1];exact ih.2
theorem zbA:∀ (l:List Th.Tok) (vs:List Value) (i:Nat) (t:Th.Tok) (v:Value),l[i]?=some t->vs[i]?=some v->(zaM l vs)[i*3]?=some (.string ⟨t.s.toArray⟩)/\(zaM l vs)[i*3+1]?=some (.int .i64 t.at_)/\(zaM l vs)[i*3+2]?=some v
 |[],_,i,t,v,h,_=>by simp at h
 |_::_,[],i,t,v,_,h=>by simp at h
 |x::l,y::vs,0,t,v,h,h2=>by
  simp only[zzl,zyP]at h h2;subst h h2;exact ⟨rfl,rfl,rfl⟩
 |x::l,y::vs,i+1,t,v,h,h2=>by
  have ih:=zbA l vs i t v (by simpa using h) (by simpa using h2);have e:∀ c,(zaM (x::l) (y::vs))[(i+1)*3+c]?=(zaM l vs)[i*3+c]?:=by
   intro c;rw[zaM,zy3 (by simp;omega)];congr 1;simp;omega
  refine ⟨?_,?_,?_⟩
  ·have:=e 0;simp only[zzO]at this;rw[this];exact ih.1
  ·rw[e 1];exact ih.2.1
  ·rw[e 2];exact ih.2.2
theorem zdx:∀ (l:List (Nat × List Th.Tok)) (ns vs:List Value) (i:Nat) (a:Nat × List Th.Tok) (n v:Value),l[i]?=some a->ns[i]?=some n->vs[i]?=some v->(za7 l ns vs)[i*3]?=some (.int .i64 a.1)/\(za7 l ns vs)[i*3+1]?=some n/\(za7 l ns vs)[i*3+2]?=some v
 |[],_,_,i,_,_,_,h,_,_=>by simp at h
 |_::_,[],_,i,_,_,_,_,h,_=>by simp at h
 |_::_,_::_,[],i,_,_,_,_,_,h=>by simp at h
 |x::l,m::ns,y::vs,0,a,n,v,h,h2,h3=>by
  simp only[zzl,zyP]at h h2 h3;subst h h2 h3;exact ⟨rfl,rfl,rfl⟩
 |x::l,m::ns,y::vs,i+1,a,n,v,h,h2,h3=>by
  have ih:=zdx l ns vs i a n v (by simpa using h) (by simpa using h2) (by simpa using h3);have e:∀ c,(za7 (x::l) (m::ns) (y::vs))[(i+1)*3+c]?=(za7 l ns vs)[i*3+c]?:=by
   intro c;rw[za7,zy3 (by simp;omega)];congr 1;simp;omega
  refine ⟨?_,?_,?_⟩
  ·have:=e 0;simp only[zzO]at this;rw[this];exact ih.1
  ·rw[e 1];exact ih.2.1
  ·rw[e 2];exact ih.2.2
theorem zcm:∀ (l:List Th.zbr) (ns vs:List Value) (i:Nat) (a:Th.zbr) (n v:Value),l[i]?=some a->ns[i]?=some n->vs[i]?=some v->(zaR l ns vs)[i*4]?=some (.string ⟨a.name.s.toArray⟩)/\(zaR l ns vs)[i*4+1]?=some (.int .i64 a.name.at_)/\(zaR l ns vs)[i*4+2]?=some n/\(zaR l ns vs)[i*4+3]?=some v
 |[],_,_,i,_,_,_,h,_,_=>by simp at h
 |_::_,[],_,i,_,_,_,_,h,_=>by simp at h
 |_::_,_::_,[],i,_,_,_,_,_,h=>by simp at h
 |x::l,m::ns,y::vs,0,a,n,v,h,h2,h3=>by
  simp only[zzl,zyP]at h h2 h3;subst h h2 h3;exact ⟨rfl,rfl,rfl,rfl⟩
 |x::l,m::ns,y::vs,i+1,a,n,v,h,h2,h3=>by
  have ih:=zcm l ns vs i a n v (by simpa using h) (by simpa using h2) (by simpa using h3);have e:∀ c,(zaR (x::l) (m::ns) (y::vs))[(i+1)*4+c]?=(zaR l ns vs)[i*4+c]?:=by
   intro c;rw[zaR,zy3 (by simp;omega)];congr 1;simp;omega
  refine ⟨?_,?_,?_,?_⟩
  ·have:=e 0;simp only[zzO]at this;rw[this];exact ih.1
  ·rw[e 1];exact ih.2.1
  ·rw[e 2];exact ih.2.2.1
  ·rw[e 3];exact ih.2.2.2
theorem zeR:(prog.info? 9).map (fun i=>(i.zero,i.size,i.bytes))=some (some (.string ⟨#[]⟩),1,16):=by kernel_rfl
theorem zen(l:List (List UInt8))(s:List UInt8):strCells (l++[s])=strCells l++[.string ⟨s.toArray⟩]:=by simp[strCells]
theorem zaJ{α:Type}{l:List α}{k:Nat}{t:α}(h:l[k]?=some t):l.take (k+1)=l.take k++[t]:=by
 rw[zAn,h];rfl
variable {S:Nat->Prop}
theorem ze4{nv:Value}{l:List Th.Tok}(hr:Row S w 88 2 nv l.length (zaj l))(hl:l.length<=1000000):
  Calls prog 52 #[nv] w fun e w'=>∃ v,e=.returned v/\w'.ownsRow w.heap.size 9 1 v l.length (strCells (Th.texts l))/\Below w.heap.size w w':=by
 obtain ⟨i0,hi,bq,aP,bF⟩:=info_parts zeR;have HI:=zab hi;clear hi;have HZ:=zab (And.intro bq (And.intro aP bF));clear bq aP bF;have HR:=zab hr;rcases zan hr with hv|⟨g,cap,hv⟩
 ·have da:l=[]:=by
   rcases hr.1.2 with ⟨_,h0⟩|⟨_,_,_,h0,_⟩
   ·exact zzn.1 h0
   ·rw[hv]at h0;cases h0
  subst hv da;clear hr HR;go_enter func52,ntmps52
  go_wp2_with fail
  refine wp_loop_rounds 1 ?_;rw[rounds_succ];go_wp2_with fail
  go_ret
  exact ⟨_,rfl,World.ownsRow_nil _ _ _ _,Below.refl _ _⟩
 ·subst hv;clear hr;go_enter func52,ntmps52
  go_wp2_with fail
  go_loopg [3,8] l.length (fun gk v i wr=>∃ k:Nat,i=.int .i64 k/\k<=l.length/\l.length-k<=gk/\wr.ownsRow w.heap.size 9 1 v k (strCells (Th.texts (l.take k)))/\Below w.heap.size w wr)
  case atStart=>exact ⟨0,rfl,zy5 _,by omega,World.ownsRow_nil _ _ _ _,Below.refl _ _⟩
  case round=>
   obtain ⟨k,rfl,hk,jm,ai,hb⟩:=hrel;have Ho:=zab ai;have Hb:=zab hb;have cT:=hb.size;by_cases aj:k<l.length
   ·obtain ⟨t,ht⟩:∃ t,l[k]?=some t:=⟨l[k],zyM aj⟩;have hc:=zdH l k t ht;have af:=HR.o.1.kept (zaf none hb) (zfy _);have c0:=(af.cellAt (k*2) (by omega)).trans hc.1;have c1:=(af.cellAt (k*2+1) (by omega)).trans hc.2;have hg:=(af.lt g rfl).2;have Ht:=zab (zaJ ht);have bB:=(ai.alloc (.cells #[.string ⟨t.s.toArray⟩,.int .i64 t.at_] 88)).alloc (.cells #[.string ⟨t.s.toArray⟩] 9);clear ai hb ht hc af;go_wp2_with (at_builtin;refine wpList_append_own _ rfl _ _ 38 rfl w.heap.size 9 i0 _ 1 16 underlying38 HI.o HZ.o.1 HZ.o.2.1 HZ.o.2.2 rfl (by decide) _ _ _ rfl bB ⟨wr.heap.size+1,0,none⟩ 1 1 [.string ⟨t.s.toArray⟩] rfl rfl (World.news_of_block (cs:=#[.string ⟨t.s.toArray⟩]) (t:=9) (fr:=(0,0)) (by have:=heap_alloc_new (wr.alloc (.cells #[.string ⟨t.s.toArray⟩,.int .i64 t.at_] 88)) (.cells #[.string ⟨t.s.toArray⟩] 9);simpa using this)) (by simp[Value.oneCell']) (by unfold maxLen;omega) (by omega) (by simp;omega) ?_;intro v' w3 dR ah _)
    go_roundg (l.length-(k+1))
    case measure=>omega
    case rel=>
     refine ⟨k+1,by go_num,by omega,zyN _,?_,zbk (zjh (zad (zad (zaf none Hb.o) (zag _ _ _)) (zag _ _ _)) bB ah)⟩;rw[Ht.o,show Th.texts (l.take k++[t])=Th.texts (l.take k)++[t.s] from by simp[Th.texts],zen];exact dR
   ·have aG:k=l.length:=by omega
    have Hk:=zab aG;clear ai hb aG;go_wp2_with fail
    go_ret
    refine ⟨_,rfl,?_,Hb.o⟩;have ho:=Ho.o;rw[Hk.o,zy9 (zyN _)]at ho;exact ho
theorem ztU :∀ {n:Nat} {v:Value} {e:Th.Ex},Rep S w n v e->One v
 |0,_,_,h=>h.elim
 |n+1,v,e,h=>by
  rcases h with ⟨_,h⟩|⟨_,h⟩|⟨_,h⟩|⟨_,_,_,_,_,h,_⟩|⟨_,_,_,_,_,_,h,_⟩|⟨_,_,_,_,_,_,h,_⟩|⟨_,_,_,_,_,_,_,h,_⟩|⟨_,_,_,_,_,_,_,_,h,_⟩
  all_goals exact ⟨.inr ⟨_,_,h⟩⟩
theorem zdS{pv:Value}{l:List Th.zbr}{nvs bvs:List Value}(hr:Row S w 93 4 pv l.length (zaR l nvs bvs))(h1:nvs.length=l.length)(h2:bvs.length=l.length)(ho:∀ (i:Nat) (nv bv:Value),nvs[i]?=some nv->bvs[i]?=some bv->nv.oneCell'=true/\bv.oneCell'=true)(hl:l.length<=1000000):
  Calls prog 49 #[pv] w fun e w'=>∃ v,e=.returned v/\w'.ownsRow w.heap.size 9 1 v l.length (strCells (Th.zaq l))/\Below w.heap.size w w':=by
 obtain ⟨i0,hi,bq,aP,bF⟩:=info_parts zeR;have HI:=zab hi;clear hi;have HZ:=zab (And.intro bq (And.intro aP bF));clear bq aP bF;have HR:=zab hr;rcases zan hr with hv|⟨g,cap,hv⟩
 ·have da:l=[]:=by
   rcases hr.1.2 with ⟨_,h0⟩|⟨_,_,_,h0,_⟩
   ·exact zzn.1 h0
   ·rw[hv]at h0;cases h0
  subst hv da;clear hr HR ho h1 h2;go_enter func49,ntmps49
  go_wp2_with fail
  refine wp_loop_rounds 1 ?_;rw[rounds_succ];go_wp2_with fail
  go_ret
  exact ⟨_,rfl,World.ownsRow_nil _ _ _ _,Below.refl _ _⟩
 ·subst hv;have HO:=zab ho;have H1:=zab h1;have H2:=zab h2;clear hr ho h1 h2;go_enter func49,ntmps49
  go_wp2_with fail
  go_loopg [3,8] l.length (fun gk v i wr=>∃ k:Nat,i=.int .i64 k/\k<=l.length/\l.length-k<=gk/\wr.ownsRow w.heap.size 9 1 v k (strCells (Th.zaq (l.take k)))/\Below w.heap.size w wr)
  case atStart=>exact ⟨0,rfl,zy5 _,by omega,World.ownsRow_nil _ _ _ _,Below.refl _ _⟩
  case round=>
   obtain ⟨k,rfl,hk,jm,ai,hb⟩:=hrel;have Ho:=zab ai;have Hb:=zab hb;have cT:=hb.size;by_cases aj:k<l.length
   ·obtain ⟨t,ht⟩:∃ t,l[k]?=some t:=⟨l[k],zyM aj⟩;obtain ⟨nv,ay⟩:∃ nv,nvs[k]?=some nv:=⟨_,zyM (by rw[H1.o];exact aj)⟩;obtain ⟨bv,cC⟩:∃ bv,bvs[k]?=some bv:=⟨_,zyM (by rw[H2.o];exact aj)⟩;have hc:=zcm l nvs bvs k t nv bv ht ay cC;have xT:=(HO.o k nv bv ay cC).1;have jr:=(HO.o k nv bv ay cC).2;have sn:=fun (W:World) (a:Addr) (m:Mode)=>run_store prog W a nv m xT
    have sb:=fun (W:World) (a:Addr) (m:Mode)=>run_store prog W a bv m jr
    have af:=HR.o.1.kept (zaf none hb) (zfy _);have c0:=(af.cellAt (k*4) (by omega)).trans hc.1;have c1:=(af.cellAt (k*4+1) (by omega)).trans hc.2.1;have c2:=(af.cellAt (k*4+2) (by omega)).trans hc.2.2.1;have c3:=(af.cellAt (k*4+3) (by omega)).trans hc.2.2.2;have hg:=(af.lt g rfl).2;have Ht:=zab (zaJ ht);have bB:=(ai.alloc (.cells #[.string ⟨t.name.s.toArray⟩,.int .i64 t.name.at_,nv,bv] 93)).alloc (.cells #[.string ⟨t.name.s.toArray⟩] 9);clear ai hb ht hc af ay cC;go_wp2_with (at_builtin;refine wpList_append_own _ rfl _ _ 38 rfl w.heap.size 9 i0 _ 1 16 underlying38 HI.o HZ.o.1 HZ.o.2.1 HZ.o.2.2 rfl (by decide) _ _ _ rfl bB ⟨wr.heap.size+1,0,none⟩ 1 1 [.string ⟨t.name.s.toArray⟩] rfl rfl (World.news_of_block (cs:=#[.string ⟨t.name.s.toArray⟩]) (t:=9) (fr:=(0,0)) (by have:=heap_alloc_new (wr.alloc (.cells #[.string ⟨t.name.s.toArray⟩,.int .i64 t.name.at_,nv,bv] 93)) (.cells #[.string ⟨t.name.s.toArray⟩] 9);simpa using this)) (by simp[Value.oneCell']) (by unfold maxLen;omega) (by omega) (by simp;omega) ?_;intro v' w3 dR ah _)
    go_roundg (l.length-(k+1))
    case measure=>omega
    case rel=>
     refine ⟨k+1,by go_num,by omega,zyN _,?_,zbk (zjh (zad (zad (zaf none Hb.o) (zag _ _ _)) (zag _ _ _)) bB ah)⟩;rw[Ht.o,show Th.zaq (l.take k++[t])=Th.zaq (l.take k)++[t.name.s] from by simp[Th.zaq],zen];exact dR
   ·have aG:k=l.length:=by omega
    have Hk:=zab aG;clear ai hb aG;go_wp2_with fail
    go_ret
    refine ⟨_,rfl,?_,Hb.o⟩;have ho:=Ho.o;rw[Hk.o,zy9 (zyN _)]at ho;exact ho
theorem zcX{pv:Value}{l:List Th.Tok}{pvs:List Value}{rb:Bool}{bt:TypeId}{bx:Value}(hr:Row S w 312 3 pv l.length (zaM l pvs))(h1:pvs.length=l.length)(ho:∀ (i:Nat) (bv:Value),pvs[i]?=some bv->bv.oneCell'=true)(hl:l.length<=1000000):
  Calls prog 197 #[.agg #[.bool rb,pv,.iface bt bx]] w fun e w'=>∃ v,e=.returned v/\w'.ownsRow w.heap.size 9 1 v l.length (strCells (Th.texts l))/\Below w.heap.size w w':=by
 obtain ⟨i0,hi,bq,aP,bF⟩:=info_parts zeR;have HI:=zab hi;clear hi;have HZ:=zab (And.intro bq (And.intro aP bF));clear bq aP bF;have HR:=zab hr;rcases zan hr with hv|⟨g,cap,hv⟩
 ·have da:l=[]:=by
   rcases hr.1.2 with ⟨_,h0⟩|⟨_,_,_,h0,_⟩
   ·exact zzn.1 h0
   ·rw[hv]at h0;cases h0
  subst hv da;clear hr HR ho h1;go_enter func197,ntmps197
  go_wp2_with fail
  refine wp_loop_rounds 1 ?_;rw[rounds_succ];go_wp2_with fail
  go_ret
  exact ⟨_,rfl,World.ownsRow_nil _ _ _ _,zam _ _⟩
 ·subst hv;have HO:=zab ho;have H1:=zab h1;clear hr ho h1;go_enter func197,ntmps197
  go_wp2_with fail
  go_loopg [3,9] l.length (fun gk v i wr=>∃ k:Nat,i=.int .i64 k/\k<=l.length/\l.length-k<=gk/\wr.ownsRow w.heap.size 9 1 v k (strCells (Th.texts (l.take k)))/\Below w.heap.size w wr)
  case atStart=>exact ⟨0,rfl,zy5 _,by omega,World.ownsRow_nil _ _ _ _,zam _ _⟩
  case round=>
   obtain ⟨k,rfl,hk,jm,ai,hb⟩:=hrel;have Ho:=zab ai;have Hb:=zab hb;have cT:=hb.size;by_cases aj:k<l.length
   ·obtain ⟨t,ht⟩:∃ t,l[k]?=some t:=⟨l[k],zyM aj⟩;obtain ⟨bv,cC⟩:∃ bv,pvs[k]?=some bv:=⟨_,zyM (by rw[H1.o];exact aj)⟩;have hc:=zbA l pvs k t bv ht cC;have jr:=HO.o k bv cC;have sb:=fun (W:World) (a:Addr) (m:Mode)=>run_store prog W a bv m jr
    have af:=HR.o.1.kept (zaf none hb) (zfy _);have c0:=(af.cellAt (k*3) (by omega)).trans hc.1;have c1:=(af.cellAt (k*3+1) (by omega)).trans hc.2.1;have c2:=(af.cellAt (k*3+2) (by omega)).trans hc.2.2;have hg:=(af.lt g rfl).2;have Ht:=zab (zaJ ht);have bB:=(ai.alloc (.cells #[.string ⟨t.s.toArray⟩,.int .i64 t.at_,bv] 312)).alloc (.cells #[.string ⟨t.s.toArray⟩] 9);clear ai hb ht hc af cC;go_wp2_with (at_builtin;refine wpList_append_own _ rfl _ _ 38 rfl w.heap.size 9 i0 _ 1 16 underlying38 HI.o HZ.o.1 HZ.o.2.1 HZ.o.2.2 rfl (by decide) _ _ _ rfl bB ⟨wr.heap.size+1,0,none⟩ 1 1 [.string ⟨t.s.toArray⟩] rfl rfl (World.news_of_block (cs:=#[.string ⟨t.s.toArray⟩]) (t:=9) (fr:=(0,0)) (by have:=heap_alloc_new (wr.alloc (.cells #[.string ⟨t.s.toArray⟩,.int .i64 t.at_,bv] 312)) (.cells #[.string ⟨t.s.toArray⟩] 9);simpa using this)) (by simp[Value.oneCell']) (by unfold maxLen;omega) (by omega) (by simp;omega) ?_;intro v' w3 dR ah _)
    go_roundg (l.length-(k+1))
    case measure=>omega
    case rel=>
     refine ⟨k+1,by go_num,by omega,zyN _,?_,zbk (zjh (zad (zad (zaf none Hb.o) (zag _ _ _)) (zag _ _ _)) bB ah)⟩;rw[Ht.o,show Th.texts (l.take k++[t])=Th.texts (l.take k)++[t.s] from by simp[Th.texts],zen];exact dR
   ·have aG:k=l.length:=by omega
    have Hk:=zab aG;clear ai hb aG;go_wp2_with fail
    go_ret
    refine ⟨_,rfl,?_,Hb.o⟩;have ho:=Ho.o;rw[Hk.o,zy9 (zyN _)]at ho;exact ho
end Go.Proofs.YtgahgkddaljmkaaGreatDoor
namespace Go.Proofs.YtgahgkddaljmkaaGreatDoor
open Tryz
open Go.RowKit
attribute [local go_sem ↓] Go.wp_at_zero Go.wp_at_succ
theorem znL:∀ (seen:List (List UInt8)) (l:List Th.Tok) (t:Th.Tok),Th.zjc seen (l++[t])=Th.zjc seen l++(if (seen++Th.texts l).contains t.s then [t.at_] else [])
 |seen,[],t=>by simp[Th.zjc,Th.texts]
 |seen,x::l,t=>by
  simp only[zy7,Th.zjc];rw[znL (seen++[x.s]) l t];simp[Th.texts]
theorem zeo(l:List Th.Tok)(k:Nat):(strCells (Th.texts l)).take k=strCells (Th.texts (l.take k)):=by simp[strCells,Th.texts]
variable {w:World}{c:Nat}{o:Option Nat}{S:Nat->Prop}
theorem zia(h:Chk w c o){nv:Value}{l:List Th.Tok}(hr:Row S w 88 2 nv l.length (zaj l))(hS:¬ S c)(hl:l.length<=1000000):
  Calls prog 70 #[.pointer (some ⟨c,0,none⟩),nv] w fun e w'=>e=.returned (.tuple #[])/\Chk w' c (after o (Th.zjc [] l))/\w.grownBy w' (some c):=by
 have aN:=h.lt;have H:=zab h;have HR:=zab hr;have HS:=zab hS;have gV:=zan hr;clear h hS;rcases gV with hv|⟨g,cap,hv⟩
 ·have da:l=[]:=by
   rcases hr.1.2 with ⟨_,h0⟩|⟨_,_,_,h0,_⟩
   ·exact zzn.1 h0
   ·rw[hv]at h0;cases h0
  subst hv da;go_enter func70,ntmps70
  go_wp2_with fail
  refine (ze4 hr hl).mono ?_;rintro e w1 ⟨v,rfl,af,hb⟩;have mV:=zan (Row.zaE af);have Hb:=zab hb;clear hr af hb;rcases mV with rfl|⟨g2,fI,rfl⟩
  all_goals
   go_wp2_with fail
   refine wp_loop_rounds 1 ?_;rw[rounds_succ];go_wp2_with fail
   go_end0
   exact ⟨rfl,by rw[show Th.zjc [] []=[] from rfl,zbZ];exact H.o.below Hb.o,zaf _ Hb.o⟩
 ·subst hv;go_enter func70,ntmps70
  go_wp2_with fail
  refine (ze4 hr hl).mono ?_;rintro e w1 ⟨v,rfl,af,hb⟩;have HT:=zab af;have Hb:=zab hb;have hz:=hb.size;have mV:v=.slice none 0 0\/∃ g2 fI,v=.slice (some ⟨g2,0,none⟩) l.length fI:=by simpa [Th.texts] using zan (Row.zaE af)
  clear hr hb af;rcases mV with rfl|⟨g2,fI,rfl⟩
  ·have da:l=[]:=by
    rcases HT.o.2 with ⟨_,h0⟩|⟨_,_,_,h0,_⟩
    ·exact zzn.1 h0
    ·cases h0
   subst da;go_wp2_with fail
   refine wp_loop_rounds 1 ?_;rw[rounds_succ];go_wp2_with fail
   go_end0
   exact ⟨rfl,by rw[show Th.zjc [] []=[] from rfl,zbZ];exact H.o.below Hb.o,zaf _ Hb.o⟩
  ·have kT:l.length<=fI:=by
    rcases HT.o.2 with ⟨h0,_⟩|⟨_,_,_,h0,_,_,hn,_⟩
    ·cases h0
    ·cases h0;exact hn
   go_wp2_with fail
   go_loopg [11] l.length (fun gk i wr=>∃ k:Nat,i=.int .i64 k/\k<=l.length/\l.length-k<=gk/\Chk wr c (after o (Th.zjc [] (l.take k)))/\w1.grownBy wr (some c))
   case atStart=>exact ⟨0,rfl,zy5 _,by omega,by rw[show Th.zjc [] (l.take 0)=[] from rfl,zbZ];exact H.o.below Hb.o,zcT _ _⟩
   case round=>
    obtain ⟨k,rfl,hk,jm,fV,hg⟩:=hrel;have jQ:=zab fV;have Hg:=zab hg;have cT:=hg.size;by_cases aj:k<l.length
    ·obtain ⟨t,ht⟩:∃ t,l[k]?=some t:=⟨l[k],zyM aj⟩;have hc:=zdH l k t ht;have af:=((HR.o.gb (zaf none Hb.o) (by simp)).gb hg (fun j hj=>by cases hj;exact HS.o)).1;have c0:=(af.cellAt (k*2) (by omega)).trans hc.1;have c1:=(af.cellAt (k*2+1) (by omega)).trans hc.2;have fX:=(af.lt g rfl).2;have Ht:=zab (zaJ ht);have dF:(0:Int)<=(k:Int):=zzN _;have cK:(k:Int)<=(fI:Int):=by omega
     have gl:=zg6 (HT.o.kept hg (zdi HT.o aN)) (i:=k) (by omega);rw[zeo]at gl;have oE:Hid (wr.ownsRow w.heap.size 9 1 (.slice (some ⟨g2,0,none⟩) k fI) (Th.texts (l.take k)).length (strCells (Th.texts (l.take k)))):=zab (by
      rw[show (Th.texts (l.take k)).length=k by simp[Th.texts];omega];exact gl)
     have dn:=zab (fun (W:World) (hW:Chk W c (after o (Th.zjc [] (l.take k)))) (hR:W.ownsRow w.heap.size 9 1 (.slice (some ⟨g2,0,none⟩) k fI) (Th.texts (l.take k)).length (strCells (Th.texts (l.take k))))=>zgW hW ⟨t.s.toArray⟩ t.at_ hR (by simp[Th.texts];omega));have Hd:Hid (Th.zjc [] (l.take (k+1))=Th.zjc [] (l.take k)++(if (Th.texts (l.take k)).contains t.s then [t.at_] else [])):=zab (by rw[Ht.o,znL];simp);clear fV hg ht hc af gl;go_wp2_with fail
     go_region_with (go_at_call 69;refine (dn.o _ ?_ ?_).mono ?_;exact Blk.drew (Blk.alloc jQ.o _);exact (oE.o.alloc _).drew;rintro e w3 ⟨rfl,h3,aS⟩;have H3:=zab h3;have gC:=zab aS;clear h3 aS)
     all_goals
      go_wp2_with fail
      go_roundg (l.length-(k+1))
      case measure=>omega
      case rel=>
       refine ⟨k+1,by go_num,by omega,zyN _,?_,zad (zad (zad Hg.o (zag _ _ _)) (zbO _ _)) gC.o⟩;rw[Hd.o,zaQ];exact H3.o
    ·have aG:k=l.length:=by omega
     have Hk:=zab aG;clear fV hg aG;go_wp2_with fail
     go_end0
     refine ⟨rfl,?_,zad (zaf _ Hb.o) Hg.o⟩;have ho:=jQ.o;rw[Hk.o,zy9 (zyN _)]at ho;exact ho
end Go.Proofs.YtgahgkddaljmkaaGreatDoor
namespace Go.Proofs
open Go.Shelf
def Tryz.growS_ren:Go.Shelf.Ren:=⟨fun|4=>123|n=>n,fun|22=>38|25=>9|3=>3|4=>4|9=>9|20=>20|0=>0|n=>n,fun|n=>n⟩
theorem Tryz.growS:Go.Proofs.Lays8.n4 prog Tryz.growS_ren:={
 mixed:=by kernel_rfl
 f4:=⟨Tryz.f123.name,by decide,func123.trans (congrArg some (by kernel_rfl))⟩
 t0:=underlying0
 a0:=isAgg0
 z0:=sizeOf0
 v0:=zeroValue0
 t3:=underlying3
 a3:=isAgg3
 z3:=sizeOf3
 v3:=zeroValue3
 t4:=underlying4
 a4:=isAgg4
 z4:=sizeOf4
 v4:=zeroValue4
 t9:=underlying9
 a9:=isAgg9
 z9:=sizeOf9
 v9:=zeroValue9
 t20:=underlying20
 a20:=isAgg20
 z20:=sizeOf20
 v20:=zeroValue20
 t22:=underlying38
 a22:=isAgg38
 z22:=sizeOf38
 v22:=zeroValue38 }
end Go.Proofs
namespace Go.Proofs.YtgahgkddaljmkaaGreatDoor
open Tryz
open Go.RowKit
theorem zqx(w:World)(n:Nat)(hn:n<=4000000):
  Calls prog 123 #[.slice none 0 0,.int .i64 n] w fun e w'=>∃ v,e=.returned v/\w'.ownsRow w.heap.size 9 1 v 0 []/\Below w.heap.size w w':=by
 obtain ⟨i0,hi,bq,aP,bF⟩:=info_parts zeR;by_cases h0:n=0
 ·subst h0;refine (Any8.slices_Grow_room Tryz.growS none 0 0 0 w (by omega) (by omega) (by omega) (by omega)).mono ?_;rintro e w' ⟨rfl,rfl⟩;exact ⟨_,rfl,World.ownsRow_nil _ _ _ _,Below.refl _ _⟩
 ·refine (Any8.slices_Grow_grow Tryz.growS i0 _ hi bq (by omega) none 0 0 n [] w (by omega) (by omega) (by rw[bF];omega) (by omega) (by simp) (fun _=>rfl) (fun a ha=>by cases ha)).mono ?_;rintro e w' ⟨rfl,rfl⟩;refine ⟨_,rfl,?_,zbk (zad (zbO _ _) (zag _ _ _))⟩;have:=World.ownsRow_made (e:=9) (base:=w.heap.size) (size:=1) w.drew (([]:List Value).toArray++Builtin.zeroCells (Value.string ⟨#[]⟩).cells (0+n-0)++Builtin.zeroCells (Value.string ⟨#[]⟩).cells (grownCap w (0+n) 0 9-(0+n))) (grownCap w (0+n) 0 9) (by simp) (grownCap_le_maxLen _ _ _ _ (by unfold maxLen;omega)) ?_
  ·exact this
  ·have:=grownCap_ge w (0+n) 0 9;rw[Array.size_append,Array.size_append,size_zeroCells,size_zeroCells];show 0+(0+n-0)*1+(_-(0+n))*1=_;omega
variable {l:List (List UInt8)}
theorem ze1 :∀ u∈strCells l,u.oneCell'=true:=by
 intro u hu;obtain ⟨s,_,rfl⟩:=zz1.1 hu;rfl
variable {w:World}{base:Nat}{v x:Value}{l1 l2:List (List UInt8)}{S:Nat->Prop}
theorem zxJ(ty:TypeId)(hv:w.ownsRow base 9 1 v l1.length (strCells l1))(hx:Row S w 9 1 x l2.length (strCells l2))(h1:l1.length<=2000000)(h2:l2.length<=2000000)(hb:base<=w.heap.size):
  ∃ v' w',(Builtin.append_ #[38,38] ty #[v,x]).run prog w=.ok v' w'/\w'.ownsRow base 9 1 v' (l1++l2).length (strCells (l1++l2))/\w.grownBy w' v.ownBlock:=by
 obtain ⟨i0,hi,bq,aP,bF⟩:=info_parts zeR;rcases zan hx with rfl|⟨g,cap,rfl⟩
 ·have da:l2=[]:=by
   rcases hx.1.2 with ⟨_,h0⟩|⟨_,_,_,h0,_⟩
   ·exact zzn.1 h0
   ·cases h0
  subst da;rcases zan (Row.zaE hv) with rfl|⟨g,cap,rfl⟩
  ·refine ⟨.slice none 0 0,w,by kernel_rfl,by simpa using hv,zcT _ _⟩
  ·refine ⟨.slice (some ⟨g,0,none⟩) l1.length cap,w,?_,by simpa using hv,zcT _ _⟩;have kS:l1.length<=cap:=by
    rcases hv.2 with ⟨h0,_⟩|⟨_,_,_,h0,_,_,hn,_⟩
    ·cases h0
    ·cases h0;exact hn
   exact run_append_room_src (P:=prog) w 38 38 ty 9 i0 underlying38 hi g 0 l1.length cap (.slice none 0 0) 0 [] (Src.ofNil w underlying38 0) (by omega) (by simp) (by simp)
 ·obtain ⟨v',w',hr,ho,hg,_⟩:=run_append_own (P:=prog) w base 38 ty 9 i0 _ 1 16 underlying38 hi bq aP bF rfl (by decide) v l1.length (strCells l1) hv ⟨g,0,none⟩ l2.length cap (strCells l2) (by simp[strCells]) (hx.1.cells (g:=g) rfl) ze1 (by unfold maxLen;omega) (by omega) hb;refine ⟨v',w',hr,?_,hg⟩;rw[show strCells (l1++l2)=strCells l1++strCells l2 by simp[strCells],zyT];exact ho
theorem zfG{ops:Array Oper}{rest:List Oper}{o:Oper}{a:Act}{Q:Exit->Act->World->Prop}(oY:o.guard=none)(s x:Operand)(ho:o.op=.call { callee:=.builtin .append,args:=#[s,x],argTypes:=#[38,38] }){xv:Value}(hs:a.eval s=v)(uT:a.eval x=xv)(hv:w.ownsRow base 9 1 v l1.length (strCells l1))(hx:Row S w 9 1 xv l2.length (strCells l2))(h1:l1.length<=2000000)(h2:l2.length<=2000000)(hb:base<=w.heap.size)(h:∀ v' w',w'.ownsRow base 9 1 v' (l1++l2).length (strCells (l1++l2))->w.grownBy w' v.ownBlock->wpList prog ops Q rest (a.put o.dst v') w'):wpList prog ops Q (o::rest) a w:=
 wpList_plain oY fun _ hK=>by
  obtain ⟨v',w',hr,h3,h4⟩:=zxJ o.type hv hx h1 h2 hb;unfold Oper.wp execOp;simp only[ho,resolve,invoke,builtin,Sem.run_bind,Sem.run_pure,Result.andThen_ok,List.map_toArray,zza,List.map_nil,hs,uT,hr];exact hK _ _ (h v' w' h3 h4)
variable {g:Nat}
theorem zlj{y:Value}{S1 S2:Nat->Prop}(hb:Blk w g [x,y] 38)(hx:Row S1 w 9 1 x l1.length (strCells l1))(hy:Row S2 w 9 1 y l2.length (strCells l2))(h1:l1.length<=1000000)(h2:l2.length<=1000000):
  Calls prog 72 #[.slice (some ⟨g,0,none⟩) 2 2] w fun e w'=>∃ v,e=.returned v/\w'.ownsRow w.heap.size 9 1 v (l1++l2).length (strCells (l1++l2))/\Below w.heap.size w w':=by
 have hl:=hb.lt;have H:=zab hb;have c0:=Blk.cell hb 0;have c1:=Blk.cell hb 1;simp at c0 c1;have HX:=zab hx;have HY:=zab hy;have oc:=zan hx;have AO:=zan hy;clear hb hx hy;have cX:Hid (x=.slice none 0 0->l1.length=0):=zab (fun h=>by
  rcases HX.o.1.2 with ⟨_,h0⟩|⟨_,_,_,h0,_⟩
  ·exact h0
  ·rw[h]at h0;cases h0)
 have aT:Hid (y=.slice none 0 0->l2.length=0):=zab (fun h=>by
  rcases HY.o.1.2 with ⟨_,h0⟩|⟨_,_,_,h0,_⟩
  ·exact h0
  ·rw[h]at h0;cases h0)
 obtain ⟨xa,n1,xc,rfl,cR⟩:∃ xa n1 xc,x=.slice xa n1 xc/\n1=l1.length:=by
  rcases oc with h|⟨g1,c1,h⟩
  ·exact ⟨_,_,_,h,(cX.o h).symm⟩
  ·exact ⟨_,_,_,h,rfl⟩
 obtain ⟨ya,n2,yc,rfl,eY⟩:∃ ya n2 yc,y=.slice ya n2 yc/\n2=l2.length:=by
  rcases AO with h|⟨g1,c1,h⟩
  ·exact ⟨_,_,_,h,(aT.o h).symm⟩
  ·exact ⟨_,_,_,h,rfl⟩
 have xM:n1<=1000000:=by omega
 have EU:n2<=1000000:=by omega
 have HN:=zab (And.intro cR eY);clear cR eY oc AO h1 h2 cX aT;go_enter func72,ntmps72
 go_wp2_with fail
 refine wp_loop_rounds 3 ?_;rw[rounds_succ];go_wp2_with fail
 have dh:(0:Int)<=(n1:Int)+(n2:Int):=by omega
 rw[rounds_succ];go_wp2_with fail
 rw[rounds_succ];go_wp2_with fail
 have pY:=zqx w (n1+n2) (by omega);rw[zzq]at pY;refine pY.mono ?_;clear pY;rintro e w1 ⟨v,rfl,ai,hb⟩;have d0:w1.cell? ⟨g,0,none⟩=some (.slice xa n1 xc):=(World.cell?_of_block (hb.block g hl)).trans c0;have d1:w1.cell? ⟨g,1,none⟩=some (.slice ya n2 yc):=(World.cell?_of_block (hb.block g hl)).trans c1;have C1:=zab c1;have HO:Hid (w1.ownsRow w.heap.size 9 1 v ([]:List (List UInt8)).length (strCells [])):=zab ai;have kM:=HX.o.gb (zaf none hb) (by simp);have Hb:=zab hb;have cT:=hb.size;rcases zan (Row.zaE ai) with rfl|⟨g2,fI,rfl⟩
 all_goals
  clear ai hb c0 c1;go_wp2_with fail
  refine wp_loop_rounds 3 ?_;rw[rounds_succ];go_wp2_with (at_builtin;refine zfG rfl _ _ rfl rfl rfl HO.o kM (by simp) (by have:=HN.o;omega) (by omega) ?_;intro v2 w2 bB fL)
  have fq:w.grownBy w2 none:=zjh (zaf none Hb.o) HO.o fL;rw[zzb]at bB;have e1:w2.cell? ⟨g,1,none⟩=some (.slice ya n2 yc):=fq.cell C1.o (by simp);have zY:=HY.o.gb fq (by simp);have j6:=fq.size;have HG:=zab fq;have mA:=zab bB;have aI:=zan (Row.zaE bB);clear fL fq bB d0 d1 kM HO;rcases aI with rfl|⟨g3,wq,rfl⟩
  all_goals
   rw[rounds_succ];go_wp2_with (at_builtin;refine zfG rfl _ _ rfl rfl rfl mA.o zY (by have:=HN.o;omega) (by have:=HN.o;omega) (by omega) ?_;intro v3 w3 eL kY)
   have gC:Hid (w.grownBy w3 none):=zab (zjh HG.o mA.o kY);have qB:=zab eL;have bP:=zan (Row.zaE eL);clear kY eL zY mA;rcases bP with rfl|⟨g4,DE,rfl⟩
   all_goals
    rw[rounds_succ];go_wp2_with fail
    go_ret
    exact ⟨_,rfl,qB.o,zbk gC.o⟩
variable {e:TypeId}{size n:Nat}{xs:List Value}
theorem zae(h:Row S w e size v n xs):∃ a k c,v=.slice a k c:=by
 rcases zan h with h|⟨g,cap,h⟩
 ·exact ⟨_,_,_,h⟩
 ·exact ⟨_,_,_,h⟩
theorem zaF(h:w.ownsRow base e size v n xs):∃ a k c,v=.slice a k c:=zae (Row.zaE h)
theorem zah :∀ {n:Nat} {v:Value} {e:Th.Ex},Rep S w n v e->∃ t x,v=.iface t x
 |0,_,_,h=>h.elim
 |n+1,v,e,h=>by
  rcases h with ⟨_,h⟩|⟨_,h⟩|⟨_,h⟩|⟨_,_,_,_,_,h,_⟩|⟨_,_,_,_,_,_,h,_⟩|⟨_,_,_,_,_,_,h,_⟩|⟨_,_,_,_,_,_,_,h,_⟩|⟨_,_,_,_,_,_,_,_,h,_⟩
  all_goals exact ⟨_,_,h⟩
theorem zfs{y:Value}{S1 S2:Nat->Prop}(hx:Row S1 w 9 1 x l1.length (strCells l1))(hy:Row S2 w 9 1 y l2.length (strCells l2))(h1:l1.length<=1000000)(h2:l2.length<=1000000):
  Calls prog 72 #[.slice (some ⟨w.heap.size,0,none⟩) 2 2] (w.alloc (.cells #[x,y] 38)) fun e w'=>∃ a k c,e=.returned (.slice a k c)/\Row (fun b=>w.heap.size<=b) w' 9 1 (.slice a k c) (l1++l2).length (strCells (l1++l2))/\Below w.heap.size w w':=by
 refine (zlj (Blk.new w [x,y] _) (hx.gb (zag _ _ none) (by simp)) (hy.gb (zag _ _ none) (by simp)) h1 h2).mono ?_;rintro e w' ⟨v,rfl,ho,hb⟩;obtain ⟨a,k,c,rfl⟩:=zae (Row.zaE ho);refine ⟨a,k,c,rfl,(Row.zaE ho).mono (fun j _ hj=>?_),zbk (zad (zag _ _ none) (zaf none hb))⟩;have:=(zag w (.cells #[x,y] 38) none).size;exact zyR this hj
def zbs (l:List (Nat × Nat × Nat)):List Value:=l.flatMap fun a=>[.int .i64 a.1,.int .i64 a.2.1,.int .i64 a.2.2]
def zaz:List (Nat × List Ins)->List Value->List Value
 |b::l,v::vs=>[.int .i64 b.1,v]++zaz l vs
 |_,_=>[]
def zo5 (Z:Nat->Prop) (w:World) (v:Value):Ins->Prop
 |.push k=>v=.iface 248 (.agg #[.int .i64 k])
 |.zcW f=>v=.iface 250 (.agg #[.int .i64 f])
 |.num x=>v=.iface 252 (.agg #[.int .i64 x])
 |.pack t c=>v=.iface 254 (.agg #[.int .i64 t,.int .i64 c])
 |.close b c=>v=.iface 257 (.agg #[.int .i64 b,.int .i64 c])
 |.hold b c=>v=.iface 258 (.agg #[.int .i64 b,.int .i64 c])
 |.fill k c=>v=.iface 260 (.agg #[.int .i64 k,.int .i64 c])
 |.wait b=>v=.iface 263 (.agg #[.int .i64 b])
 |.zbF c=>v=.iface 267 (.agg #[.int .i64 c])
 |.zci c=>v=.iface 268 (.agg #[.int .i64 c])
 |.zbX=>v=.iface 269 (.agg #[])
 |.comp sg=>v=.iface 272 (.agg #[.string sg])
 |.enter=>v=.iface 185 (.agg #[])
 |.jump b=>v=.iface 273 (.agg #[.int .i64 b])
 |.choose zao=>∃ av,v=.iface 276 (.agg #[av])/\Row Z w 290 3 av zao.length (zbs zao)/\zao≠[]
def zdO (Z:Nat->Prop) (w:World) (vs:List Value) (is:List Ins):Prop:=vs.length=is.length/\∀ (j:Nat) (v:Value) (x:Ins),vs[j]?=some v->is[j]?=some x->zo5 Z w v x
def zir (Z:Nat->Prop) (w:World) (kv:Value) (is:List Ins):Prop:=∃ vs,Row Z w 154 1 kv is.length vs/\zdO Z w vs is
variable {K:Nat->Prop}{w':World}
theorem Fr.gb(f:Fr K w w'):∀ {e:TypeId} {size n:Nat} {v:Value} {xs:List Value},w.ownsRow 0 e size v n xs->(∀ k,v.ownBlock=some k->¬ K k)->w'.ownsRow 0 e size v n xs:=by
 intro e size n v xs h hk;obtain ⟨h1,h2⟩:=h;refine ⟨h1,?_⟩;rcases h2 with h2|⟨g,cap,cur,hv,hg,hb,r⟩
 ·exact .inl h2
 ·refine .inr ⟨g,cap,cur,hv,hg,?_,r⟩;rw[f.block g (zyY.1 hb).1 (hk g (by rw[hv];rfl))];exact hb
variable {Z Z':Nat->Prop}
theorem Row.frz(h:Row Z w e size v n xs)(f:Fr K w w')(hK:∀ k,k<w.heap.size->Z k->¬ K k)(hZ:∀ k,k<w.heap.size->Z k->Z' k):Row Z' w' e size v n xs:=by
 have hl:=fun k hk=>(h.1.lt k hk).2
 exact ⟨f.gb h.1 (fun k hk=>hK k (hl k hk) (h.2 k hk)),fun k hk=>hZ k (hl k hk) (h.2 k hk)⟩
theorem zo5.frz{Z Z' K:Nat->Prop}{w w':World}{v:Value}{i:Ins}(h:zo5 Z w v i)(f:Fr K w w')(hK:∀ k,k<w.heap.size->Z k->¬ K k)(hZ:∀ k,k<w.heap.size->Z k->Z' k):zo5 Z' w' v i:=by
 cases i <;> first|exact h|(obtain ⟨av,h1,h2,h3⟩:=h;exact ⟨av,h1,h2.frz f hK hZ,h3⟩)
theorem zdO.frz{Z Z' K:Nat->Prop}{w w':World}{vs:List Value}{is:List Ins}(h:zdO Z w vs is)(f:Fr K w w')(hK:∀ k,k<w.heap.size->Z k->¬ K k)(hZ:∀ k,k<w.heap.size->Z k->Z' k):zdO Z' w' vs is:=
 ⟨h.1,fun j v x hv hx=>(h.2 j v x hv hx).frz f hK hZ⟩
theorem zir.frz{Z Z' K:Nat->Prop}{w w':World}{v:Value}{is:List Ins}(h:zir Z w v is)(f:Fr K w w')(hK:∀ k,k<w.heap.size->Z k->¬ K k)(hZ:∀ k,k<w.heap.size->Z k->Z' k):zir Z' w' v is:=by
 obtain ⟨vs,h1,h2⟩:=h;exact ⟨vs,h1.frz f hK hZ,h2.frz f hK hZ⟩
variable {vs:List Value}{is:List Ins}{i:Ins}
theorem zdO.snoc(h:zdO Z w vs is)(hi:zo5 Z w v i):zdO Z w (vs++[v]) (is++[i]):=by
 refine ⟨by simp[h.1],fun j u x hu hx=>?_⟩;rw[zzj]at hu hx;by_cases hj:j<is.length
 ·rw[if_pos (by rw[h.1];exact hj)]at hu;rw[if_pos hj]at hx;exact h.2 j u x hu hx
 ·rw[if_neg (by rw[h.1];exact hj)]at hu;rw[if_neg hj]at hx;rw[h.1]at hu;have h1:j-is.length=0:=by
   have:=(zyL.1 hx).1;simp at this;omega
  rw[h1]at hu hx;simp only[zzl,zyP]at hu hx;rw[<-hu,<-hx];exact hi
theorem zqA(h:zo5 Z w v i):∃ t x,v=.iface t x:=by
 cases i <;> first|exact ⟨_,_,h⟩|(obtain ⟨av,h1,_⟩:=h;exact ⟨_,_,h1⟩)
def KL (cb bb:Nat) (rv sv kv:Value) (k:Nat):Prop:=k=cb\/k=bb\/rv.ownBlock=some k\/sv.ownBlock=some k\/kv.ownBlock=some k
structure BS (Z:Nat->Prop) (w:World) (cb bb:Nat) (rv sv kv:Value) (fns:List Cp.Nm) (q:Cp.Bs):Prop where
 zkt:∃ fv,Blk w cb [fv,rv] 86/\Row Z w 9 1 fv fns.length (strCells fns)
 zbY:Blk w bb [.pointer (some ⟨cb,0,none⟩),sv,kv] 159
 zkI:∃ cP,cP.length=q.blocks.length/\w.ownsRow 0 96 2 rv q.blocks.length (zaz q.blocks cP)/\∀ (i:Nat) (b:Nat × List Ins) (cv:Value),q.blocks[i]?=some b->cP[i]?=some cv->zir Z w cv b.2
 ziW:w.ownsRow 0 9 1 sv q.zac.length (strCells q.zac)
 znV:∃ vs,w.ownsRow 0 154 1 kv q.code.length vs/\zdO Z w vs q.code
 zlt:∀ k,Z k->k<w.heap.size
 zk:∀ k,Z k->¬ KL cb bb rv sv kv k
 ne:cb≠bb
 rc:rv.ownBlock≠some cb/\rv.ownBlock≠some bb
 sc:sv.ownBlock≠some cb/\sv.ownBlock≠some bb
 kc:kv.ownBlock≠some cb/\kv.ownBlock≠some bb
 rs:∀ k,rv.ownBlock=some k->sv.ownBlock≠some k
 rk:∀ k,rv.ownBlock=some k->kv.ownBlock≠some k
 sk:∀ k,sv.ownBlock=some k->kv.ownBlock≠some k
def New (w:World) (v v':Value):Prop:=∀ k,v'.ownBlock=some k->v.ownBlock=some k\/w.heap.size<=k
theorem New.refl(w:World)(v:Value):New w v v:=fun _ h=>.inl h
theorem New.trans{w1:World}{a b c:Value}(h:New w a b)(k:New w1 b c)(hs:w.heap.size<=w1.heap.size):New w a c:=fun i hi=>by
 rcases k i hi with h1|h1
 ·exact h i h1
 ·exact .inr (zyR hs h1)
def Did (Z:Nat->Prop) (w:World) (cb bb:Nat) (rv sv kv:Value) (fns:List Cp.Nm) (q':Cp.Bs) (w':World):Prop:=
 ∃ Z' aO sv' bG,(∀ k,k<w.heap.size->(Z' k↔Z k))/\BS Z' w' cb bb aO sv' bG fns q'/\Fr (KL cb bb rv sv kv) w w'/\New w rv aO/\New w sv sv'/\New w kv bG
variable {cb bb:Nat}{rv sv kv sv' bG:Value}
theorem KL.new{k:Nat}{aO:Value}(h:KL cb bb aO sv' bG k)(h1:New w rv aO)(h2:New w sv sv')(h3:New w kv bG)(hk:k<w.heap.size):KL cb bb rv sv kv k:=by
 rcases h with h|h|h|h|h
 ·exact .inl h
 ·exact .inr (.inl h)
 ·rcases h1 k h with e|e
  ·exact .inr (.inr (.inl e))
  ·omega
 ·rcases h2 k h with e|e
  ·exact .inr (.inr (.inr (.inl e)))
  ·omega
 ·rcases h3 k h with e|e
  ·exact .inr (.inr (.inr (.inr e)))
  ·omega
theorem Did.trans{Z Z1:Nat->Prop}{w w1 w2:World}{cb bb:Nat}{rv sv kv bh bf cA:Value}{fns:List Cp.Nm}{q2:Cp.Bs}(hz:∀ k,k<w.heap.size->(Z1 k↔Z k))(hf:Fr (KL cb bb rv sv kv) w w1)(h1:New w rv bh)(h2:New w sv bf)(h3:New w kv cA)(d:Did Z1 w1 cb bb bh bf cA fns q2 w2):Did Z w cb bb rv sv kv fns q2 w2:=by
 obtain ⟨Z2,im,iq,ik,e1,e2,e3,e4,e5,e6⟩:=d;have hs:=hf.size;refine ⟨Z2,im,iq,ik,fun k hk=>(e1 k (zyS hk hs)).trans (hz k hk),e2,?_,h1.trans e4 hs,h2.trans e5 hs,h3.trans e6 hs⟩;refine ⟨e3.os.trans hf.os,e3.tape.trans hf.tape,e3.output.trans hf.output,zyR hs e3.size,fun i hi hK=>(e3.block i (zyS hi hs) (fun hn=>hK (KL.new hn h1 h2 h3 hi))).trans (hf.block i hi hK)⟩
theorem Did.refl{Z:Nat->Prop}{w:World}{cb bb:Nat}{rv sv kv:Value}{fns:List Cp.Nm}{q:Cp.Bs}(h:BS Z w cb bb rv sv kv fns q):Did Z w cb bb rv sv kv fns q w:=
 ⟨Z,rv,sv,kv,fun _ _=>zAz,h,Fr.refl _ _,New.refl _ _,New.refl _ _,New.refl _ _⟩
variable {fns:List Cp.Nm}{q:Cp.Bs}
theorem BS.clt(h:BS Z w cb bb rv sv kv fns q):cb<w.heap.size:=by obtain ⟨fv,h1,_⟩:=h.zkt;exact h1.lt
theorem BS.rlt(h:BS Z w cb bb rv sv kv fns q):∀ k,rv.ownBlock=some k->k<w.heap.size:=by obtain ⟨cP,_,h2,_⟩:=h.zkI;exact fun k hk=>(h2.lt k hk).2
theorem BS.slt(h:BS Z w cb bb rv sv kv fns q):∀ k,sv.ownBlock=some k->k<w.heap.size:=fun k hk=>(h.ziW.lt k hk).2
theorem BS.klt(h:BS Z w cb bb rv sv kv fns q):∀ k,kv.ownBlock=some k->k<w.heap.size:=by obtain ⟨vs,h1,_⟩:=h.znV;exact fun k hk=>(h1.lt k hk).2
theorem BS.up{sl:List Cp.Nm}{co:List Ins}(h:BS Z w cb bb rv sv kv fns q)(f:Fr (fun k=>k=bb\/sv.ownBlock=some k\/kv.ownBlock=some k) w w')(hb:Blk w' bb [.pointer (some ⟨cb,0,none⟩),sv',bG] 159)(hs:w'.ownsRow 0 9 1 sv' sl.length (strCells sl))(hk:∃ vs,w'.ownsRow 0 154 1 bG co.length vs/\zdO Z w' vs co)(ns:New w sv sv')(nk:New w kv bG)(FP:∀ k,sv'.ownBlock=some k->bG.ownBlock≠some k):BS Z w' cb bb rv sv' bG fns ⟨q.blocks,sl,co⟩:=by
 have hz:∀ k,k<w.heap.size->Z k->¬ (k=bb\/sv.ownBlock=some k\/kv.ownBlock=some k):=fun k _ hk he=>h.zk k hk (by
  rcases he with e|e|e
  ·exact .inr (.inl e)
  ·exact .inr (.inr (.inr (.inl e)))
  ·exact .inr (.inr (.inr (.inr e))))
 have cV:=h.zbY.lt;obtain ⟨fv,bH,bT⟩:=h.zkt;have aN:=bH.lt;obtain ⟨cP,dd,cg,jc⟩:=h.zkI;have bd:=h.rlt;refine ⟨⟨fv,Fr.blk bH f ?_,bT.frz f hz (fun _ _ x=>x)⟩,hb,⟨cP,dd,f.gb cg (fun k hk he=>?_),fun i b cv h1 h2=>(jc i b cv h1 h2).frz f hz (fun _ _ x=>x)⟩,hs,hk,fun k hk=>zyS (h.zlt k hk) f.size,fun k hk he=>?_,h.ne,h.rc,?_,?_,?_,?_,FP⟩
 ·rintro (e|e|e)
  ·exact h.ne e
  ·exact h.sc.1 e
  ·exact h.kc.1 e
 ·rcases he with e|e|e
  ·exact h.rc.2 (by rw[hk,e])
  ·exact h.rs k hk e
  ·exact h.rk k hk e
 ·exact h.zk k hk (KL.new he (New.refl _ _) ns nk (h.zlt k hk))
 ·exact ⟨fun e=>by rcases ns cb e with e|e;exact h.sc.1 e;omega,fun e=>by rcases ns bb e with e|e;exact h.sc.2 e;omega⟩
 ·exact ⟨fun e=>by rcases nk cb e with e|e;exact h.kc.1 e;omega,fun e=>by rcases nk bb e with e|e;exact h.kc.2 e;omega⟩
 ·intro k hk e;rcases ns k e with e|e
  ·exact h.rs k hk e
  ·have:=bd k hk;omega
 ·intro k hk e;rcases nk k e with e|e
  ·exact h.rk k hk e
  ·have:=bd k hk;omega
theorem Did.up{q':Cp.Bs}(h:BS Z w' cb bb rv sv' bG fns q')(f:Fr (fun k=>k=bb\/sv.ownBlock=some k\/kv.ownBlock=some k) w w')(ns:New w sv sv')(nk:New w kv bG):Did Z w cb bb rv sv kv fns q' w':=
 ⟨Z,rv,sv',bG,fun _ _=>zAz,h,f.mono (fun i hi=>by rcases hi with e|e|e;exact .inr (.inl e);exact .inr (.inr (.inr (.inl e)));exact .inr (.inr (.inr (.inr e)))),New.refl _ _,ns,nk⟩
end Go.Proofs.YtgahgkddaljmkaaGreatDoor
namespace Go.Proofs.YtgahgkddaljmkaaGreatDoor
open Tryz
open Go.RowKit
attribute [local go_sem ↓] Go.wp_at_zero Go.wp_at_succ
theorem zxs:(prog.info? 154).map (fun i=>(i.zero,i.size,i.bytes))=some (some .nilIface,1,16):=by kernel_rfl
variable {K:Nat->Prop}{w:World}{row:Option Nat}
theorem Fr.zjj{a b:World}(h:Fr K w a)(hg:a.grownBy b row)(hr:∀ k,k<w.heap.size->row=some k->K k):Fr K w b:=
 ⟨hg.os.trans h.os,hg.tape.trans h.tape,hg.output.trans h.output,zyR h.size hg.size,fun i hi hK=>(hg.block i (zyS hi h.size) (fun e=>hK (hr i hi e.symm))).trans (h.block i hi hK)⟩
theorem zdV(w:World):Calls prog 155 #[] w fun e w'=>e=.returned (.slice (some ⟨w.heap.size,0,none⟩) 1 1)/\w'=w.alloc (.cells #[.string ⟨#[]⟩] 9):=by
 go_enter func155,ntmps155
 go_wp2_with fail
 go_ret
 exact ⟨rfl,rfl⟩
variable {Z:Nat->Prop}{cb bb g cap:Nat}{rv sv kv v:Value}{fns:List Cp.Nm}{q:Cp.Bs}{i:Ins}{vs:List Value}
theorem BS.wrote{w3:World}{b:Obj}(h:BS Z w cb bb rv sv kv fns q)(hi:zo5 Z w v i)(gW:zdO Z w vs q.code)(ai:w3.ownsRow 0 154 1 (.slice (some ⟨g,0,none⟩) (q.code.length+1) cap) (q.code.length+1) (vs++[v]))(ah:(w.alloc b).grownBy w3 kv.ownBlock)(aV:kv.ownBlock=some g\/g=w.heap.size+1):
  Blk w3 bb [.pointer (some ⟨cb,0,none⟩),sv,kv] 159/\Did Z w cb bb rv sv kv fns (q.write i) (w3.setCell ⟨bb,2,none⟩ (.slice (some ⟨g,0,none⟩) (q.code.length+1) cap)):=by
 have cV:=h.zbY.lt;have aA:Blk (w.alloc b) bb [.pointer (some ⟨cb,0,none⟩),sv,kv] 159:=Fr.blk (K:=fun _=>False) h.zbY ((Fr.refl _ _).alloc b) (by simp);have bD:=aA.grown ah (fun e=>h.kc.2 e.symm);have so:g≠bb:=by
  rcases aV with e|e
  ·intro e2;subst e2;exact h.kc.2 e
  ·omega
 have f0:Fr (fun k=>k=bb\/kv.ownBlock=some k) w (w3.setCell ⟨bb,2,none⟩ (.slice (some ⟨g,0,none⟩) (q.code.length+1) cap)):=
  (((Fr.refl _ _).alloc b).zjj ah (fun k _ e=>.inr e)).set _ _ (.inl (.inl rfl))
 have f1:Fr (fun k=>k=bb\/sv.ownBlock=some k\/kv.ownBlock=some k) w (w3.setCell ⟨bb,2,none⟩ (.slice (some ⟨g,0,none⟩) (q.code.length+1) cap)):=f0.mono (fun k hk=>by rcases hk with e|e;exact .inl e;exact .inr (.inr e));have hz:∀ k,k<w.heap.size->Z k->¬ (k=bb\/kv.ownBlock=some k):=fun k _ hk he=>h.zk k hk (by
  rcases he with e|e
  ·exact .inr (.inl e)
  ·exact .inr (.inr (.inr (.inr e))))
 have nk:New w kv (.slice (some ⟨g,0,none⟩) (q.code.length+1) cap):=by
  intro k hk;simp only[Value.ownBlock,zyP]at hk;rcases aV with e|e
  ·exact .inl (by rw[e,hk])
  ·exact .inr (by omega)
 have aK:=h.slt;refine ⟨bD,Did.up (h.up f1 (bD.set 2 _) (f0.gb h.ziW (fun k hk he=>?_)) ⟨vs++[v],?_,(gW.frz f0 hz (fun _ _ x=>x)).snoc (hi.frz f0 hz (fun _ _ x=>x))⟩ (New.refl _ _) nk ?_) f1 (New.refl _ _) nk⟩
 ·rcases he with e|e
  ·exact h.sc.2 (by rw[hk,e])
  ·exact h.sk k hk e
 ·have f3:Fr (fun k=>k=bb) w3 (w3.setCell ⟨bb,2,none⟩ (.slice (some ⟨g,0,none⟩) (q.code.length+1) cap)):=(Fr.refl _ _).set _ _ (.inl rfl);rw[zyT,zy0];exact f3.gb ai (fun k hk=>by simp only[Value.ownBlock,zyP]at hk;omega)
 ·intro k hk e;simp only[Value.ownBlock,zyP]at e;have:=aK k hk;rcases aV with e2|e2
  ·exact h.sk k hk (by rw[e2,e])
  ·omega
theorem zbS(h:BS Z w cb bb rv sv kv fns q)(hi:zo5 Z w v i)(hl:q.code.length<=1000000000):
  Calls prog 157 #[.pointer (some ⟨bb,0,none⟩),v] w fun e w'=>e=.returned (.tuple #[])/\Did Z w cb bb rv sv kv fns (q.write i) w':=by
 obtain ⟨i0,dt,bq,aP,bF⟩:=info_parts zxs;have HI:=zab dt;clear dt;have HZ:=zab (And.intro bq (And.intro aP bF));clear bq aP bF;obtain ⟨t,x,rfl⟩:=zqA hi;obtain ⟨vs,gW,af⟩:=h.znV;obtain ⟨ka,kn,kc,rfl⟩:=zaF gW;have c2:=Blk.cell h.zbY 2;simp at c2;have cV:w.heap.size≠bb:=by have:=h.zbY.lt;omega
 have jO:=zab ((Fr.refl (fun _=>False) w).alloc (.cells #[.iface t x] 154)|>.gb gW (by simp));have HH:=zab h;have oz:=zab hi;have CO:=zab af;clear h hi af gW;go_enter func157,ntmps157
 go_wp2_with (at_builtin;refine wpList_append_lies _ rfl _ _ _ rfl 0 154 i0 _ 1 16 underlying94 HI.o HZ.o.1 HZ.o.2.1 HZ.o.2.2 rfl (by omega) _ q.code.length vs rfl jO.o ⟨w.heap.size,0,none⟩ 1 1 [.iface t x] rfl rfl (World.news_of_block (cs:=#[.iface t x]) (t:=154) (fr:=(0,0)) (heap_alloc_new w _)) (by simp[Value.oneCell']) (by omega) (by unfold maxLen;omega) (by omega) (zy5 _) (w.heap.size+1) (by simp) ?_;intro g cap w3 ai ah aV aj;have AD:=zab (HH.o.wrote oz.o CO.o ai ah aV);have d2:=Blk.cell AD.o.1 2;have df:=Blk.frozen AD.o.1 2;simp at d2;clear ai ah aV aj)
 first|go_end0|refine bodyPost_ret (results_none rfl _ _ _) rfl ?_
 exact ⟨rfl,AD.o.2⟩
theorem BS.zuu{a w3:World}{n':Nat}{sl:List Cp.Nm}(h:BS Z w cb bb rv sv kv fns q)(fa:Fr (fun _=>False) w a)(hn:n'=sl.length)(ai:w3.ownsRow 0 9 1 (.slice (some ⟨g,0,none⟩) n' cap) n' (strCells sl))(ah:a.grownBy w3 sv.ownBlock)(aV:sv.ownBlock=some g\/w.heap.size<=g):
  Blk w3 bb [.pointer (some ⟨cb,0,none⟩),sv,kv] 159/\Did Z w cb bb rv sv kv fns ⟨q.blocks,sl,q.code⟩ (w3.setCell ⟨bb,1,none⟩ (.slice (some ⟨g,0,none⟩) n' cap)):=by
 subst hn;have cV:=h.zbY.lt;have aA:Blk a bb [.pointer (some ⟨cb,0,none⟩),sv,kv] 159:=Fr.blk h.zbY fa (by simp);have bD:=aA.grown ah (fun e=>h.sc.2 e.symm);have so:g≠bb:=by
  rcases aV with e|e
  ·intro e2;subst e2;exact h.sc.2 e
  ·omega
 have f0:Fr (fun k=>k=bb\/sv.ownBlock=some k) w (w3.setCell ⟨bb,1,none⟩ (.slice (some ⟨g,0,none⟩) sl.length cap)):=
  ((fa.mono (fun _ h=>h.elim)).zjj ah (fun k _ e=>.inr e)).set _ _ (.inl (.inl rfl))
 have f1:Fr (fun k=>k=bb\/sv.ownBlock=some k\/kv.ownBlock=some k) w (w3.setCell ⟨bb,1,none⟩ (.slice (some ⟨g,0,none⟩) sl.length cap)):=f0.mono (fun k hk=>by rcases hk with e|e;exact .inl e;exact .inr (.inl e));have hz:∀ k,k<w.heap.size->Z k->¬ (k=bb\/sv.ownBlock=some k):=fun k _ hk he=>h.zk k hk (by
  rcases he with e|e
  ·exact .inr (.inl e)
  ·exact .inr (.inr (.inr (.inl e))))
 have ns:New w sv (.slice (some ⟨g,0,none⟩) sl.length cap):=by
  intro k hk;simp only[Value.ownBlock,zyP]at hk;rcases aV with e|e
  ·exact .inl (by rw[e,hk])
  ·exact .inr (by omega)
 have nS:=h.klt;obtain ⟨vs,cK,aG⟩:=h.znV;refine ⟨bD,Did.up (h.up f1 (bD.set 1 _) ?_ ⟨vs,f0.gb cK (fun k hk he=>?_),aG.frz f0 hz (fun _ _ x=>x)⟩ ns (New.refl _ _) ?_) f1 ns (New.refl _ _)⟩
 ·have f3:Fr (fun k=>k=bb) w3 (w3.setCell ⟨bb,1,none⟩ (.slice (some ⟨g,0,none⟩) sl.length cap)):=(Fr.refl _ _).set _ _ (.inl rfl);exact f3.gb ai (fun k hk=>by simp only[Value.ownBlock,zyP]at hk;omega)
 ·rcases he with e|e
  ·exact h.kc.2 (by rw[hk,e])
  ·exact h.sk k e hk
 ·intro k hk e;simp only[Value.ownBlock,zyP]at hk;have:=nS k e;rcases aV with e2|e2
  ·exact h.sk k (by rw[e2,hk]) e
  ·omega
theorem zbn(h:BS Z w cb bb rv sv kv fns q)(hi:zo5 Z w v i)(hl:q.code.length<=1000000000)(aC:q.zac.length<=1000000000):
  Calls prog 145 #[.pointer (some ⟨bb,0,none⟩),v] w fun e w'=>e=.returned (.tuple #[])/\Did Z w cb bb rv sv kv fns (q.push i) w':=by
 obtain ⟨i0,dt,bq,aP,bF⟩:=info_parts zeR;have HI:=zab dt;clear dt;have HZ:=zab (And.intro bq (And.intro aP bF));clear bq aP bF;have CW:=zab (zbS h hi hl);clear h hi;go_enter func145,ntmps145
 go_wp2_with fail
 refine CW.o.mono ?_;rintro e w1 ⟨rfl,Z1,bh,bf,cA,aP,aA,f1,n1,n2,n3⟩;have HD:=zab (And.intro aP (And.intro f1 (And.intro n1 (And.intro n2 n3))));obtain ⟨sa,sn,sc,rfl⟩:=zaF aA.ziW;have cB:=zab aA;have c1:=Blk.cell aA.zbY 1;simp at c1;have cV:w1.heap.size≠bb:=by have:=aA.zbY.lt;omega
 have a1:(w1.alloc (.cells #[.string ⟨#[]⟩] 9)).drew.cell? ⟨bb,1,none⟩=some (.slice sa sn sc):=by
  have:=Blk.cell (Fr.blk (K:=fun _=>False) aA.zbY ((Fr.refl _ _).alloc (.cells #[.string ⟨#[]⟩] 9)).drew (by simp)) 1;simpa using this
 clear aP aA f1 n1 n2 n3 CW;go_wp2_with fail
 go_region_law (first
  |(refine step_append_lies _ (by rfl) _ _ _ (by rfl) 0 9 i0 _ 1 16 underlying38 HI.o HZ.o.1 HZ.o.2.1 HZ.o.2.2 rfl (by omega) (.slice sa sn sc) q.zac.length (strCells q.zac) (by rfl) (Fr.gb (K:=fun _=>False) (w:=w1) (by first|exact ((Fr.refl _ _).alloc _).drew|exact (Fr.refl _ _).drew.alloc _) cB.o.ziW (by simp)) ⟨w1.heap.size,0,none⟩ 1 1 [.string ⟨#[]⟩] (by rfl) (by rfl) (World.news_of_block (cs:=#[.string ⟨#[]⟩]) (t:=9) (fr:=(0,0)) (heap_alloc_new w1 _)) (by simp[Value.oneCell']) (by omega) (by unfold maxLen;omega) (by omega) (zy5 _) (w1.heap.size+1) (by simp) ?_;intro g cap w3 ai ah aV aj;have AD:=zab (cB.o.zuu (g:=g) (n':=q.zac.length+1) (cap:=cap) (sl:=q.zac++[[]]) (by first|exact ((Fr.refl _ _).alloc _).drew|exact (Fr.refl _ _).drew.alloc _) (by simp[]) (by simpa [strCells] using ai) ah (by rcases aV with e|e;exact .inl e;exact .inr (by omega)));have d1:=Blk.cell AD.o.1 1;have df:=Blk.frozen AD.o.1 1;simp at d1;clear ai ah aV aj)
  |(go_simp;go_wp2_with (go_at_call 155;refine (zdV _).mono ?_;rintro e w2 ⟨rfl,aB⟩;subst w2)))
 all_goals
  first|go_end0|refine bodyPost_ret (results_none rfl _ _ _) rfl ?_
  exact ⟨rfl,Did.trans HD.o.1 HD.o.2.1 HD.o.2.2.1 HD.o.2.2.2.1 HD.o.2.2.2.2 AD.o.2⟩
variable {n:Nat}
theorem zql{d:Nat}(hd:d<=cap):∀ W:World,(Instr.slice 38 (.slice (some ⟨g,0,none⟩) n cap) none (some (.int .i64 (d:Int))) none).run prog W=.ok (.slice (some ⟨g,0,none⟩) d cap) W:=by
 intro W;rw[run_slice_h W 38 _ _ _ underlying38 .i64 _ (by omega) (by omega)];have e3:prog.elem 38=9:=by kernel_rfl
 rw[e3,sizeOf9];simp[Result.andThen,sliced,zbe]
theorem zvm:∀ W:World,(Instr.slice 38 (.slice none 0 0) none (some (.int .i64 0)) none).run prog W=.ok (.slice none 0 0) W:=by
 intro W;rw[run_slice_h W 38 _ _ _ underlying38 .i64 _ (by omega) (by omega)];have e3:prog.elem 38=9:=by kernel_rfl
 rw[e3,sizeOf9];simp[Result.andThen,sliced]
theorem BS.drew{Z:Nat->Prop}{w:World}{cb bb:Nat}{rv sv kv:Value}{fns:List Cp.Nm}{q:Cp.Bs}(h:BS Z w cb bb rv sv kv fns q):BS Z w.drew cb bb rv sv kv fns q:=by
 have f0:Fr (fun _=>False) w w.drew:=(Fr.refl _ _).drew;have hz:∀ k,k<w.heap.size->Z k->¬ False:=fun _ _ _ h=>h
 obtain ⟨fv,bH,bT⟩:=h.zkt;obtain ⟨cP,dd,cg,jc⟩:=h.zkI;obtain ⟨vs,cK,aG⟩:=h.znV;exact ⟨⟨fv,bH,bT.frz f0 hz (fun _ _ x=>x)⟩,h.zbY,⟨cP,dd,f0.gb cg (by simp),fun i b cv h1 h2=>(jc i b cv h1 h2).frz f0 hz (fun _ _ x=>x)⟩,f0.gb h.ziW (by simp),⟨vs,f0.gb cK (by simp),aG.frz f0 hz (fun _ _ x=>x)⟩,h.zlt,h.zk,h.ne,h.rc,h.sc,h.kc,h.rs,h.rk,h.sk⟩
theorem Did.drew{Z:Nat->Prop}{w w':World}{cb bb:Nat}{rv sv kv:Value}{fns:List Cp.Nm}{q:Cp.Bs}(h:Did Z w cb bb rv sv kv fns q w'):Did Z w cb bb rv sv kv fns q w'.drew:=by
 obtain ⟨Z',aO,sv',bG,h1,h2,h3,h4,h5,h6⟩:=h;exact ⟨Z',aO,sv',bG,h1,h2.drew,h3.drew,h4,h5,h6⟩
variable {c:Nat}{sv':Value}
theorem BS.cut(h:BS Z w cb bb rv sv kv fns q)(hs:w.ownsRow 0 9 1 sv' (q.drop c).zac.length (strCells (q.drop c).zac))(he:sv'.ownBlock=sv.ownBlock):Did Z w cb bb rv sv kv fns (q.drop c) (w.setCell ⟨bb,1,none⟩ sv'):=by
 have f0:Fr (fun k=>k=bb) w (w.setCell ⟨bb,1,none⟩ sv'):=(Fr.refl _ _).set _ _ (.inl rfl);have f1:Fr (fun k=>k=bb\/sv.ownBlock=some k\/kv.ownBlock=some k) w (w.setCell ⟨bb,1,none⟩ sv'):=f0.mono (fun k e=>.inl e);have hz:∀ k,k<w.heap.size->Z k->¬ (k=bb):=fun k _ hk he=>h.zk k hk (.inr (.inl he))
 have ns:New w sv sv':=fun k hk=>.inl (by rw[<-he];exact hk)
 obtain ⟨vs,cK,aG⟩:=h.znV;exact Did.up (h.up f1 (h.zbY.set 1 _) (f0.gb hs (fun k hk e=>h.sc.2 (by rw[<-he,hk,e]))) ⟨vs,f0.gb cK (fun k hk e=>h.kc.2 (by rw[hk,e])),aG.frz f0 hz (fun _ _ x=>x)⟩ ns (New.refl _ _) (fun k hk=>h.sk k (by rw[<-he];exact hk))) f1 ns (New.refl _ _)
theorem zeg(h:BS Z w cb bb rv sv kv fns q)(aC:q.zac.length<=1000000000)(hc:c<=q.zac.length):
  Calls prog 166 #[.pointer (some ⟨bb,0,none⟩),.int .i64 c] w fun e w'=>e=.returned (.tuple #[])/\Did Z w cb bb rv sv kv fns (q.drop c) w':=by
 have HH:=zab h;have c1:=Blk.cell h.zbY 1;simp at c1;have df:=Blk.frozen h.zbY 1;rcases zan (Row.zaE h.ziW) with hv|⟨g,cap,hv⟩
 ·subst hv;have hlen:q.zac.length=0:=by
   rcases h.ziW.2 with ⟨_,h0⟩|⟨_,_,_,h0,_⟩
   ·exact h0
   ·cases h0
  obtain rfl:c=0:=by omega
  have py:=zvm;have GO:IntKind.i64.wrap 0=0:=by decide
  have HF:=zab (HH.o.cut (c:=0) (sv':=.slice none 0 0) (by simpa [Cp.Bs.drop] using h.ziW) rfl);clear h hlen;go_enter func166,ntmps166
  go_wp2_with fail
  go_region_law (fail)
  all_goals
   first|go_end0|refine bodyPost_ret (results_none rfl _ _ _) rfl ?_
   exact ⟨rfl,HF.o.drew⟩
 ·subst hv;obtain ⟨d,hd⟩:∃ d,q.zac.length=d+c:=⟨q.zac.length-c,by omega⟩;have pg:IntKind.i64.wrap ((d:Int)+(c:Int)-(c:Int))=(d:Int):=by rw[zbc _ (by omega) (by omega)];omega
  have kS:d<=cap:=by
   rcases h.ziW.2 with ⟨h0,_⟩|⟨_,_,_,h0,_,_,hn,_⟩
   ·cases h0
   ·cases h0;omega
  rw[hd]at c1;have py:=zql (g:=g) (n:=d+c) kS;have oh:IntKind.i64.wrap (d:Int)=(d:Int):=zbc _ (by omega) (by omega);have e1:(q.drop c).zac.length=d:=by simp[Cp.Bs.drop];omega
  have HF:=zab (HH.o.cut (c:=c) (sv':=.slice (some ⟨g,0,none⟩) d cap) (by
   have:=zg6 h.ziW (i:=d) (by omega);rw[e1];have e2:strCells (q.drop c).zac=(strCells q.zac).take d:=by simp[Cp.Bs.drop,strCells,hd]
   rw[e2];exact this) rfl)
  clear h;go_enter func166,ntmps166
  go_wp2_with fail
  go_region_law (fail)
  all_goals
   first|go_end0|refine bodyPost_ret (results_none rfl _ _ _) rfl ?_
   exact ⟨rfl,HF.o.drew⟩
end Go.Proofs.YtgahgkddaljmkaaGreatDoor
namespace Go.Proofs.YtgahgkddaljmkaaGreatDoor
open Tryz
open Go.RowKit Go.Shelf
attribute [local go_sem] Oper.semAt_some
def zrT (P:Program) (l:Nat) (R:Ending->World->Prop):Exit->Act->World->Prop
 |.normal,_,w=>∃ v w',(Instr.endRound l none).run P w=.ok v w'/\R (.returned v) w'
 |.panic chain,a,w=>a.defers=[]/\R (.panicked chain) w
 |_,_,_=>False
variable {n:Nat}{P:Program}{w:World}
theorem zkH{F:Fence}{l:Nat}{f:FuncId}{fn:Func}{tmps:Array Value}{assign body:Code}{R:Ending->World->Prop}(hF:F.fn f)(fj:P.funcs[f]?=some fn)(h:assign.wpIn (F.inRound l) n P (Exit.then (fun a₁ w₁=>∃ w₂,(Instr.beginRound l).run P w₁=.ok () w₂/\body.wpIn (F.inRound l) n P (zrT P l R) a₁ w₂) (fun _ _ _=>False))
   { tmps:=tmps,defers:=[] } w):
  RoundIn F n P l f tmps assign body w R:=by
 refine ⟨hF,fun c cs hr=>?_⟩
 let b:Frame:={ (default:Frame) with fn:=f,kind:=.normal,roundOf:=some l }
 have kf:Frame.round l f tmps assign body .normal=b.atR { tmps:=tmps,defers:=[] } [.code assign,.beginRound,.code body]:=by
  simp[Frame.round,Frame.atR,b]
 have ju:(F.inRound l).room ((c::cs).length+1+n):=hr;have rC:(F.inRound l).fn b.fn:=hF;obtain ⟨e,a₁,w₁,hq,bj⟩:=h b [.beginRound,.code body] (c::cs) rfl rC ju;rw[<-kf]at bj;cases e with
 |normal=>
  obtain ⟨w₂,pT,iE⟩:=hq;have s1:StepsIn (Machine.fenced P (F.inRound l)) P (lone (b.atR a₁ [.beginRound,.code body]) (c::cs) w₁) (lone (b.atR a₁ [.code body]) (c::cs) w₂):=
   .one (fenced_calm (fr:=b.atR a₁ [.beginRound,.code body]) rC ju rfl) (stepR_beginRound rfl pT)
  obtain ⟨e₂,a₂,w₃,hq₂,harr₂⟩:=iE b [] (c::cs) rfl rC ju;cases e₂ with
  |normal=>
   obtain ⟨v,w₄,cJ,hR⟩:=hq₂;exact ⟨.returned v,w₄,hR,(StepsIn.trans bj s1).trans (StepsIn.trans harr₂ (.one (fenced_calm (fr:=b.atR a₂ []) rC ju rfl) (stepR_round_end rfl rfl cJ)))⟩
  |panic chain=>
   obtain ⟨hd,hR⟩:=hq₂;obtain ⟨todo,hs⟩:=harr₂;have fM:({ b.atR a₂ todo with mode:=.panicking chain }:Frame).leaving P w₃ (.panicked chain):=⟨rfl,hd,fn,fj⟩;exact ⟨.panicked chain,w₃,hR,(StepsIn.trans bj s1).trans (StepsIn.trans hs (.one (fenced_leaving (fr:={ b.atR a₂ todo with mode:=.panicking chain }) rC ju fM) (step_leave_panicked fM)))⟩
  |ret=>exact hq₂.elim
  |exit id=>exact hq₂.elim
  |goto t=>exact hq₂.elim
  |outgrown=>exact hq₂.elim
 |exit id=>exact hq.elim
 |goto t=>exact hq.elim
 |ret=>exact hq.elim
 |panic chain=>exact hq.elim
 |outgrown=>exact hq.elim
theorem zcY{l:Nat}{f:FuncId}{args:Array Value}{R:Ending->World->Prop}(h:Calls P f args w R):CallsIn (Fence.wide.inRound l) n P f args w R:=
 ⟨trivial,fun cs _=>let ⟨e,w',fr,r,s,x⟩:=h cs;⟨e,w',fr,r,comesIn_wide.2 s,x⟩⟩
theorem zsj(l Bn cb cap:Nat)(vs:List Value)(dJ:vs.length<=1000000000)(J:Nat->World->Prop)(Jx:List PanicEntry->World->Prop)(hY:∀ i v W,J i W->vs[i]?=some v->YieldAt Fence.wide 0 prog l #[v] W fun e W'=>(e=.returned (.bool true)/\J (i+1) W')\/(∃ ch,e=.panicked ch/\Jx ch W'))(hJc:∀ i W,J i W->W.cell? ⟨Bn,0,none⟩=some (.slice (some ⟨cb,0,none⟩) vs.length cap)/\∀ j v,vs[j]?=some v->W.cell? ⟨cb,j,none⟩=some v)(W:World)(h0:J 0 W):
  CallsIn Fence.wide 1 prog 206 #[.func (.yield l) #[] #[],.pointer (some ⟨Bn,0,none⟩)] W fun e W'=>(∃ v,e=.returned v/\J vs.length W')\/(∃ ch,e=.panicked ch/\Jx ch W'):=by
 have HY:=zab hY;have lT:=zab hJc;clear hY hJc;have c0:=(lT.o 0 W h0).1;have qx:=zab h0;clear h0;refine callsIn_of_wp func206 rfl trivial ?_ rfl;simp only[ntmps206,zzr,zy8,zzm,Nat.reduceAdd,Nat.reduceSub,zzB,zzC,zzH,zzE,zzb,zy7]
 gi_wp2
 gi_loopw [7] (fun i wr=>∃ k:Nat,i=.int .i64 k/\k<=vs.length/\Hid (J k wr)) (fun i _=>vs.length+1-(intOf i).toNat)
 case atStart=>exact ⟨0,rfl,zy5 _,qx⟩
 case round=>
  obtain ⟨k,rfl,hk,hJ⟩:=hrel;by_cases aj:k<vs.length
  ·have gu:(k:Int)<(vs.length:Int):=by omega
   have dF:(0:Int)<=(k:Int):=by omega
   obtain ⟨v,hv⟩:∃ v,vs[k]?=some v:=⟨_,zyM aj⟩;have cv:=(lT.o k wr hJ.o).2 k v hv;obtain ⟨fn,tmps,assign,body,hy,hR⟩:=HY.o k v wr hJ.o hv;have HR:=zab hR;have HV:=zab hv;clear hR hv c0
   gi_wp2
   refine HR.o.mono ?_;rintro e w3 (⟨rfl,gP⟩|⟨ch,rfl,hx⟩)
   ·have iu:=zab gP;clear gP hy HR cv
    gi_wp2
    go_roundw
    case rel=>exact ⟨k+1,by go_num,by omega,iu⟩
    case measure=>
     simp[intOf];omega
   ·exact ⟨rfl,.inr ⟨ch,rfl,hx⟩⟩
  ·have gu:¬ (k:Int)<(vs.length:Int):=by omega
   have nQ:k=vs.length:=by omega
   have iu:Hid (J vs.length wr):=by rw[<-nQ];exact hJ
   clear nQ c0
   gi_wp2
   first|go_end0|refine bodyPost_ret (results_none rfl _ _ _) rfl ?_
   exact .inl ⟨⟨_,rfl⟩,iu.o⟩
end Go.Proofs.YtgahgkddaljmkaaGreatDoor
