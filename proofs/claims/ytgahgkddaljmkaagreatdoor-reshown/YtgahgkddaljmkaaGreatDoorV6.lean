/- Iter2 .. Mach37 -/
import Derived.Test.YtgahgkddaljmkaaGreatDoorV5
import Derived.Shelf.Spec.SlicesGrow
set_option maxRecDepth 100000
set_option maxHeartbeats 4000000
namespace Go.Proofs.YtgahgkddaljmkaaGreatDoor
open Tryz Th Cp
open Go.RowKit Go.Shelf
attribute [local go_sem] Oper.semAt_some
theorem zxt:(prog.info? 135).map (λi=>(i.zero,i.size,i.bytes))=some (some (.agg #[.int .i64 0,.string ⟨#[]⟩,.int .i64 0]),3,32):=by kernel_rfl
variable {P:Program}
theorem zq9(w:World)(base:Nat)(t ty e:TypeId)(i:TypeInfo)(z:Value)(bytes:Nat)(ht:P.underlying t=some (.slice e))(hi:P.info? e=some i)(hz:i.zero=some z)(iO:i.size=3)(uG:i.bytes=bytes)(yq:z.cells.size=3)(v:Value)(n:Nat)(xs:List Value)(ai:w.ownsRow base e 3 v n xs)(ck:v=.slice none 0 0\/1<=n)(a:Addr)(c:Nat)(news:List Value)(hl:news.length=1*3)(jK:∀j u,news[j]?=some u->w.cell? (a.add j)=some u)(h1:∀u∈news,u.oneCell'=true)(uC:n+1<=maxLen)(gQ:(n+1)*bytes<=140737488355328)(kO:base<=w.heap.size):
  ∃v' w',(Builtin.append_ #[t,t] ty #[v,.slice (some a) 1 c]).run P w=.ok v' w'/\w'.ownsRow base e 3 v' (n+1) (xs++news)/\w.grownBy w' v.ownBlock/\(v'=.slice none 0 0↔v=.slice none 0 0/\1=0) /\
   (∀(b:Nat)(cs:Array Value),w.heap[b]?=some (.cells cs e (0,0))->cs.size=3->w'.heap[b]?=some (.cells cs e (0,0))):=by
 obtain⟨v',w',hr,h2,h3,h4⟩:=run_append_own (P:=P) w base t ty e i z 3 bytes ht hi hz iO uG yq (by omega) v n xs ai a 1 c news hl jK h1 uC gQ kO;refine⟨v',w',hr,h2,h3,h4,λb cs hb aE=>?_⟩;have aj:b<w.heap.size:=(Nz.1 hb).1;by_cases hv:some b=v.ownBlock
 .rcases ai.2 with⟨rfl,_⟩|⟨g,cap,cur,rfl,rR,hg,o6,lY,fK,AQ⟩
  .simp[Value.ownBlock]at hv
  .simp only[Value.ownBlock,IA]at hv;subst hv;rw[hg]at hb;simp only[IA,Obj.cells.injEq]at hb;have kS:cap=1:=by rw[<-hb.1,fK]at aE;omega
   rcases ck with ck|ck
   .cases ck
   .have holds:∀j u,xs[j]?=some u->w.cell? ((⟨b,0,none⟩:Addr).add j)=some u:=ai.cells (g:=b) rfl;have cg:=run_append_grow (P:=P) w t ty e i z ht hi hz ⟨b,0,none⟩ n cap xs (by rw[iO];exact ai.1) holds a 1 c news (by rw[iO];exact hl) jK (by omega) (by unfold maxLen at uC;omega) (growslice_fits (by omega) (by rw[uG];exact gQ));rw[cg]at hr;simp only[Result.ok.injEq]at hr;rw[<-hr.2];exact(Below.heap_alloc w.drew _ b aj).trans (by rw[<-hb.1];exact hg)
 .rw[h3.block b aj hv];exact hb
variable {a:Act}{Q:Exit->Act->World->Prop}
theorem zgH{F:Fence}{nF:Nat}(w:World){ops:Array Oper}{rest:List Oper}{o:Oper}(oY:o.guard=none)(s x:Operand)(t:TypeId)(ho:o.op=.call { callee:=.builtin .append,args:=#[s,x],argTypes:=#[t,t] })(base:Nat)(e:TypeId)(i:TypeInfo)(z:Value)(bytes:Nat)(ht:P.underlying t=some (.slice e))(hi:P.info? e=some i)(hz:i.zero=some z)(iO:i.size=3)(uG:i.bytes=bytes)(yq:z.cells.size=3)(v:Value)(n:Nat)(xs:List Value)(hs:a.eval s=v)(ai:w.ownsRow base e 3 v n xs)(ck:v=.slice none 0 0\/1<=n)(ad:Addr)(c:Nat)(news:List Value)(hx:a.eval x=.slice (some ad) 1 c)(hl:news.length=1*3)(jK:∀j u,news[j]?=some u->w.cell? (ad.add j)=some u)(h1:∀u∈news,u.oneCell'=true)(uC:n+1<=maxLen)(gQ:(n+1)*bytes<=140737488355328)(kO:base<=w.heap.size)(h:∀v' w',w'.ownsRow base e 3 v' (n+1) (xs++news)->w.grownBy w' v.ownBlock ->
   (∀(b:Nat)(cs:Array Value),w.heap[b]?=some (.cells cs e (0,0))->cs.size=3->w'.heap[b]?=some (.cells cs e (0,0)))->wpListIn F nF P ops Q rest (a.put o.dst v') w'):
  wpListIn F nF P ops Q (o::rest) a w:=by
 refine wpListIn_plain oY λK hK=>?_
 obtain⟨v',w',hr,h2,h3,h4,h5⟩:=zq9 (P:=P) w base t o.type e i z bytes ht hi hz iO uG yq v n xs ai ck ad c news hl jK h1 uC gQ kO;unfold Oper.wpIn;refine⟨by simp[Oper.about,ho,resolve,Target.leads,Sem.run_pure],?_⟩;rw[Oper.semAt_plain F _ _ (by rw[ho];intro c eV;cases eV)];simp[execOp,ho,resolve,invoke,builtin,hs,hx,hr,Result.andThen];exact hK _ _ (h v' w' h2 h3 h5)
variable {n₀ Bn:Nat}
theorem V5{A B C:World}(h:TJ n₀ Bn A B)(k:TJ n₀ Bn B C):TJ n₀ Bn A C:=⟨h.1.trans k.1,k.2.1.trans h.2.1,λb cs hb hc=>k.2.2 b cs (h.2.2 b cs hb hc) hc⟩
variable {w:World}
theorem V4(hn:n₀<=w.heap.size)(hB:Bn<w.heap.size)(W:World)(l:Nat)(o o':Obj)(hl:w.heap.size<=l)(h:W.heap[l]?=some o)(hc:o.isCells=false)(hw:o.isWalk=false):TJ n₀ Bn W (W.putObj l o'):=by
 refine⟨belowK_b hn W l o o' hl h hc hw,World.putObj_heap_other (by omega),λb cs hb _=>?_⟩;have aH:b≠l:=by intro e;subst e;rw[h]at hb;cases hb;cases hc
 rw[World.putObj_heap_other aH];exact hb
theorem ztl(W:World)(hn:n₀<=W.heap.size)(hB:Bn<W.heap.size)(o:Obj):TJ n₀ Bn W (W.alloc o):=
 ⟨(Below.refl n₀ W).alloc hn o,Below.heap_alloc _ _ _ hB,λb cs hb _=>by rw[Below.heap_alloc _ _ _ (Nz.1 hb).1];exact hb⟩
variable {row:Option Nat}
theorem oH.own(Bx:Nat)(vs:List Value)(t:TypeId){X Y:World}(h:oH X Bx vs t)(hg:X.grownBy Y row)(hr:∀r,row=some r->∃o:Obj,X.heap[r]?=some o/\o.isCells=false):oH Y Bx vs t:=by refine h.grown hg (λe=>?_);obtain⟨o,ho,hc⟩:=hr Bx e.symm;unfold oH at h;rw[h]at ho;cases ho;cases hc
theorem zk3(l:List Tok)(t:Tok):P5 (l++[t])=P5 l++RE t:=by simp[P5]
theorem zxX(t:Tok):∀u∈RE t,u.oneCell'=true:=by intro u hu;simp only[RE,Mz,PV,qT]at hu;rcases hu with rfl|rfl|rfl<;>rfl
theorem zuG(n:Nat)(s:ByteArray)(w:World):
  CallsIn Fence.wide n prog 114 #[.string s] w λe w'=>e=.returned (.func (.func 187) #[] #[.pointer (some ⟨w.heap.size,0,none⟩)])/\w'=w.alloc (.cells #[.string s] 9):=by
 refine Jg func114 rfl trivial ?_ rfl;simp only[ntmps114,O3,Kh,My,Nat.reduceAdd,Nat.reduceSub,QX,QY,Q0,QZ,MQ,MP]
 gi_wp2
 go_ret;exact⟨rfl,rfl⟩
theorem UI:∀(f:Nat)(t:List UInt8)(p:Nat),(Th.ME f t p).length<=f+1
 |0,_,_=>by simp[Th.ME]
 |f+1,t,p=>by
  rw[zoN];simp only[Kh];split
  .simp
  .have:=UI f ((t.drop (t.takeWhile Mh).length).drop (Th.first (t.drop (t.takeWhile Mh).length)).2.length) (p+(t.takeWhile Mh).length+(Th.first (t.drop (t.takeWhile Mh).length)).2.length);omega
theorem zrh(s:ByteArray)(w:World)(hs:s.size<=600):
  CallsIn Fence.wide 5 prog 66 #[.string s] w λe w'=>∃v,e=.returned v/\w'.ownsRow w.heap.size 135 3 v (Mr s).length (P5 (Mr s))/\Below w.heap.size w w':=by
 have Gt:(Mr s).length<=602:=by have:=UI (s.size+1) s.data.toList 0;unfold Mr;omega
 obtain⟨i0,hi,bq,aP,bF⟩:=nC zxt;have HI:=eu hi;clear hi;have HZ:=eu (kK bq (kK aP bF));clear bq aP bF;refine callsIn_of_wp_marks func66 rfl trivial ?_ rfl;simp only[ntmps66,O3,Kh,My,Nat.reduceAdd,Nat.reduceSub,QX,QY,Q0,QZ,MQ,MP]
 gi_wp2
 refine⟨trivial,?_⟩;refine(zuG 4 s _).mono ?_;rintro e w1⟨rfl,rfl⟩
 gi_wp2
 have bO:=Boxed.new w 129 (.slice none 0 0);have bN:=Boxed.new (w.alloc (.cells #[.slice none 0 0] 129)) 9 (.string s);simp only[gM]at bN|-;have nH:Below w.heap.size w ((w.alloc (.cells #[.slice none 0 0] 129)).alloc (.cells #[.string s] 9)):=((Below.refl _ w).alloc (qP _) _).alloc (by simp) _;have zq:=bO.alloc (.cells #[.string s] 9);have cT:((w.alloc (.cells #[.slice none 0 0] 129)).alloc (.cells #[.string s] 9)).heap.size=w.heap.size+2:=by simp
 obtain⟨W0,rL⟩:∃W0,(w.alloc (.cells #[.slice none 0 0] 129)).alloc (.cells #[.string s] 9)=W0:=⟨_,rfl⟩;rw[rL]at zq bN nH cT|-;clear rL bO;refine wpIn_rangeFunc_ownH rfl (by omega) (gf:=187) (lb:=#[.pointer (some ⟨w.heap.size+1,0,none⟩)]) rfl trivial (enters_of func187 (by kernel_rfl) rfl)
  (encs:=λx:Tok=>#[Xu x]) (Kp:=TJ w.heap.size (w.heap.size+1)) (S:=λys=>ys=Mr s) (Sp:=λpre=>pre <+: Mr s) (N:=(Mr s).length) (w0:=W0)
  (λl J Jx W hW hJ wS hY h0=>zsc _ (by omega) l (w.heap.size+1) w.heap.size s hs J Jx hY W (by have:=hW.size;omega) hJ ((hW.cell (p:=⟨w.heap.size+1,0,none⟩) (by simp;omega)).trans bN.cell) h0)
  V5 (V4 (by omega) (by omega)) (Below.refl _ _) (λ_=>rfl)
  (λpre W=>(∃v,Boxed W w.heap.size 129 v/\W.ownsRow w.heap.size 135 3 v pre.length (P5 pre)/\(v=.slice none 0 0↔pre=[]))/\(Below w.heap.size w W/\Boxed W (w.heap.size+1) 9 (.string s)))
  (λ_ _ _=>False)
  (OwnFrom.and (Own.from (holdsRow_own w.heap.size w.heap.size 129 135 3 (λpre:List Tok=>pre.length) (λpre=>P5 pre) (λpre v=>v=.slice none 0 0↔pre=[])) _) (OwnFrom.and (ownFrom_below (qP _) (by omega)) (Own.from (boxed_own _ _ _) _)))
  (λ_ _ _ _ _ hs _ _=>hs)
  ⟨⟨_,zq,kt _ _ _ _,by simp⟩,nH,bN⟩
  (λx a' W=>∃Bx,w.heap.size+1<Bx/\oH W Bx (RE x) 135/\a'={ tmps:=#[.string s,undef,.slice none 0 0,.pointer (some ⟨w.heap.size,0,none⟩),.pointer (some ⟨Bx,0,none⟩),.string s,.func (.func 187) #[] #[.pointer (some ⟨w.heap.size+1,0,none⟩)],Xu x,undef,undef,undef,undef,undef],defers:=[] })
  (λx a' _ X Y row hs hg hr=>by obtain⟨Bx,h1,h2,h3⟩:=hs;exact⟨Bx,h1,h2.own _ _ _ hg (λr e=>(hr r e).2),h3⟩)
  ?assign ?body ?done ?stop
 case assign=>
  rintro l pre x W K⟨⟨v,hv,af,ck⟩,⟨cU,eG⟩⟩hK;unfold Xu at *
  gi_wp2
  exact hK _ _ ((KeepsOthers.alloc _ _).from _) (ztl W cU.size eG.lt _) ⟨⟨v,hv.alloc _,af.alloc _,ck⟩,cU.alloc cU.size _,eG.alloc _⟩ ⟨W.heap.size,eG.lt,gH W _ _,rfl⟩
 case body=>
  rintro l pre x a' W hl⟨r,hr⟩⟨⟨v,hv,af,ck⟩,⟨cU,eG⟩⟩⟨Bx,Gp,bX,rfl⟩aj;have hc:=hv.cell;have x0:=bX.cell 0;have x1:=bX.cell 1;have x2:=bX.cell 2;simp[RE]at x0 x1 x2;have gK:pre.length<=602:=by omega
  have cR:v=.slice none 0 0\/1<=pre.length:=by
   by_cases he:pre=[]
   .exact .inl (ck.2 he)
   .exact .inr (Qw.2 he)
  gi_wp2_with (gi_at_builtin;refine zgH _ rfl _ _ 129 rfl w.heap.size 135 i0 _ 32 underlying129 HI.o HZ.o.1 HZ.o.2.1 HZ.o.2.2 rfl _ pre.length (P5 pre) rfl (af.alloc _) cR ⟨W.heap.size,0,none⟩ 1 (RE x) rfl rfl (World.news_of_block (cs:=#[.int .i64 x.k,.string ⟨x.s.toArray⟩,.int .i64 x.at_]) (t:=135) (fr:=(0,0)) (heap_alloc_new W _)) (zxX x) (by unfold maxLen;omega) (by omega) (by have:=cU.size;simp;omega) ?_;intro v' w1 dR ah h5;obtain⟨g',dU,rfl⟩:=ownsRow_succ dR;obtain⟨qg,Fl,cg,aG,aw⟩:=hv.appended (by decide) af cU.size (qP _) dR ah;have bH:=qg.cell;have l8:=qg.frozen)
  refine⟨aG.from _,⟨aw,?_,?_⟩,⟨_,Fl,?_,?_⟩,cU.trans aw,?_⟩
  .rw[Below.heap_setCell _ _ _ _ (by simp),ah.block _ (by simp;have:=eG.lt;omega) (eG.not_row (by decide) af),Below.heap_alloc _ _ _ eG.lt]
  .intro b cs hb aE;have aH:b≠w.heap.size:=by
    intro e;subst e;rw[show W.heap[w.heap.size]?=_ from hv]at hb;cases hb
   rw[Below.heap_setCell _ _ _ _ aH];exact h5 b cs (by rw[Below.heap_alloc _ _ _ (Nz.1 hb).1];exact hb) aE
  .rw[zk3,IJ];exact cg
  .simp
  .exact((eG.alloc _).kept ah (eG.not_row (by decide) af)).other (by omega) _
 case done=>
  rintro D ys W hD rfl⟨⟨v,hv,af,ck⟩,⟨hB,_⟩⟩hK;have hc:=hv.cell
  gi_wp2
  refine⟨by simp,.inl ⟨_,_,rfl,run_takeDeferred hK,?_⟩⟩;exact⟨_,results_tmp rfl _ _ _,v,rfl,ownsRow_putObj af _ hK rfl,hB.trans (belowK_b (w:=w) (qP _) W D _ _ (by omega) hK rfl rfl)⟩
 case stop=>rintro D c pre W _ _ h _;exact h.elim
theorem zri:znl:=λs w hs=>callsIn_wide.1 (zrh s w hs)
end Go.Proofs.YtgahgkddaljmkaaGreatDoor
namespace Go.Proofs.YtgahgkddaljmkaaGreatDoor
open Tryz Th Cp
open Go.RowKit
def strCells (l:List (List UInt8)):List Value:=l.map λs=>.string ⟨s.toArray⟩
def after (o:Option Nat) (l:List Nat):Option Nat:=match o with|some p=>some p|none=>l.head?
theorem RG(o:Option Nat):after o []=o:=by cases o<;>rfl
theorem Qh(o:Option Nat)(a b:List Nat):after o (a++b)=after (after o a) b:=by
 cases o with
 |some p=>rfl
 |none=>cases a<;>rfl
def Mo (w:World) (c:Nat) (o:Option Nat):Prop:=oH w c [.bool o.isSome,.int .i64 (o.getD 0)] 140
variable {w w':World}{c:Nat}{o row:Option Nat}
theorem Mo.gb(h:Mo w c o)(hg:w.grownBy w' row)(hr:some c≠row):Mo w' c o:=IN h hg hr
theorem Mo.below{w w':World}{c:Nat}{o:Option Nat}(h:Mo w c o)(hb:Below w.heap.size w w'):Mo w' c o:=oH.below h hb (oH.lt h)
theorem Mo.lt{w:World}{c:Nat}{o:Option Nat}(h:Mo w c o):c<w.heap.size:=oH.lt h
theorem znt(h:Mo w c o)(s:ByteArray)(p:Nat):
  Calls prog 120 #[.pointer (some ⟨c,0,none⟩),.agg #[.string s,.int .i64 p]] w λe w'=>e=.returned (.tuple #[])/\Mo w' c (after o [p])/\w.grownBy w' (some c):=by
 have hl:=h.lt;have c0:=al h 0;have c1:=al h 1;have f0:=ku h 0;have f1:=ku h 1;have H:=eu h;simp at c0 c1;clear h;cases o with
 |some q=>
  go_enter func120,ntmps120;go_wp2;go_end0
  exact⟨rfl,mr H.o _,IS _ _ _⟩
 |none=>
  go_enter func120,ntmps120;go_wp2;go_end0
  refine⟨rfl,?_,?_⟩
  .exact((xN H.o 0 (.bool true)).set 1 (.int .i64 p)).alloc _
  .exact qN (qN (MF _ _ _ _) (MF _ _ _ _)) (IS _ _ _)
variable {base g n cap:Nat}{e:TypeId}{xs:List Value}
theorem Xl{i:Nat}(h:w.ownsRow base e 1 (.slice (some ⟨g,0,none⟩) n cap) n xs)(hi:i<=n):w.ownsRow base e 1 (.slice (some ⟨g,0,none⟩) i cap) i (xs.take i):=by
 obtain⟨h1,h2⟩:=h;refine⟨by simp at h1|-;omega,?_⟩;rcases h2 with⟨h2,_⟩|⟨g',dU,cur,hv,hg,hh,hn,hm,hs,ht⟩
 .cases h2
 .cases hv;refine .inr ⟨g,cap,cur,rfl,hg,hh,by omega,hm,hs,?_⟩;rw[<-ht,U6];congr 1;omega
theorem znK(l:List (List UInt8))(x:ByteArray):Lib.containsS (l.map λs=>(⟨s.toArray⟩:ByteArray)) x=l.contains x.data.toList:=by
 rw[SV,Lib.containsS_iff];simp only[Ro,List.contains_iff_mem];constructor
 .rintro⟨s,hs,rfl⟩;simpa using hs
 .intro h;exact⟨x.data.toList,h,by cases x;simp⟩
variable {v:Value}{l:List (List UInt8)}
theorem WM(h:w.ownsRow base 9 1 v l.length (strCells l))(hl:l.length<=1000000)(x:ByteArray):
  Calls prog 119 #[v,.string x] w λe w'=>e=.returned (.bool (l.contains x.data.toList))/\w'=w:=by
 have h0:=h;rcases h.2 with⟨rfl,hn⟩|⟨g,cap,cur,rfl,hg,hh,hn,hm,hs,ht⟩
 .have:l=[]:=Pl.1 hn;subst this;exact(Tryz.slices_Contains_string_empty none 0 x w).mono λe w' hw=>by simpa using hw
 .refine(Tryz.slices_Contains_string g 0 l.length cap (l.map λs=>(⟨s.toArray⟩:ByteArray)) x w (by simp) (by omega) ?_).mono ?_
  .intro j hj;simp at hj;have:=h0.cellAt j (by omega);rw[On,this];simp[strCells,hj]
  .rintro e w'⟨rfl,rfl⟩;rw[N8 (by simp),znK];exact⟨rfl,rfl⟩
theorem YB(h:Mo w c o)(s:ByteArray)(p:Nat)(hr:w.ownsRow base 9 1 v l.length (strCells l))(hl:l.length<=1000000):
  Calls prog 69 #[.pointer (some ⟨c,0,none⟩),.agg #[.string s,.int .i64 p],v] w λe w'=>e=.returned (.tuple #[])/\Mo w' c (after o (if l.contains s.data.toList then[p]else[]))/\w.grownBy w' (some c):=by
 have H:=eu h;have da:=h.lt;have af:=hr.alloc (.cells #[.string s,.int .i64 p] 88);have gV:v=.slice none 0 0\/∃g cap,v=.slice (some ⟨g,0,none⟩) l.length cap:=Mq (lP hr);clear h hr;cases hc:l.contains s.data.toList
 .have HC:=eu hc;clear hc;rcases gV with rfl|⟨g,cap,rfl⟩
  all_goals
   go_enter func69,ntmps69;go_wp2_with fail;refine(WM af hl s).mono ?_;rintro e w1⟨rfl,rfl⟩;rw[HC.o];go_wp2;go_end0
   refine⟨rfl,?_,IS _ _ _⟩;simp only[RG];exact mr H.o _
 .have HC:=eu hc;clear hc;rcases gV with rfl|⟨g,cap,rfl⟩
  all_goals
   go_enter func69,ntmps69;go_wp2_with fail;refine(WM af hl s).mono ?_;rintro e w1⟨rfl,rfl⟩;rw[HC.o];go_wp2_with fail;refine(znt (mr H.o _) s p).mono ?_;rintro e w2⟨rfl,h2,aF⟩;have H2:=eu (kK h2 (qN (IS _ _ _) aF));clear h2 aF;go_wp2;go_end0
   exact⟨rfl,H2.o.1,H2.o.2⟩
theorem Yk:∀(l:List Tok)(i:Nat)(t:Tok),l[i]?=some t->(Ms l)[i*2]?=some (.string ⟨t.s.toArray⟩)/\(Ms l)[i*2+1]?=some (.int .i64 t.at_)
 |[],i,t,h=>by simp at h
 |x::l,0,t,h=>by simp only[Pk,IA]at h;subst h;exact⟨rfl,rfl⟩
 |x::l,i+1,t,h=>by
  have ih:=Yk l i t (by simpa using h);have e:∀c,(Ms (x::l))[(i+1)*2+c]?=(Ms l)[i*2+c]?:=by intro c;rw[show Ms (x::l)=Rc x++Ms l from rfl,Om (by simp[Rc];omega)];congr 1;simp[Rc];omega
  refine⟨?_,?_⟩
  .have:=e 0;simp only[PU]at this;rw[this];exact ih.1
  .rw[e 1];exact ih.2
theorem Tj:∀(l:List Tok)(vs:List Value)(i:Nat)(t:Tok)(v:Value),l[i]?=some t->vs[i]?=some v->(Ob l vs)[i*3]?=some (.string ⟨t.s.toArray⟩)/\(Ob l vs)[i*3+1]?=some (.int .i64 t.at_)/\(Ob l vs)[i*3+2]?=some v
 |[],_,i,t,v,h,_=>by simp at h
 |_::_,[],i,t,v,_,h=>by simp at h
 |x::l,y::vs,0,t,v,h,h2=>by simp only[Pk,IA]at h h2;subst h h2;exact⟨rfl,rfl,rfl⟩
 |x::l,y::vs,i+1,t,v,h,h2=>by
  have ih:=Tj l vs i t v (by simpa using h) (by simpa using h2);have e:∀c,(Ob (x::l) (y::vs))[(i+1)*3+c]?=(Ob l vs)[i*3+c]?:=by intro c;rw[Ob,Om (by simp;omega)];congr 1;simp;omega
  refine⟨?_,?_,?_⟩
  .have:=e 0;simp only[PU]at this;rw[this];exact ih.1
  .rw[e 1];exact ih.2.1
  .rw[e 2];exact ih.2.2
theorem W5:∀(l:List (Nat × List Tok))(ns vs:List Value)(i:Nat)(a:Nat × List Tok)(n v:Value),l[i]?=some a->ns[i]?=some n->vs[i]?=some v->(OF l ns vs)[i*3]?=some (.int .i64 a.1)/\(OF l ns vs)[i*3+1]?=some n/\(OF l ns vs)[i*3+2]?=some v
 |[],_,_,i,_,_,_,h,_,_=>by simp at h
 |_::_,[],_,i,_,_,_,_,h,_=>by simp at h
 |_::_,_::_,[],i,_,_,_,_,_,h=>by simp at h
 |x::l,m::ns,y::vs,0,a,n,v,h,h2,h3=>by simp only[Pk,IA]at h h2 h3;subst h h2 h3;exact⟨rfl,rfl,rfl⟩
 |x::l,m::ns,y::vs,i+1,a,n,v,h,h2,h3=>by
  have ih:=W5 l ns vs i a n v (by simpa using h) (by simpa using h2) (by simpa using h3);have e:∀c,(OF (x::l) (m::ns) (y::vs))[(i+1)*3+c]?=(OF l ns vs)[i*3+c]?:=by intro c;rw[OF,Om (by simp;omega)];congr 1;simp;omega
  refine⟨?_,?_,?_⟩
  .have:=e 0;simp only[PU]at this;rw[this];exact ih.1
  .rw[e 1];exact ih.2.1
  .rw[e 2];exact ih.2.2
theorem Vj:∀(l:List By)(ns vs:List Value)(i:Nat)(a:By)(n v:Value),l[i]?=some a->ns[i]?=some n->vs[i]?=some v->(OH l ns vs)[i*4]?=some (.string ⟨a.name.s.toArray⟩)/\(OH l ns vs)[i*4+1]?=some (.int .i64 a.name.at_)/\(OH l ns vs)[i*4+2]?=some n/\(OH l ns vs)[i*4+3]?=some v
 |[],_,_,i,_,_,_,h,_,_=>by simp at h
 |_::_,[],_,i,_,_,_,_,h,_=>by simp at h
 |_::_,_::_,[],i,_,_,_,_,_,h=>by simp at h
 |x::l,m::ns,y::vs,0,a,n,v,h,h2,h3=>by simp only[Pk,IA]at h h2 h3;subst h h2 h3;exact⟨rfl,rfl,rfl,rfl⟩
 |x::l,m::ns,y::vs,i+1,a,n,v,h,h2,h3=>by
  have ih:=Vj l ns vs i a n v (by simpa using h) (by simpa using h2) (by simpa using h3);have e:∀c,(OH (x::l) (m::ns) (y::vs))[(i+1)*4+c]?=(OH l ns vs)[i*4+c]?:=by intro c;rw[OH,Om (by simp;omega)];congr 1;simp;omega
  refine⟨?_,?_,?_,?_⟩
  .have:=e 0;simp only[PU]at this;rw[this];exact ih.1
  .rw[e 1];exact ih.2.1
  .rw[e 2];exact ih.2.2.1
  .rw[e 3];exact ih.2.2.2
theorem RR:(prog.info? 9).map (λi=>(i.zero,i.size,i.bytes))=some (some (.string ⟨#[]⟩),1,16):=by kernel_rfl
theorem Xg(l:List (List UInt8))(s:List UInt8):strCells (l++[s])=strCells l++[.string ⟨s.toArray⟩]:=by simp[strCells]
theorem PH{α:Type}{l:List α}{k:Nat}{t:α}(h:l[k]?=some t):l.take (k+1)=l.take k++[t]:=by rw[T9,h];rfl
variable {S:Nat->Prop}
theorem W7{nv:Value}{l:List Tok}(hr:Row S w 88 2 nv l.length (Ms l))(hl:l.length<=1000000):
  Calls prog 52 #[nv] w λe w'=>∃v,e=.returned v/\w'.ownsRow w.heap.size 9 1 v l.length (strCells (texts l))/\Below w.heap.size w w':=by
 obtain⟨i0,hi,bq,aP,bF⟩:=nC RR;have HI:=eu hi;clear hi;have HZ:=eu (kK bq (kK aP bF));clear bq aP bF;have HR:=eu hr;rcases Mq hr with hv|⟨g,cap,hv⟩
 .have da:l=[]:=by
   rcases hr.1.2 with⟨_,h0⟩|⟨_,_,_,h0,_⟩
   .exact Pl.1 h0
   .rw[hv]at h0;cases h0
  subst hv da;clear hr HR;go_enter func52,ntmps52;go_wp2_with fail;refine oI 1 ?_;rw[nE];go_wp2;go_ret;exact⟨_,rfl,kt _ _ _ _,Below.refl _ _⟩
 .subst hv;clear hr;go_enter func52,ntmps52;go_wp2_with fail
  go_loopg [3,8] l.length (λgk v i wr=>∃k:Nat,i=.int .i64 k/\k<=l.length/\l.length-k<=gk/\wr.ownsRow w.heap.size 9 1 v k (strCells (texts (l.take k)))/\Below w.heap.size w wr)
  case atStart=>exact⟨0,rfl,Kc _,by omega,kt _ _ _ _,Below.refl _ _⟩
  case round=>
   obtain⟨k,rfl,hk,jm,ai,hb⟩:=hrel;have Ho:=eu ai;have Hb:=eu hb;have cT:=hb.size;by_cases aj:k<l.length
   .obtain⟨t,ht⟩:∃t,l[k]?=some t:=⟨l[k],Iv aj⟩;have hc:=Yk l k t ht;have af:=HR.o.1.kept (Bj none hb) (PQ _);have c0:=(af.cellAt (k*2) (by omega)).trans hc.1;have c1:=(af.cellAt (k*2+1) (by omega)).trans hc.2;have hg:=(af.lt g rfl).2;have Ht:=eu (PH ht);have bB:=(ai.alloc (.cells #[.string ⟨t.s.toArray⟩,.int .i64 t.at_] 88)).alloc (.cells #[.string ⟨t.s.toArray⟩] 9);clear ai hb ht hc af;go_wp2_with (at_builtin;refine IQ _ rfl _ _ 38 rfl w.heap.size 9 i0 _ 1 16 underlying38 HI.o HZ.o.1 HZ.o.2.1 HZ.o.2.2 rfl (by decide) _ _ _ rfl bB ⟨wr.heap.size+1,0,none⟩ 1 1 [.string ⟨t.s.toArray⟩] rfl rfl (World.news_of_block (cs:=#[.string ⟨t.s.toArray⟩]) (t:=9) (fr:=(0,0)) (by have:=heap_alloc_new (wr.alloc (.cells #[.string ⟨t.s.toArray⟩,.int .i64 t.at_] 88)) (.cells #[.string ⟨t.s.toArray⟩] 9);simpa using this)) (by simp[Value.oneCell']) (by unfold maxLen;omega) (by omega) (by simp;omega) ?_;intro v' w3 dR ah _)
    go_roundg (l.length-(k+1))
    case measure=>omega
    case rel=>refine⟨k+1,by go_num,by omega,qP _,?_,Pw (US (qN (qN (Bj none Hb.o) (IS _ _ _)) (IS _ _ _)) bB ah)⟩;rw[Ht.o,show texts (l.take k++[t])=texts (l.take k)++[t.s]from by simp[texts],Xg];exact dR
   .have aG:k=l.length:=by omega
    have Hk:=eu aG;clear ai hb aG;go_wp2;go_ret;refine⟨_,rfl,?_,Hb.o⟩;have ho:=Ho.o;rw[Hk.o,N8 (qP _)]at ho;exact ho
theorem ztU :∀{n:Nat}{v:Value}{e:Ex},qU S w n v e->One v
 |0,_,_,h=>h.elim
 |n+1,v,e,h=>by
  rcases h with⟨_,h⟩|⟨_,h⟩|⟨_,h⟩|⟨_,_,_,_,_,h,_⟩|⟨_,_,_,_,_,_,h,_⟩|⟨_,_,_,_,_,_,h,_⟩|⟨_,_,_,_,_,_,_,h,_⟩|⟨_,_,_,_,_,_,_,_,h,_⟩
  all_goals exact⟨.inr ⟨_,_,h⟩⟩
theorem zdS{pv:Value}{l:List By}{nvs bvs:List Value}(hr:Row S w 93 4 pv l.length (OH l nvs bvs))(h1:nvs.length=l.length)(h2:bvs.length=l.length)(ho:∀(i:Nat)(nv bv:Value),nvs[i]?=some nv->bvs[i]?=some bv->nv.oneCell'=true/\bv.oneCell'=true)(hl:l.length<=1000000:=by omega):
  Calls prog 49 #[pv] w λe w'=>∃v,e=.returned v/\w'.ownsRow w.heap.size 9 1 v l.length (strCells (JE l))/\Below w.heap.size w w':=by
 obtain⟨i0,hi,bq,aP,bF⟩:=nC RR;have HI:=eu hi;clear hi;have HZ:=eu (kK bq (kK aP bF));clear bq aP bF;have HR:=eu hr;rcases Mq hr with hv|⟨g,cap,hv⟩
 .have da:l=[]:=by
   rcases hr.1.2 with⟨_,h0⟩|⟨_,_,_,h0,_⟩
   .exact Pl.1 h0
   .rw[hv]at h0;cases h0
  subst hv da;clear hr HR ho h1 h2;go_enter func49,ntmps49;go_wp2_with fail;refine oI 1 ?_;rw[nE];go_wp2;go_ret;exact⟨_,rfl,kt _ _ _ _,Below.refl _ _⟩
 .subst hv;have HO:=eu ho;have H1:=eu h1;have H2:=eu h2;clear hr ho h1 h2;go_enter func49,ntmps49;go_wp2_with fail
  go_loopg [3,8] l.length (λgk v i wr=>∃k:Nat,i=.int .i64 k/\k<=l.length/\l.length-k<=gk/\wr.ownsRow w.heap.size 9 1 v k (strCells (JE (l.take k)))/\Below w.heap.size w wr)
  case atStart=>exact⟨0,rfl,Kc _,by omega,kt _ _ _ _,Below.refl _ _⟩
  case round=>
   obtain⟨k,rfl,hk,jm,ai,hb⟩:=hrel;have Ho:=eu ai;have Hb:=eu hb;have cT:=hb.size;by_cases aj:k<l.length
   .obtain⟨t,ht⟩:∃t,l[k]?=some t:=⟨l[k],Iv aj⟩;obtain⟨nv,ay⟩:∃nv,nvs[k]?=some nv:=⟨_,Iv (by rw[H1.o];exact aj)⟩;obtain⟨bv,cC⟩:∃bv,bvs[k]?=some bv:=⟨_,Iv (by rw[H2.o];exact aj)⟩;have hc:=Vj l nvs bvs k t nv bv ht ay cC;have xT:=(HO.o k nv bv ay cC).1;have jr:=(HO.o k nv bv ay cC).2;have sn:=λ(W:World)(a:Addr)(m:Mode)=>run_store prog W a nv m xT
    have sb:=λ(W:World)(a:Addr)(m:Mode)=>run_store prog W a bv m jr
    have af:=HR.o.1.kept (Bj none hb) (PQ _);have c0:=(af.cellAt (k*4) (by omega)).trans hc.1;have c1:=(af.cellAt (k*4+1) (by omega)).trans hc.2.1;have c2:=(af.cellAt (k*4+2) (by omega)).trans hc.2.2.1;have c3:=(af.cellAt (k*4+3) (by omega)).trans hc.2.2.2;have hg:=(af.lt g rfl).2;have Ht:=eu (PH ht);have bB:=(ai.alloc (.cells #[.string ⟨t.name.s.toArray⟩,.int .i64 t.name.at_,nv,bv] 93)).alloc (.cells #[.string ⟨t.name.s.toArray⟩] 9);clear ai hb ht hc af ay cC;go_wp2_with (at_builtin;refine IQ _ rfl _ _ 38 rfl w.heap.size 9 i0 _ 1 16 underlying38 HI.o HZ.o.1 HZ.o.2.1 HZ.o.2.2 rfl (by decide) _ _ _ rfl bB ⟨wr.heap.size+1,0,none⟩ 1 1 [.string ⟨t.name.s.toArray⟩] rfl rfl (World.news_of_block (cs:=#[.string ⟨t.name.s.toArray⟩]) (t:=9) (fr:=(0,0)) (by have:=heap_alloc_new (wr.alloc (.cells #[.string ⟨t.name.s.toArray⟩,.int .i64 t.name.at_,nv,bv] 93)) (.cells #[.string ⟨t.name.s.toArray⟩] 9);simpa using this)) (by simp[Value.oneCell']) (by unfold maxLen;omega) (by omega) (by simp;omega) ?_;intro v' w3 dR ah _)
    go_roundg (l.length-(k+1))
    case measure=>omega
    case rel=>refine⟨k+1,by go_num,by omega,qP _,?_,Pw (US (qN (qN (Bj none Hb.o) (IS _ _ _)) (IS _ _ _)) bB ah)⟩;rw[Ht.o,show JE (l.take k++[t])=JE (l.take k)++[t.name.s]from by simp[JE],Xg];exact dR
   .have aG:k=l.length:=by omega
    have Hk:=eu aG;clear ai hb aG;go_wp2;go_ret;refine⟨_,rfl,?_,Hb.o⟩;have ho:=Ho.o;rw[Hk.o,N8 (qP _)]at ho;exact ho
theorem Yh{pv:Value}{l:List Tok}{pvs:List Value}{rb:Bool}{bt:TypeId}{bx:Value}(hr:Row S w 312 3 pv l.length (Ob l pvs))(h1:pvs.length=l.length)(ho:∀(i:Nat)(bv:Value),pvs[i]?=some bv->bv.oneCell'=true)(hl:l.length<=1000000):
  Calls prog 197 #[.agg #[.bool rb,pv,.iface bt bx]] w λe w'=>∃v,e=.returned v/\w'.ownsRow w.heap.size 9 1 v l.length (strCells (texts l))/\Below w.heap.size w w':=by
 obtain⟨i0,hi,bq,aP,bF⟩:=nC RR;have HI:=eu hi;clear hi;have HZ:=eu (kK bq (kK aP bF));clear bq aP bF;have HR:=eu hr;rcases Mq hr with hv|⟨g,cap,hv⟩
 .have da:l=[]:=by
   rcases hr.1.2 with⟨_,h0⟩|⟨_,_,_,h0,_⟩
   .exact Pl.1 h0
   .rw[hv]at h0;cases h0
  subst hv da;clear hr HR ho h1;go_enter func197,ntmps197;go_wp2_with fail;refine oI 1 ?_;rw[nE];go_wp2;go_ret;exact⟨_,rfl,kt _ _ _ _,Mi _ _⟩
 .subst hv;have HO:=eu ho;have H1:=eu h1;clear hr ho h1;go_enter func197,ntmps197;go_wp2_with fail
  go_loopg [3,9] l.length (λgk v i wr=>∃k:Nat,i=.int .i64 k/\k<=l.length/\l.length-k<=gk/\wr.ownsRow w.heap.size 9 1 v k (strCells (texts (l.take k)))/\Below w.heap.size w wr)
  case atStart=>exact⟨0,rfl,Kc _,by omega,kt _ _ _ _,Mi _ _⟩
  case round=>
   obtain⟨k,rfl,hk,jm,ai,hb⟩:=hrel;have Ho:=eu ai;have Hb:=eu hb;have cT:=hb.size;by_cases aj:k<l.length
   .obtain⟨t,ht⟩:∃t,l[k]?=some t:=⟨l[k],Iv aj⟩;obtain⟨bv,cC⟩:∃bv,pvs[k]?=some bv:=⟨_,Iv (by rw[H1.o];exact aj)⟩;have hc:=Tj l pvs k t bv ht cC;have jr:=HO.o k bv cC;have sb:=λ(W:World)(a:Addr)(m:Mode)=>run_store prog W a bv m jr
    have af:=HR.o.1.kept (Bj none hb) (PQ _);have c0:=(af.cellAt (k*3) (by omega)).trans hc.1;have c1:=(af.cellAt (k*3+1) (by omega)).trans hc.2.1;have c2:=(af.cellAt (k*3+2) (by omega)).trans hc.2.2;have hg:=(af.lt g rfl).2;have Ht:=eu (PH ht);have bB:=(ai.alloc (.cells #[.string ⟨t.s.toArray⟩,.int .i64 t.at_,bv] 312)).alloc (.cells #[.string ⟨t.s.toArray⟩] 9);clear ai hb ht hc af cC;go_wp2_with (at_builtin;refine IQ _ rfl _ _ 38 rfl w.heap.size 9 i0 _ 1 16 underlying38 HI.o HZ.o.1 HZ.o.2.1 HZ.o.2.2 rfl (by decide) _ _ _ rfl bB ⟨wr.heap.size+1,0,none⟩ 1 1 [.string ⟨t.s.toArray⟩] rfl rfl (World.news_of_block (cs:=#[.string ⟨t.s.toArray⟩]) (t:=9) (fr:=(0,0)) (by have:=heap_alloc_new (wr.alloc (.cells #[.string ⟨t.s.toArray⟩,.int .i64 t.at_,bv] 312)) (.cells #[.string ⟨t.s.toArray⟩] 9);simpa using this)) (by simp[Value.oneCell']) (by unfold maxLen;omega) (by omega) (by simp;omega) ?_;intro v' w3 dR ah _)
    go_roundg (l.length-(k+1))
    case measure=>omega
    case rel=>refine⟨k+1,by go_num,by omega,qP _,?_,Pw (US (qN (qN (Bj none Hb.o) (IS _ _ _)) (IS _ _ _)) bB ah)⟩;rw[Ht.o,show texts (l.take k++[t])=texts (l.take k)++[t.s]from by simp[texts],Xg];exact dR
   .have aG:k=l.length:=by omega
    have Hk:=eu aG;clear ai hb aG;go_wp2;go_ret;refine⟨_,rfl,?_,Hb.o⟩;have ho:=Ho.o;rw[Hk.o,N8 (qP _)]at ho;exact ho
end Go.Proofs.YtgahgkddaljmkaaGreatDoor
namespace Go.Proofs.YtgahgkddaljmkaaGreatDoor
open Tryz Th Cp
open Go.RowKit
attribute [local go_sem ↓] Go.wp_at_zero Go.wp_at_succ
theorem znL:∀(seen:List (List UInt8))(l:List Tok)(t:Tok),N0 seen (l++[t])=N0 seen l++(if(seen++texts l).contains t.s then[t.at_]else[])
 |seen,[],t=>by simp[N0,texts]
 |seen,x::l,t=>by simp only[MP,N0];rw[znL (seen++[x.s]) l t];simp[texts]
theorem zeo(l:List Tok)(k:Nat):(strCells (texts l)).take k=strCells (texts (l.take k)):=by simp[strCells,texts]
variable {w:World}{c:Nat}{o:Option Nat}{S:Nat->Prop}
theorem zia(h:Mo w c o){nv:Value}{l:List Tok}(hr:Row S w 88 2 nv l.length (Ms l))(hS:¬S c)(hl:l.length<=1000000):
  Calls prog 70 #[.pointer (some ⟨c,0,none⟩),nv] w λe w'=>e=.returned (.tuple #[])/\Mo w' c (after o (N0 [] l))/\w.grownBy w' (some c):=by
 have aN:=h.lt;have H:=eu h;have HR:=eu hr;have HS:=eu hS;have gV:=Mq hr;clear h hS;rcases gV with hv|⟨g,cap,hv⟩
 .have da:l=[]:=by
   rcases hr.1.2 with⟨_,h0⟩|⟨_,_,_,h0,_⟩
   .exact Pl.1 h0
   .rw[hv]at h0;cases h0
  subst hv da;go_enter func70,ntmps70;go_wp2_with fail;refine(W7 hr hl).mono ?_;rintro e w1⟨v,rfl,af,hb⟩;have mV:=Mq (lP af);have Hb:=eu hb;clear hr af hb;rcases mV with rfl|⟨g2,fI,rfl⟩
  all_goals
   go_wp2_with fail;refine oI 1 ?_;rw[nE];go_wp2;go_end0
   exact⟨rfl,by rw[show N0 [] []=[]from rfl,RG];exact H.o.below Hb.o,Bj _ Hb.o⟩
 .subst hv;go_enter func70,ntmps70;go_wp2_with fail;refine(W7 hr hl).mono ?_;rintro e w1⟨v,rfl,af,hb⟩;have HT:=eu af;have Hb:=eu hb;have hz:=hb.size;have mV:v=.slice none 0 0\/∃g2 fI,v=.slice (some ⟨g2,0,none⟩) l.length fI:=by simpa[texts]using Mq (lP af)
  clear hr hb af;rcases mV with rfl|⟨g2,fI,rfl⟩
  .have da:l=[]:=by
    rcases HT.o.2 with⟨_,h0⟩|⟨_,_,_,h0,_⟩
    .exact Pl.1 h0
    .cases h0
   subst da;go_wp2_with fail;refine oI 1 ?_;rw[nE];go_wp2;go_end0
   exact⟨rfl,by rw[show N0 [] []=[]from rfl,RG];exact H.o.below Hb.o,Bj _ Hb.o⟩
  .have kT:l.length<=fI:=by
    rcases HT.o.2 with⟨h0,_⟩|⟨_,_,_,h0,_,_,hn,_⟩
    .cases h0
    .cases h0;exact hn
   go_wp2_with fail
   go_loopg [11] l.length (λgk i wr=>∃k:Nat,i=.int .i64 k/\k<=l.length/\l.length-k<=gk/\Mo wr c (after o (N0 [] (l.take k)))/\w1.grownBy wr (some c))
   case atStart=>exact⟨0,rfl,Kc _,by omega,by rw[show N0 [] (l.take 0)=[]from rfl,RG];exact H.o.below Hb.o,QT _ _⟩
   case round=>
    obtain⟨k,rfl,hk,jm,fV,hg⟩:=hrel;have jQ:=eu fV;have Hg:=eu hg;have cT:=hg.size;by_cases aj:k<l.length
    .obtain⟨t,ht⟩:∃t,l[k]?=some t:=⟨l[k],Iv aj⟩;have hc:=Yk l k t ht;have af:=((HR.o.gb (Bj none Hb.o) (by simp)).gb hg (λj hj=>by cases hj;exact HS.o)).1;have c0:=(af.cellAt (k*2) (by omega)).trans hc.1;have c1:=(af.cellAt (k*2+1) (by omega)).trans hc.2;have fX:=(af.lt g rfl).2;have Ht:=eu (PH ht);have dF:(0:Int)<=(k:Int):=R6 _;have cK:(k:Int)<=(fI:Int):=by omega
     have gl:=Xl (HT.o.kept hg (Qa HT.o aN)) (i:=k) (by omega);rw[zeo]at gl;have oE:Hid (wr.ownsRow w.heap.size 9 1 (.slice (some ⟨g2,0,none⟩) k fI) (texts (l.take k)).length (strCells (texts (l.take k)))):=eu (by rw[show(texts (l.take k)).length=k by simp[texts];omega];exact gl)
     have dn:=eu (λ(W:World)(hW:Mo W c (after o (N0 [] (l.take k))))(hR:W.ownsRow w.heap.size 9 1 (.slice (some ⟨g2,0,none⟩) k fI) (texts (l.take k)).length (strCells (texts (l.take k))))=>YB hW ⟨t.s.toArray⟩ t.at_ hR (by simp[texts];omega));have Hd:Hid (N0 [] (l.take (k+1))=N0 [] (l.take k)++(if(texts (l.take k)).contains t.s then[t.at_]else[])):=eu (by rw[Ht.o,znL];simp);clear fV hg ht hc af gl;go_wp2_with fail
     go_region_with (go_at_call 69;refine(dn.o _ ?_ ?_).mono ?_;exact IC (mr jQ.o _);exact(oE.o.alloc _).drew;rintro e w3⟨rfl,h3,aS⟩;have H3:=eu h3;have gC:=eu aS;clear h3 aS)
     all_goals
      go_wp2
      go_roundg (l.length-(k+1))
      case measure=>omega
      case rel=>refine⟨k+1,by go_num,by omega,qP _,?_,qN (qN (qN Hg.o (IS _ _ _)) (Po _ _)) gC.o⟩;rw[Hd.o,Qh];exact H3.o
    .have aG:k=l.length:=by omega
     have Hk:=eu aG;clear fV hg aG;go_wp2;go_end0
     refine⟨rfl,?_,qN (Bj _ Hb.o) Hg.o⟩;have ho:=jQ.o;rw[Hk.o,N8 (qP _)]at ho;exact ho
end Go.Proofs.YtgahgkddaljmkaaGreatDoor
namespace Go.Proofs
open Go.Shelf
def Tryz.growS_ren:Go.Shelf.Ren:=⟨fun|4=>123|n=>n,fun|22=>38|25=>9|3=>3|4=>4|9=>9|20=>20|0=>0|n=>n,fun|n=>n⟩
theorem Tryz.growS:Go.Proofs.Lays8.n4 prog Tryz.growS_ren:={
 mixed:=by kernel_rfl
 f4:=⟨Tryz.f123.name,by decide,func123.trans (congrArg some (by kernel_rfl))⟩
 t0:=underlying0
 a0:=isAgg0
 z0:=sizeOf0
 v0:=zeroValue0
 t3:=underlying3
 a3:=isAgg3
 z3:=sizeOf3
 v3:=zeroValue3
 t4:=underlying4
 a4:=isAgg4
 z4:=sizeOf4
 v4:=zeroValue4
 t9:=underlying9
 a9:=isAgg9
 z9:=sizeOf9
 v9:=zeroValue9
 t20:=underlying20
 a20:=isAgg20
 z20:=sizeOf20
 v20:=zeroValue20
 t22:=underlying38
 a22:=isAgg38
 z22:=sizeOf38
 v22:=zeroValue38 }
end Go.Proofs
namespace Go.Proofs.YtgahgkddaljmkaaGreatDoor
open Tryz Th Cp
open Go.RowKit
theorem zqx(w:World)(n:Nat)(hn:n<=4000000:=by omega):
  Calls prog 123 #[.slice none 0 0,.int .i64 n] w λe w'=>∃v,e=.returned v/\w'.ownsRow w.heap.size 9 1 v 0 []/\Below w.heap.size w w':=by
 obtain⟨i0,hi,bq,aP,bF⟩:=nC RR;by_cases h0:n=0
 .subst h0;refine(Any8.slices_Grow_room Tryz.growS none 0 0 0 w (by omega) (by omega) (by omega) (by omega)).mono ?_;rintro e w'⟨rfl,rfl⟩;exact⟨_,rfl,kt _ _ _ _,Below.refl _ _⟩
 .refine(Any8.slices_Grow_grow Tryz.growS i0 _ hi bq (by omega) none 0 0 n [] w (by omega) (by omega) (by rw[bF];omega) (by omega) (by simp) (λ_=>rfl) (λa ha=>by cases ha)).mono ?_;rintro e w'⟨rfl,rfl⟩;refine⟨_,rfl,?_,Pw (qN (Po _ _) (IS _ _ _))⟩;have:=World.ownsRow_made (e:=9) (base:=w.heap.size) (size:=1) w.drew (([]:List Value).toArray++Builtin.zeroCells (Value.string ⟨#[]⟩).cells (0+n-0)++Builtin.zeroCells (Value.string ⟨#[]⟩).cells (grownCap w (0+n) 0 9-(0+n))) (grownCap w (0+n) 0 9) (by simp) (grownCap_le_maxLen _ _ _ _ (by unfold maxLen;omega)) ?_
  .exact this
  .have:=grownCap_ge w (0+n) 0 9;rw[Array.size_append,Array.size_append,size_zeroCells,size_zeroCells];show 0+(0+n-0)*1+(_-(0+n))*1=_;omega
variable {l:List (List UInt8)}
theorem ze1 :∀u∈strCells l,u.oneCell'=true:=by intro u hu;obtain⟨s,_,rfl⟩:=Ro.1 hu;rfl
variable {w:World}{base:Nat}{v x:Value}{l1 l2:List (List UInt8)}{S:Nat->Prop}
theorem zxJ(ty:TypeId)(hv:w.ownsRow base 9 1 v l1.length (strCells l1))(hx:Row S w 9 1 x l2.length (strCells l2))(h1:l1.length<=2000000)(h2:l2.length<=2000000)(hb:base<=w.heap.size):
  ∃v' w',(Builtin.append_ #[38,38] ty #[v,x]).run prog w=.ok v' w'/\w'.ownsRow base 9 1 v' (l1++l2).length (strCells (l1++l2))/\w.grownBy w' v.ownBlock:=by
 obtain⟨i0,hi,bq,aP,bF⟩:=nC RR;rcases Mq hx with rfl|⟨g,cap,rfl⟩
 .have da:l2=[]:=by
   rcases hx.1.2 with⟨_,h0⟩|⟨_,_,_,h0,_⟩
   .exact Pl.1 h0
   .cases h0
  subst da;rcases Mq (lP hv)with rfl|⟨g,cap,rfl⟩
  .refine⟨.slice none 0 0,w,by kernel_rfl,by simpa using hv,QT _ _⟩
  .refine⟨.slice (some ⟨g,0,none⟩) l1.length cap,w,?_,by simpa using hv,QT _ _⟩;have kS:l1.length<=cap:=by
    rcases hv.2 with⟨h0,_⟩|⟨_,_,_,h0,_,_,hn,_⟩
    .cases h0
    .cases h0;exact hn
   exact run_append_room_src (P:=prog) w 38 38 ty 9 i0 underlying38 hi g 0 l1.length cap (.slice none 0 0) 0 [] (Src.ofNil w underlying38 0) (by omega) (by simp) (by simp)
 .obtain⟨v',w',hr,ho,hg,_⟩:=run_append_own (P:=prog) w base 38 ty 9 i0 _ 1 16 underlying38 hi bq aP bF rfl (by decide) v l1.length (strCells l1) hv ⟨g,0,none⟩ l2.length cap (strCells l2) (by simp[strCells]) (hx.1.cells (g:=g) rfl) ze1 (by unfold maxLen;omega) (by omega) hb;refine⟨v',w',hr,?_,hg⟩;rw[show strCells (l1++l2)=strCells l1++strCells l2 by simp[strCells],IJ];exact ho
variable {a:Act}{Q:Exit->Act->World->Prop}
theorem Yo{ops:Array Oper}{rest:List Oper}{o:Oper}(oY:o.guard=none)(s x:Operand)(ho:o.op=.call { callee:=.builtin .append,args:=#[s,x],argTypes:=#[38,38] }){xv:Value}(hs:a.eval s=v)(uT:a.eval x=xv)(hv:w.ownsRow base 9 1 v l1.length (strCells l1))(hx:Row S w 9 1 xv l2.length (strCells l2))(h1:l1.length<=2000000)(h2:l2.length<=2000000)(hb:base<=w.heap.size)(h:∀v' w',w'.ownsRow base 9 1 v' (l1++l2).length (strCells (l1++l2))->w.grownBy w' v.ownBlock->wpList prog ops Q rest (a.put o.dst v') w'):wpList prog ops Q (o::rest) a w:=
 wpList_plain oY λ_ hK=>by obtain⟨v',w',hr,h3,h4⟩:=zxJ o.type hv hx h1 h2 hb;unfold Oper.wp execOp;simp only[ho,resolve,invoke,builtin,Sem.run_bind,Sem.run_pure,Result.andThen_ok,List.map_toArray,Ki,qO,hs,uT,hr];exact hK _ _ (h v' w' h3 h4)
variable {g:Nat}
theorem zlj{y:Value}{S1 S2:Nat->Prop}(hb:oH w g [x,y] 38)(hx:Row S1 w 9 1 x l1.length (strCells l1))(hy:Row S2 w 9 1 y l2.length (strCells l2))(h1:l1.length<=1000000)(h2:l2.length<=1000000):
  Calls prog 72 #[.slice (some ⟨g,0,none⟩) 2 2] w λe w'=>∃v,e=.returned v/\w'.ownsRow w.heap.size 9 1 v (l1++l2).length (strCells (l1++l2))/\Below w.heap.size w w':=by
 have hl:=hb.lt;have H:=eu hb;have c0:=al hb 0;have c1:=al hb 1;simp at c0 c1;have HX:=eu hx;have HY:=eu hy;have oc:=Mq hx;have AO:=Mq hy;clear hb hx hy;have cX:Hid (x=.slice none 0 0->l1.length=0):=eu (λh=>by
  rcases HX.o.1.2 with⟨_,h0⟩|⟨_,_,_,h0,_⟩
  .exact h0
  .rw[h]at h0;cases h0)
 have aT:Hid (y=.slice none 0 0->l2.length=0):=eu (λh=>by
  rcases HY.o.1.2 with⟨_,h0⟩|⟨_,_,_,h0,_⟩
  .exact h0
  .rw[h]at h0;cases h0)
 obtain⟨xa,n1,xc,rfl,cR⟩:∃xa n1 xc,x=.slice xa n1 xc/\n1=l1.length:=by
  rcases oc with h|⟨g1,c1,h⟩
  .exact⟨_,_,_,h,(cX.o h).symm⟩
  .exact⟨_,_,_,h,rfl⟩
 obtain⟨ya,n2,yc,rfl,eY⟩:∃ya n2 yc,y=.slice ya n2 yc/\n2=l2.length:=by
  rcases AO with h|⟨g1,c1,h⟩
  .exact⟨_,_,_,h,(aT.o h).symm⟩
  .exact⟨_,_,_,h,rfl⟩
 have xM:n1<=1000000:=by omega
 have EU:n2<=1000000:=by omega
 have HN:=eu (kK cR eY);clear cR eY oc AO h1 h2 cX aT;go_enter func72,ntmps72;go_wp2_with fail;refine oI 3 ?_;rw[nE];go_wp2_with fail;have dh:(0:Int)<=(n1:Int)+(n2:Int):=by omega
 rw[nE];go_wp2_with fail;rw[nE];go_wp2_with fail;have pY:=zqx w (n1+n2);rw[OC]at pY;refine pY.mono ?_;clear pY;rintro e w1⟨v,rfl,ai,hb⟩;have d0:w1.cell? ⟨g,0,none⟩=some (.slice xa n1 xc):=(kI (hb.block g hl)).trans c0;have d1:w1.cell? ⟨g,1,none⟩=some (.slice ya n2 yc):=(kI (hb.block g hl)).trans c1;have C1:=eu c1;have HO:Hid (w1.ownsRow w.heap.size 9 1 v ([]:List (List UInt8)).length (strCells [])):=eu ai;have kM:=HX.o.gb (Bj none hb) (by simp);have Hb:=eu hb;have cT:=hb.size;rcases Mq (lP ai)with rfl|⟨g2,fI,rfl⟩
 all_goals
  clear ai hb c0 c1;go_wp2_with fail;refine oI 3 ?_;rw[nE];go_wp2_with (at_builtin;refine Yo rfl _ _ rfl rfl rfl HO.o kM (by simp) (by have:=HN.o;omega) (by omega) ?_;intro v2 w2 bB fL);have fq:w.grownBy w2 none:=US (Bj none Hb.o) HO.o fL;rw[MQ]at bB;have e1:w2.cell? ⟨g,1,none⟩=some (.slice ya n2 yc):=fq.cell C1.o (by simp);have zY:=HY.o.gb fq (by simp);have j6:=fq.size;have HG:=eu fq;have mA:=eu bB;have aI:=Mq (lP bB);clear fL fq bB d0 d1 kM HO;rcases aI with rfl|⟨g3,wq,rfl⟩
  all_goals
   rw[nE];go_wp2_with (at_builtin;refine Yo rfl _ _ rfl rfl rfl mA.o zY (by have:=HN.o;omega) (by have:=HN.o;omega) (by omega) ?_;intro v3 w3 eL kY);have gC:Hid (w.grownBy w3 none):=eu (US HG.o mA.o kY);have qB:=eu eL;have bP:=Mq (lP eL);clear kY eL zY mA;rcases bP with rfl|⟨g4,DE,rfl⟩
   all_goals
    rw[nE];go_wp2;go_ret;exact⟨_,rfl,qB.o,Pw gC.o⟩
variable {e:TypeId}{size n:Nat}{xs:List Value}
theorem Jk(h:Row S w e size v n xs):∃a k c,v=.slice a k c:=by
 rcases Mq h with h|⟨g,cap,h⟩
 .exact⟨_,_,_,h⟩
 .exact⟨_,_,_,h⟩
theorem OG(h:w.ownsRow base e size v n xs):∃a k c,v=.slice a k c:=Jk (lP h)
theorem JQ :∀{n:Nat}{v:Value}{e:Ex},qU S w n v e->∃t x,v=.iface t x
 |0,_,_,h=>h.elim
 |n+1,v,e,h=>by
  rcases h with⟨_,h⟩|⟨_,h⟩|⟨_,h⟩|⟨_,_,_,_,_,h,_⟩|⟨_,_,_,_,_,_,h,_⟩|⟨_,_,_,_,_,_,h,_⟩|⟨_,_,_,_,_,_,_,h,_⟩|⟨_,_,_,_,_,_,_,_,h,_⟩
  all_goals exact⟨_,_,h⟩
theorem Yt{y:Value}{S1 S2:Nat->Prop}(hx:Row S1 w 9 1 x l1.length (strCells l1))(hy:Row S2 w 9 1 y l2.length (strCells l2))(h1:l1.length<=1000000)(h2:l2.length<=1000000):
  Calls prog 72 #[.slice (some ⟨w.heap.size,0,none⟩) 2 2] (w.alloc (.cells #[x,y] 38)) λe w'=>∃a k c,e=.returned (.slice a k c)/\Row (λb=>w.heap.size<=b) w' 9 1 (.slice a k c) (l1++l2).length (strCells (l1++l2))/\Below w.heap.size w w':=by
 refine(zlj (gH w [x,y] _) (hx.gb (IS _ _ none) (by simp)) (hy.gb (IS _ _ none) (by simp)) h1 h2).mono ?_;rintro e w'⟨v,rfl,ho,hb⟩;obtain⟨a,k,c,rfl⟩:=Jk (lP ho);refine⟨a,k,c,rfl,(lP ho).mono (λj _ hj=>?_),Pw (qN (IS _ _ none) (Bj none hb))⟩;have:=(IS w (.cells #[x,y] 38) none).size;exact yM this hj
def QB (l:List (Nat × Nat × Nat)):List Value:=l.flatMap λa=>[.int .i64 a.1,.int .i64 a.2.1,.int .i64 a.2.2]
def M4:List (Nat × List Ds)->List Value->List Value
 |b::l,v::vs=>[.int .i64 b.1,v]++M4 l vs
 |_,_=>[]
def PS (Z:Nat->Prop) (w:World) (v:Value):Ds->Prop
 |.push k=>v=.iface 248 (.agg #[.int .i64 k])
 |.PM f=>v=.iface 250 (.agg #[.int .i64 f])
 |.num x=>v=.iface 252 (.agg #[.int .i64 x])
 |.pack t c=>v=.iface 254 (.agg #[.int .i64 t,.int .i64 c])
 |.close b c=>v=.iface 257 (.agg #[.int .i64 b,.int .i64 c])
 |.hold b c=>v=.iface 258 (.agg #[.int .i64 b,.int .i64 c])
 |.fill k c=>v=.iface 260 (.agg #[.int .i64 k,.int .i64 c])
 |.wait b=>v=.iface 263 (.agg #[.int .i64 b])
 |.N6 c=>v=.iface 267 (.agg #[.int .i64 c])
 |.NG c=>v=.iface 268 (.agg #[.int .i64 c])
 |.PJ=>v=.iface 269 (.agg #[])
 |.comp sg=>v=.iface 272 (.agg #[.string sg])
 |.enter=>v=.iface 185 (.agg #[])
 |.jump b=>v=.iface 273 (.agg #[.int .i64 b])
 |.choose nA=>∃av,v=.iface 276 (.agg #[av])/\Row Z w 290 3 av nA.length (QB nA)/\nA≠[]
def QE (Z:Nat->Prop) (w:World) (vs:List Value) (is:List Ds):Prop:=vs.length=is.length/\∀(j:Nat)(v:Value)(x:Ds),vs[j]?=some v->is[j]?=some x->PS Z w v x
def QV (Z:Nat->Prop) (w:World) (kv:Value) (is:List Ds):Prop:=∃vs,Row Z w 154 1 kv is.length vs/\QE Z w vs is
variable {K:Nat->Prop}{w':World}
theorem Fr.gb(f:Fr K w w'):∀{e:TypeId}{size n:Nat}{v:Value}{xs:List Value},w.ownsRow 0 e size v n xs->(∀k,v.ownBlock=some k->¬K k)->w'.ownsRow 0 e size v n xs:=by
 intro e size n v xs h hk;obtain⟨h1,h2⟩:=h;refine⟨h1,?_⟩;rcases h2 with h2|⟨g,cap,cur,hv,hg,hb,r⟩
 .exact .inl h2
 .refine .inr ⟨g,cap,cur,hv,hg,?_,r⟩;rw[f.block g (Nz.1 hb).1 (hk g (by rw[hv];rfl))];exact hb
variable {Z Z':Nat->Prop}
theorem Row.Ku(h:Row Z w e size v n xs)(f:Fr K w w')(hK:∀k,k<w.heap.size->Z k->¬K k)(hZ:∀k,k<w.heap.size->Z k->Z' k):Row Z' w' e size v n xs:=by
 have hl:=λk hk=>(h.1.lt k hk).2
 exact⟨f.gb h.1 (λk hk=>hK k (hl k hk) (h.2 k hk)),λk hk=>hZ k (hl k hk) (h.2 k hk)⟩
theorem PS.Ku{Z Z' K:Nat->Prop}{w w':World}{v:Value}{i:Ds}(h:PS Z w v i)(f:Fr K w w')(hK:∀k,k<w.heap.size->Z k->¬K k)(hZ:∀k,k<w.heap.size->Z k->Z' k):PS Z' w' v i:=by cases i<;>first|exact h|(obtain⟨av,h1,h2,h3⟩:=h;exact⟨av,h1,h2.Ku f hK hZ,h3⟩)
theorem QE.Ku{Z Z' K:Nat->Prop}{w w':World}{vs:List Value}{is:List Ds}(h:QE Z w vs is)(f:Fr K w w')(hK:∀k,k<w.heap.size->Z k->¬K k)(hZ:∀k,k<w.heap.size->Z k->Z' k):QE Z' w' vs is:=
 ⟨h.1,λj v x hv hx=>(h.2 j v x hv hx).Ku f hK hZ⟩
theorem QV.Ku{Z Z' K:Nat->Prop}{w w':World}{v:Value}{is:List Ds}(h:QV Z w v is)(f:Fr K w w')(hK:∀k,k<w.heap.size->Z k->¬K k)(hZ:∀k,k<w.heap.size->Z k->Z' k):QV Z' w' v is:=by obtain⟨vs,h1,h2⟩:=h;exact⟨vs,h1.Ku f hK hZ,h2.Ku f hK hZ⟩
variable {vs:List Value}{is:List Ds}{i:Ds}
theorem QE.snoc(h:QE Z w vs is)(hi:PS Z w v i):QE Z w (vs++[v]) (is++[i]):=by
 refine⟨by simp[h.1],λj u x hu hx=>?_⟩;rw[OQ]at hu hx;by_cases hj:j<is.length
 .rw[nB (by rw[h.1];exact hj)]at hu;rw[nB hj]at hx;exact h.2 j u x hu hx
 .rw[pL (by rw[h.1];exact hj)]at hu;rw[pL hj]at hx;rw[h.1]at hu;have h1:j-is.length=0:=by
   have:=(Dq.1 hx).1;simp at this;omega
  rw[h1]at hu hx;simp only[Pk,IA]at hu hx;rw[<-hu,<-hx];exact hi
theorem zqA(h:PS Z w v i):∃t x,v=.iface t x:=by cases i<;>first|exact⟨_,_,h⟩|(obtain⟨av,h1,_⟩:=h;exact⟨_,_,h1⟩)
def KL (cb bb:Nat) (rv sv kv:Value) (k:Nat):Prop:=k=cb\/k=bb\/rv.ownBlock=some k\/sv.ownBlock=some k\/kv.ownBlock=some k
structure BS (Z:Nat->Prop) (w:World) (cb bb:Nat) (rv sv kv:Value) (fns:List Cp.Nm) (q:Bs):Prop where
 OA:∃fv,oH w cb [fv,rv] 86/\Row Z w 9 1 fv fns.length (strCells fns)
 Kq:oH w bb [.pointer (some ⟨cb,0,none⟩),sv,kv] 159
 OL:∃cP,cP.length=q.blocks.length/\w.ownsRow 0 96 2 rv q.blocks.length (M4 q.blocks cP)/\∀(i:Nat)(b:Nat × List Ds)(cv:Value),q.blocks[i]?=some b->cP[i]?=some cv->QV Z w cv b.2
 Og:w.ownsRow 0 9 1 sv q.kD.length (strCells q.kD)
 Pz:∃vs,w.ownsRow 0 154 1 kv q.code.length vs/\QE Z w vs q.code
 Ny:∀k,Z k->k<w.heap.size
 zk:∀k,Z k->¬KL cb bb rv sv kv k
 ne:cb≠bb
 rc:rv.ownBlock≠some cb/\rv.ownBlock≠some bb
 sc:sv.ownBlock≠some cb/\sv.ownBlock≠some bb
 kc:kv.ownBlock≠some cb/\kv.ownBlock≠some bb
 rs:∀k,rv.ownBlock=some k->sv.ownBlock≠some k
 rk:∀k,rv.ownBlock=some k->kv.ownBlock≠some k
 sk:∀k,sv.ownBlock=some k->kv.ownBlock≠some k
def Mv (w:World) (v v':Value):Prop:=∀k,v'.ownBlock=some k->v.ownBlock=some k\/w.heap.size<=k
theorem Mv.refl(w:World)(v:Value):Mv w v v:=λ_ h=>.inl h
abbrev kq:=@Mv.refl
theorem Mv.trans{w1:World}{a b c:Value}(h:Mv w a b)(k:Mv w1 b c)(hs:w.heap.size<=w1.heap.size):Mv w a c:=λi hi=>by
 rcases k i hi with h1|h1
 .exact h i h1
 .exact .inr (yM hs h1)
abbrev kH:=@Mv.trans
def ES (Z:Nat->Prop) (w:World) (cb bb:Nat) (rv sv kv:Value) (fns:List Cp.Nm) (q':Bs) (w':World):Prop:=
 ∃Z' aO sv' bG,(∀k,k<w.heap.size->(Z' k↔Z k))/\BS Z' w' cb bb aO sv' bG fns q'/\Fr (KL cb bb rv sv kv) w w'/\Mv w rv aO/\Mv w sv sv'/\Mv w kv bG
variable {cb bb:Nat}{rv sv kv sv' bG:Value}
theorem KL.new{k:Nat}{aO:Value}(h:KL cb bb aO sv' bG k)(h1:Mv w rv aO)(h2:Mv w sv sv')(h3:Mv w kv bG)(hk:k<w.heap.size):KL cb bb rv sv kv k:=by
 rcases h with h|h|h|h|h
 .exact .inl h
 .exact .inr (.inl h)
 .rcases h1 k h with e|e
  .exact .inr (.inr (.inl e))
  .omega
 .rcases h2 k h with e|e
  .exact .inr (.inr (.inr (.inl e)))
  .omega
 .rcases h3 k h with e|e
  .exact .inr (.inr (.inr (.inr e)))
  .omega
abbrev Ia:=@KL.new
theorem ES.trans{Z Z1:Nat->Prop}{w w1 w2:World}{cb bb:Nat}{rv sv kv bh bf cA:Value}{fns:List Cp.Nm}{q2:Bs}(hz:∀k,k<w.heap.size->(Z1 k↔Z k))(hf:Fr (KL cb bb rv sv kv) w w1)(h1:Mv w rv bh)(h2:Mv w sv bf)(h3:Mv w kv cA)(d:ES Z1 w1 cb bb bh bf cA fns q2 w2):ES Z w cb bb rv sv kv fns q2 w2:=by obtain⟨Z2,im,iq,ik,e1,e2,e3,e4,e5,e6⟩:=d;have hs:=hf.size;refine⟨Z2,im,iq,ik,λk hk=>(e1 k (Kl hk hs)).trans (hz k hk),e2,?_,h1.trans e4 hs,h2.trans e5 hs,h3.trans e6 hs⟩;refine⟨e3.os.trans hf.os,e3.tape.trans hf.tape,e3.output.trans hf.output,yM hs e3.size,λi hi hK=>(e3.block i (Kl hi hs) (λhn=>hK (Ia hn h1 h2 h3 hi))).trans (hf.block i hi hK)⟩
abbrev kU:=@ES.trans
theorem ES.refl{Z:Nat->Prop}{w:World}{cb bb:Nat}{rv sv kv:Value}{fns:List Cp.Nm}{q:Bs}(h:BS Z w cb bb rv sv kv fns q):ES Z w cb bb rv sv kv fns q w:=
 ⟨Z,rv,sv,kv,λ_ _=>P2,h,eU _ _,kq _ _,kq _ _,kq _ _⟩
variable {fns:List Cp.Nm}{q:Bs}
theorem BS.Nr(h:BS Z w cb bb rv sv kv fns q):cb<w.heap.size:=by obtain⟨fv,h1,_⟩:=h.OA;exact h1.lt
theorem BS.Ns(h:BS Z w cb bb rv sv kv fns q):∀k,rv.ownBlock=some k->k<w.heap.size:=by obtain⟨cP,_,h2,_⟩:=h.OL;exactλk hk=>(h2.lt k hk).2
theorem BS.slt(h:BS Z w cb bb rv sv kv fns q):∀k,sv.ownBlock=some k->k<w.heap.size:=λk hk=>(h.Og.lt k hk).2
theorem BS.Pt(h:BS Z w cb bb rv sv kv fns q):∀k,kv.ownBlock=some k->k<w.heap.size:=by obtain⟨vs,h1,_⟩:=h.Pz;exactλk hk=>(h1.lt k hk).2
theorem BS.up{sl:List Cp.Nm}{co:List Ds}(h:BS Z w cb bb rv sv kv fns q)(f:Fr (λk=>k=bb\/sv.ownBlock=some k\/kv.ownBlock=some k) w w')(hb:oH w' bb [.pointer (some ⟨cb,0,none⟩),sv',bG] 159)(hs:w'.ownsRow 0 9 1 sv' sl.length (strCells sl))(hk:∃vs,w'.ownsRow 0 154 1 bG co.length vs/\QE Z w' vs co)(ns:Mv w sv sv')(nk:Mv w kv bG)(FP:∀k,sv'.ownBlock=some k->bG.ownBlock≠some k):BS Z w' cb bb rv sv' bG fns ⟨q.blocks,sl,co⟩:=by
 have hz:∀k,k<w.heap.size->Z k->¬(k=bb\/sv.ownBlock=some k\/kv.ownBlock=some k):=λk _ hk he=>h.zk k hk (by
  rcases he with e|e|e
  .exact .inr (.inl e)
  .exact .inr (.inr (.inr (.inl e)))
  .exact .inr (.inr (.inr (.inr e))))
 have cV:=h.Kq.lt;obtain⟨fv,bH,bT⟩:=h.OA;have aN:=bH.lt;obtain⟨cP,dd,cg,jc⟩:=h.OL;have bd:=h.Ns;refine⟨⟨fv,gd bH f ?_,bT.Ku f hz (λ_ _ x=>x)⟩,hb,⟨cP,dd,f.gb cg (λk hk he=>?_),λi b cv h1 h2=>(jc i b cv h1 h2).Ku f hz (λ_ _ x=>x)⟩,hs,hk,λk hk=>Kl (h.Ny k hk) f.size,λk hk he=>?_,h.ne,h.rc,?_,?_,?_,?_,FP⟩
 .rintro(e|e|e)
  .exact h.ne e
  .exact h.sc.1 e
  .exact h.kc.1 e
 .rcases he with e|e|e
  .exact h.rc.2 (by rw[hk,e])
  .exact h.rs k hk e
  .exact h.rk k hk e
 .exact h.zk k hk (Ia he (kq _ _) ns nk (h.Ny k hk))
 .exact⟨λe=>by rcases ns cb e with e|e;exact h.sc.1 e;omega,λe=>by rcases ns bb e with e|e;exact h.sc.2 e;omega⟩
 .exact⟨λe=>by rcases nk cb e with e|e;exact h.kc.1 e;omega,λe=>by rcases nk bb e with e|e;exact h.kc.2 e;omega⟩
 .intro k hk e;rcases ns k e with e|e
  .exact h.rs k hk e
  .have:=bd k hk;omega
 .intro k hk e;rcases nk k e with e|e
  .exact h.rk k hk e
  .have:=bd k hk;omega
theorem ES.up{q':Bs}(h:BS Z w' cb bb rv sv' bG fns q')(f:Fr (λk=>k=bb\/sv.ownBlock=some k\/kv.ownBlock=some k) w w')(ns:Mv w sv sv')(nk:Mv w kv bG):ES Z w cb bb rv sv kv fns q' w':=
 ⟨Z,rv,sv',bG,λ_ _=>P2,h,f.mono (λi hi=>by rcases hi with e|e|e;exact .inr (.inl e);exact .inr (.inr (.inr (.inl e)));exact .inr (.inr (.inr (.inr e)))),kq _ _,ns,nk⟩
end Go.Proofs.YtgahgkddaljmkaaGreatDoor
namespace Go.Proofs.YtgahgkddaljmkaaGreatDoor
open Tryz Th Cp
open Go.RowKit
attribute [local go_sem ↓] Go.wp_at_zero Go.wp_at_succ
theorem zxs:(prog.info? 154).map (λi=>(i.zero,i.size,i.bytes))=some (some .nilIface,1,16):=by kernel_rfl
variable {K:Nat->Prop}{w:World}{row:Option Nat}
theorem Fr.UT{a b:World}(h:Fr K w a)(hg:a.grownBy b row)(hr:∀k,k<w.heap.size->row=some k->K k):Fr K w b:=
 ⟨hg.os.trans h.os,hg.tape.trans h.tape,hg.output.trans h.output,yM h.size hg.size,λi hi hK=>(hg.block i (Kl hi h.size) (λe=>hK (hr i hi e.symm))).trans (h.block i hi hK)⟩
theorem WY(w:World):Calls prog 155 #[] w λe w'=>e=.returned (.slice (some ⟨w.heap.size,0,none⟩) 1 1)/\w'=w.alloc (.cells #[.string ⟨#[]⟩] 9):=by go_enter func155,ntmps155;go_wp2;go_ret;exact⟨rfl,rfl⟩
variable {Z:Nat->Prop}{cb bb g cap:Nat}{rv sv kv v:Value}{fns:List Cp.Nm}{q:Bs}{i:Ds}{vs:List Value}
theorem BS.wrote{w3:World}{b:Obj}(h:BS Z w cb bb rv sv kv fns q)(hi:PS Z w v i)(gW:QE Z w vs q.code)(ai:w3.ownsRow 0 154 1 (.slice (some ⟨g,0,none⟩) (q.code.length+1) cap) (q.code.length+1) (vs++[v]))(ah:(w.alloc b).grownBy w3 kv.ownBlock)(aV:kv.ownBlock=some g\/g=w.heap.size+1):
  oH w3 bb [.pointer (some ⟨cb,0,none⟩),sv,kv] 159/\ES Z w cb bb rv sv kv fns (q.write i) (w3.setCell ⟨bb,2,none⟩ (.slice (some ⟨g,0,none⟩) (q.code.length+1) cap)):=by
 have cV:=h.Kq.lt;have aA:oH (w.alloc b) bb [.pointer (some ⟨cb,0,none⟩),sv,kv] 159:=gd (K:=λ_=>False) h.Kq ((eU _ _).alloc b);have bD:=aA.grown ah (λe=>h.kc.2 e.symm);have so:g≠bb:=by
  rcases aV with e|e
  .intro e2;subst e2;exact h.kc.2 e
  .omega
 have f0:Fr (λk=>k=bb\/kv.ownBlock=some k) w (w3.setCell ⟨bb,2,none⟩ (.slice (some ⟨g,0,none⟩) (q.code.length+1) cap)):=
  (((eU _ _).alloc b).UT ah (λk _ e=>.inr e)).set _ _ (.inl (.inl rfl))
 have f1:Fr (λk=>k=bb\/sv.ownBlock=some k\/kv.ownBlock=some k) w (w3.setCell ⟨bb,2,none⟩ (.slice (some ⟨g,0,none⟩) (q.code.length+1) cap)):=f0.mono (λk hk=>by rcases hk with e|e;exact .inl e;exact .inr (.inr e));have hz:∀k,k<w.heap.size->Z k->¬(k=bb\/kv.ownBlock=some k):=λk _ hk he=>h.zk k hk (by
  rcases he with e|e
  .exact .inr (.inl e)
  .exact .inr (.inr (.inr (.inr e))))
 have nk:Mv w kv (.slice (some ⟨g,0,none⟩) (q.code.length+1) cap):=by
  intro k hk;simp only[Value.ownBlock,IA]at hk;rcases aV with e|e
  .exact .inl (by rw[e,hk])
  .exact .inr (by omega)
 have aK:=h.slt;refine⟨bD,ES.up (h.up f1 (bD.set 2 _) (f0.gb h.Og (λk hk he=>?_)) ⟨vs++[v],?_,(gW.Ku f0 hz (λ_ _ x=>x)).snoc (hi.Ku f0 hz (λ_ _ x=>x))⟩ (kq _ _) nk ?_) f1 (kq _ _) nk⟩
 .rcases he with e|e
  .exact h.sc.2 (by rw[hk,e])
  .exact h.sk k hk e
 .have f3:Fr (λk=>k=bb) w3 (w3.setCell ⟨bb,2,none⟩ (.slice (some ⟨g,0,none⟩) (q.code.length+1) cap)):=(eU _ _).set _ _ (.inl rfl);rw[IJ,Ng];exact f3.gb ai (λk hk=>by simp only[Value.ownBlock,IA]at hk;omega)
 .intro k hk e;simp only[Value.ownBlock,IA]at e;have:=aK k hk;rcases aV with e2|e2
  .exact h.sk k hk (by rw[e2,e])
  .omega
theorem Re(h:BS Z w cb bb rv sv kv fns q)(hi:PS Z w v i)(hl:q.code.length<=1000000000):
  Calls prog 157 #[.pointer (some ⟨bb,0,none⟩),v] w λe w'=>e=.returned (.tuple #[])/\ES Z w cb bb rv sv kv fns (q.write i) w':=by
 obtain⟨i0,dt,bq,aP,bF⟩:=nC zxs;have HI:=eu dt;clear dt;have HZ:=eu (kK bq (kK aP bF));clear bq aP bF;obtain⟨t,x,rfl⟩:=zqA hi;obtain⟨vs,gW,af⟩:=h.Pz;obtain⟨ka,kn,kc,rfl⟩:=OG gW;have c2:=al h.Kq 2;simp at c2;have cV:w.heap.size≠bb:=by have:=h.Kq.lt;omega
 have jO:=eu ((eU (λ_=>False) w).alloc (.cells #[.iface t x] 154)|>.gb gW (by simp));have HH:=eu h;have oz:=eu hi;have CO:=eu af;clear h hi af gW;go_enter func157,ntmps157;go_wp2_with (at_builtin;refine wpList_append_lies _ rfl _ _ _ rfl 0 154 i0 _ 1 16 underlying94 HI.o HZ.o.1 HZ.o.2.1 HZ.o.2.2 rfl (by omega) _ q.code.length vs rfl jO.o ⟨w.heap.size,0,none⟩ 1 1 [.iface t x] rfl rfl (World.news_of_block (cs:=#[.iface t x]) (t:=154) (fr:=(0,0)) (heap_alloc_new w _)) (by simp[Value.oneCell']) (by omega) (by unfold maxLen;omega) (by omega) (Kc _) (w.heap.size+1) (by simp) ?_;intro g cap w3 ai ah aV aj;have AD:=eu (HH.o.wrote oz.o CO.o ai ah aV);have d2:=al AD.o.1 2;have df:=ku AD.o.1 2;simp at d2;clear ai ah aV aj)
 first|go_end0|refine Ju rfl rfl ?_
 exact⟨rfl,AD.o.2⟩
theorem BS.zuu{a w3:World}{n':Nat}{sl:List Cp.Nm}(h:BS Z w cb bb rv sv kv fns q)(fa:Fr (λ_=>False) w a)(hn:n'=sl.length)(ai:w3.ownsRow 0 9 1 (.slice (some ⟨g,0,none⟩) n' cap) n' (strCells sl))(ah:a.grownBy w3 sv.ownBlock)(aV:sv.ownBlock=some g\/w.heap.size<=g):
  oH w3 bb [.pointer (some ⟨cb,0,none⟩),sv,kv] 159/\ES Z w cb bb rv sv kv fns ⟨q.blocks,sl,q.code⟩ (w3.setCell ⟨bb,1,none⟩ (.slice (some ⟨g,0,none⟩) n' cap)):=by
 subst hn;have cV:=h.Kq.lt;have aA:oH a bb [.pointer (some ⟨cb,0,none⟩),sv,kv] 159:=gd h.Kq fa;have bD:=aA.grown ah (λe=>h.sc.2 e.symm);have so:g≠bb:=by
  rcases aV with e|e
  .intro e2;subst e2;exact h.sc.2 e
  .omega
 have f0:Fr (λk=>k=bb\/sv.ownBlock=some k) w (w3.setCell ⟨bb,1,none⟩ (.slice (some ⟨g,0,none⟩) sl.length cap)):=
  ((fa.mono (λ_ h=>h.elim)).UT ah (λk _ e=>.inr e)).set _ _ (.inl (.inl rfl))
 have f1:Fr (λk=>k=bb\/sv.ownBlock=some k\/kv.ownBlock=some k) w (w3.setCell ⟨bb,1,none⟩ (.slice (some ⟨g,0,none⟩) sl.length cap)):=f0.mono (λk hk=>by rcases hk with e|e;exact .inl e;exact .inr (.inl e));have hz:∀k,k<w.heap.size->Z k->¬(k=bb\/sv.ownBlock=some k):=λk _ hk he=>h.zk k hk (by
  rcases he with e|e
  .exact .inr (.inl e)
  .exact .inr (.inr (.inr (.inl e))))
 have ns:Mv w sv (.slice (some ⟨g,0,none⟩) sl.length cap):=by
  intro k hk;simp only[Value.ownBlock,IA]at hk;rcases aV with e|e
  .exact .inl (by rw[e,hk])
  .exact .inr (by omega)
 have nS:=h.Pt;obtain⟨vs,cK,aG⟩:=h.Pz;refine⟨bD,ES.up (h.up f1 (bD.set 1 _) ?_ ⟨vs,f0.gb cK (λk hk he=>?_),aG.Ku f0 hz (λ_ _ x=>x)⟩ ns (kq _ _) ?_) f1 ns (kq _ _)⟩
 .have f3:Fr (λk=>k=bb) w3 (w3.setCell ⟨bb,1,none⟩ (.slice (some ⟨g,0,none⟩) sl.length cap)):=(eU _ _).set _ _ (.inl rfl);exact f3.gb ai (λk hk=>by simp only[Value.ownBlock,IA]at hk;omega)
 .rcases he with e|e
  .exact h.kc.2 (by rw[hk,e])
  .exact h.sk k e hk
 .intro k hk e;simp only[Value.ownBlock,IA]at hk;have:=nS k e;rcases aV with e2|e2
  .exact h.sk k (by rw[e2,hk]) e
  .omega
theorem RJ(h:BS Z w cb bb rv sv kv fns q)(hi:PS Z w v i)(hl:q.code.length<=1000000000)(aC:q.kD.length<=1000000000):
  Calls prog 145 #[.pointer (some ⟨bb,0,none⟩),v] w λe w'=>e=.returned (.tuple #[])/\ES Z w cb bb rv sv kv fns (q.push i) w':=by
 obtain⟨i0,dt,bq,aP,bF⟩:=nC RR;have HI:=eu dt;clear dt;have HZ:=eu (kK bq (kK aP bF));clear bq aP bF;have CW:=eu (Re h hi hl);clear h hi;go_enter func145,ntmps145;go_wp2_with fail;refine CW.o.mono ?_;rintro e w1⟨rfl,Z1,bh,bf,cA,aP,aA,f1,n1,n2,n3⟩;have HD:=eu (kK aP (kK f1 (kK n1 (kK n2 n3))));obtain⟨sa,sn,sc,rfl⟩:=OG aA.Og;have cB:=eu aA;have c1:=al aA.Kq 1;simp at c1;have cV:w1.heap.size≠bb:=by have:=aA.Kq.lt;omega
 have a1:(w1.alloc (.cells #[.string ⟨#[]⟩] 9)).drew.cell? ⟨bb,1,none⟩=some (.slice sa sn sc):=by have:=al (gd (K:=λ_=>False) aA.Kq ((eU _ _).alloc (.cells #[.string ⟨#[]⟩] 9)).drew) 1;simpa using this
 clear aP aA f1 n1 n2 n3 CW;go_wp2_with fail
 go_region_law (first
  |(refine step_append_lies _ (by rfl) _ _ _ (by rfl) 0 9 i0 _ 1 16 underlying38 HI.o HZ.o.1 HZ.o.2.1 HZ.o.2.2 rfl (by omega) (.slice sa sn sc) q.kD.length (strCells q.kD) (by rfl) (Fr.gb (K:=λ_=>False) (w:=w1) (by first|exact((eU _ _).alloc _).drew|exact(eU _ _).drew.alloc _) cB.o.Og (by simp)) ⟨w1.heap.size,0,none⟩ 1 1 [.string ⟨#[]⟩] (by rfl) (by rfl) (World.news_of_block (cs:=#[.string ⟨#[]⟩]) (t:=9) (fr:=(0,0)) (heap_alloc_new w1 _)) (by simp[Value.oneCell']) (by omega) (by unfold maxLen;omega) (by omega) (Kc _) (w1.heap.size+1) (by simp) ?_;intro g cap w3 ai ah aV aj;have AD:=eu (cB.o.zuu (g:=g) (n':=q.kD.length+1) (cap:=cap) (sl:=q.kD++[[]]) (by first|exact((eU _ _).alloc _).drew|exact(eU _ _).drew.alloc _) (by simp[]) (by simpa[strCells]using ai) ah (by rcases aV with e|e;exact .inl e;exact .inr (by omega)));have d1:=al AD.o.1 1;have df:=ku AD.o.1 1;simp at d1;clear ai ah aV aj)
  |(go_simp;go_wp2_with (go_at_call 155;refine(WY _).mono ?_;rintro e w2⟨rfl,aB⟩;subst w2)))
 all_goals
  first|go_end0|refine Ju rfl rfl ?_
  exact⟨rfl,kU HD.o.1 HD.o.2.1 HD.o.2.2.1 HD.o.2.2.2.1 HD.o.2.2.2.2 AD.o.2⟩
variable {n:Nat}
theorem zql{d:Nat}(hd:d<=cap):∀W:World,(Instr.slice 38 (.slice (some ⟨g,0,none⟩) n cap) none (some (.int .i64 (d:Int))) none).run prog W=.ok (.slice (some ⟨g,0,none⟩) d cap) W:=by
 intro W;rw[run_slice_h W 38 _ _ _ underlying38 .i64 _ (by omega) (by omega)];have e3:prog.elem 38=9:=by kernel_rfl
 rw[e3,sizeOf9];simp[Result.andThen,sliced,Pf]
theorem zvm:∀W:World,(Instr.slice 38 (.slice none 0 0) none (some (.int .i64 0)) none).run prog W=.ok (.slice none 0 0) W:=by
 intro W;rw[run_slice_h W 38 _ _ _ underlying38 .i64 _ (by omega) (by omega)];have e3:prog.elem 38=9:=by kernel_rfl
 rw[e3,sizeOf9];simp[Result.andThen,sliced]
theorem BS.drew{Z:Nat->Prop}{w:World}{cb bb:Nat}{rv sv kv:Value}{fns:List Cp.Nm}{q:Bs}(h:BS Z w cb bb rv sv kv fns q):BS Z w.drew cb bb rv sv kv fns q:=by
 have f0:Fr (λ_=>False) w w.drew:=(eU _ _).drew;have hz:∀k,k<w.heap.size->Z k->¬False:=λ_ _ _ h=>h
 obtain⟨fv,bH,bT⟩:=h.OA;obtain⟨cP,dd,cg,jc⟩:=h.OL;obtain⟨vs,cK,aG⟩:=h.Pz;exact⟨⟨fv,bH,bT.Ku f0 hz (λ_ _ x=>x)⟩,h.Kq,⟨cP,dd,f0.gb cg (by simp),λi b cv h1 h2=>(jc i b cv h1 h2).Ku f0 hz (λ_ _ x=>x)⟩,f0.gb h.Og (by simp),⟨vs,f0.gb cK (by simp),aG.Ku f0 hz (λ_ _ x=>x)⟩,h.Ny,h.zk,h.ne,h.rc,h.sc,h.kc,h.rs,h.rk,h.sk⟩
theorem ES.drew{Z:Nat->Prop}{w w':World}{cb bb:Nat}{rv sv kv:Value}{fns:List Cp.Nm}{q:Bs}(h:ES Z w cb bb rv sv kv fns q w'):ES Z w cb bb rv sv kv fns q w'.drew:=by obtain⟨Z',aO,sv',bG,h1,h2,h3,h4,h5,h6⟩:=h;exact⟨Z',aO,sv',bG,h1,h2.drew,h3.drew,h4,h5,h6⟩
variable {c:Nat}{sv':Value}
theorem BS.cut(h:BS Z w cb bb rv sv kv fns q)(hs:w.ownsRow 0 9 1 sv' (q.drop c).kD.length (strCells (q.drop c).kD))(he:sv'.ownBlock=sv.ownBlock):ES Z w cb bb rv sv kv fns (q.drop c) (w.setCell ⟨bb,1,none⟩ sv'):=by
 have f0:Fr (λk=>k=bb) w (w.setCell ⟨bb,1,none⟩ sv'):=(eU _ _).set _ _ (.inl rfl);have f1:Fr (λk=>k=bb\/sv.ownBlock=some k\/kv.ownBlock=some k) w (w.setCell ⟨bb,1,none⟩ sv'):=f0.mono (λk e=>.inl e);have hz:∀k,k<w.heap.size->Z k->¬(k=bb):=λk _ hk he=>h.zk k hk (.inr (.inl he))
 have ns:Mv w sv sv':=λk hk=>.inl (by rw[<-he];exact hk)
 obtain⟨vs,cK,aG⟩:=h.Pz;exact ES.up (h.up f1 (h.Kq.set 1 _) (f0.gb hs (λk hk e=>h.sc.2 (by rw[<-he,hk,e]))) ⟨vs,f0.gb cK (λk hk e=>h.kc.2 (by rw[hk,e])),aG.Ku f0 hz (λ_ _ x=>x)⟩ ns (kq _ _) (λk hk=>h.sk k (by rw[<-he];exact hk))) f1 ns (kq _ _)
theorem zeg(h:BS Z w cb bb rv sv kv fns q)(aC:q.kD.length<=1000000000)(hc:c<=q.kD.length):
  Calls prog 166 #[.pointer (some ⟨bb,0,none⟩),.int .i64 c] w λe w'=>e=.returned (.tuple #[])/\ES Z w cb bb rv sv kv fns (q.drop c) w':=by
 have HH:=eu h;have c1:=al h.Kq 1;simp at c1;have df:=ku h.Kq 1;rcases Mq (lP h.Og)with hv|⟨g,cap,hv⟩
 .subst hv;have hlen:q.kD.length=0:=by
   rcases h.Og.2 with⟨_,h0⟩|⟨_,_,_,h0,_⟩
   .exact h0
   .cases h0
  obtain rfl:c=0:=by omega
  have py:=zvm;have GO:IntKind.i64.wrap 0=0:=by decide
  have HF:=eu (HH.o.cut (c:=0) (sv':=.slice none 0 0) (by simpa[Bs.drop]using h.Og) rfl);clear h hlen;go_enter func166,ntmps166;go_wp2_with fail
  go_region_law (fail)
  all_goals
   first|go_end0|refine Ju rfl rfl ?_
   exact⟨rfl,HF.o.drew⟩
 .subst hv;obtain⟨d,hd⟩:∃d,q.kD.length=d+c:=⟨q.kD.length-c,by omega⟩;have pg:IntKind.i64.wrap ((d:Int)+(c:Int)-(c:Int))=(d:Int):=by rw[P9 _ (by omega) (by omega)];omega
  have kS:d<=cap:=by
   rcases h.Og.2 with⟨h0,_⟩|⟨_,_,_,h0,_,_,hn,_⟩
   .cases h0
   .cases h0;omega
  rw[hd]at c1;have py:=zql (g:=g) (n:=d+c) kS;have oh:IntKind.i64.wrap (d:Int)=(d:Int):=P9 _ (by omega) (by omega);have e1:(q.drop c).kD.length=d:=by simp[Bs.drop];omega
  have HF:=eu (HH.o.cut (c:=c) (sv':=.slice (some ⟨g,0,none⟩) d cap) (by
   have:=Xl h.Og (i:=d) (by omega);rw[e1];have e2:strCells (q.drop c).kD=(strCells q.kD).take d:=by simp[Bs.drop,strCells,hd]
   rw[e2];exact this) rfl)
  clear h;go_enter func166,ntmps166;go_wp2_with fail
  go_region_law (fail)
  all_goals
   first|go_end0|refine Ju rfl rfl ?_
   exact⟨rfl,HF.o.drew⟩
end Go.Proofs.YtgahgkddaljmkaaGreatDoor
namespace Go.Proofs.YtgahgkddaljmkaaGreatDoor
open Tryz Th Cp
open Go.RowKit Go.Shelf
attribute [local go_sem] Oper.semAt_some
def zrT (P:Program) (l:Nat) (R:Ending->World->Prop):Exit->Act->World->Prop
 |.normal,_,w=>∃v w',(Instr.endRound l none).run P w=.ok v w'/\R (.returned v) w'
 |.panic chain,a,w=>a.defers=[]/\R (.panicked chain) w
 |_,_,_=>False
variable {n:Nat}{P:Program}{f:FuncId}{assign body:Code}{w:World}{R:Ending->World->Prop}
theorem zkH{F:Fence}{l:Nat}{fn:Func}{tmps:Array Value}(hF:F.fn f)(fj:P.funcs[f]?=some fn)(h:assign.wpIn (F.inRound l) n P (Exit.then (λa₁ w₁=>∃w₂,(Instr.beginRound l).run P w₁=.ok () w₂/\body.wpIn (F.inRound l) n P (zrT P l R) a₁ w₂) (λ_ _ _=>False))
   { tmps:=tmps,defers:=[] } w):
  RoundIn F n P l f tmps assign body w R:=by
 refine⟨hF,λc cs hr=>?_⟩
 let b:Frame:={ (default:Frame)with fn:=f,kind:=.normal,roundOf:=some l }
 have kf:Frame.round l f tmps assign body .normal=b.atR { tmps:=tmps,defers:=[] } [.code assign,.beginRound,.code body]:=by simp[Frame.round,Frame.atR,b]
 have ju:(F.inRound l).room ((c::cs).length+1+n):=hr;have rC:(F.inRound l).fn b.fn:=hF;obtain⟨e,a₁,w₁,hq,bj⟩:=h b [.beginRound,.code body] (c::cs) rfl rC ju;rw[<-kf]at bj;cases e with
 |normal=>
  obtain⟨w₂,pT,iE⟩:=hq;have s1:StepsIn (Machine.fenced P (F.inRound l)) P (lone (b.atR a₁ [.beginRound,.code body]) (c::cs) w₁) (lone (b.atR a₁ [.code body]) (c::cs) w₂):=
   .one (fenced_calm (fr:=b.atR a₁ [.beginRound,.code body]) rC ju rfl) (stepR_beginRound rfl pT)
  obtain⟨e₂,a₂,w₃,hq₂,harr₂⟩:=iE b [] (c::cs) rfl rC ju;cases e₂ with
  |normal=>obtain⟨v,w₄,cJ,hR⟩:=hq₂;exact⟨.returned v,w₄,hR,(Ka bj s1).trans (Ka harr₂ (.one (fenced_calm (fr:=b.atR a₂ []) rC ju rfl) (stepR_round_end rfl rfl cJ)))⟩
  |panic chain=>obtain⟨hd,hR⟩:=hq₂;obtain⟨todo,hs⟩:=harr₂;have fM:({ b.atR a₂ todo with mode:=.panicking chain }:Frame).leaving P w₃ (.panicked chain):=⟨rfl,hd,fn,fj⟩;exact⟨.panicked chain,w₃,hR,(Ka bj s1).trans (Ka hs (.one (fenced_leaving (fr:={ b.atR a₂ todo with mode:=.panicking chain }) rC ju fM) (step_leave_panicked fM)))⟩
  |ret=>exact hq₂.elim
  |exit id=>exact hq₂.elim
  |goto t=>exact hq₂.elim
  |outgrown=>exact hq₂.elim
 |exit id=>exact hq.elim
 |goto t=>exact hq.elim
 |ret=>exact hq.elim
 |panic chain=>exact hq.elim
 |outgrown=>exact hq.elim
theorem Yi{l:Nat}{args:Array Value}(h:Calls P f args w R):CallsIn (Fence.wide.inRound l) n P f args w R:=
 ⟨trivial,λcs _=>let⟨e,w',fr,r,s,x⟩:=h cs;⟨e,w',fr,r,comesIn_wide.2 s,x⟩⟩
theorem zsj(l Bn cb cap:Nat)(vs:List Value)(dJ:vs.length<=1000000000)(J:Nat->World->Prop)(Jx:List PanicEntry->World->Prop)(hY:∀i v W,J i W->vs[i]?=some v->YieldAt Fence.wide 0 prog l #[v] W λe W'=>(e=.returned (.bool true)/\J (i+1) W')\/(∃ch,e=.panicked ch/\Jx ch W'))(hJc:∀i W,J i W->W.cell? ⟨Bn,0,none⟩=some (.slice (some ⟨cb,0,none⟩) vs.length cap)/\∀j v,vs[j]?=some v->W.cell? ⟨cb,j,none⟩=some v)(W:World)(h0:J 0 W):
  CallsIn Fence.wide 1 prog 206 #[.func (.yield l) #[] #[],.pointer (some ⟨Bn,0,none⟩)] W λe W'=>(∃v,e=.returned v/\J vs.length W')\/(∃ch,e=.panicked ch/\Jx ch W'):=by
 have HY:=eu hY;have lT:=eu hJc;clear hY hJc;have c0:=(lT.o 0 W h0).1;have qx:=eu h0;clear h0;refine Jg func206 rfl trivial ?_ rfl;simp only[ntmps206,O3,Kh,My,Nat.reduceAdd,Nat.reduceSub,QX,QY,Q0,QZ,MQ,MP]
 gi_wp2
 gi_loopw [7] (λi wr=>∃k:Nat,i=.int .i64 k/\k<=vs.length/\Hid (J k wr)) (λi _=>vs.length+1-(intOf i).toNat)
 case atStart=>exact⟨0,rfl,Kc _,qx⟩
 case round=>
  obtain⟨k,rfl,hk,hJ⟩:=hrel;by_cases aj:k<vs.length
  .have gu:(k:Int)<(vs.length:Int):=by omega
   have dF:(0:Int)<=(k:Int):=by omega
   obtain⟨v,hv⟩:∃v,vs[k]?=some v:=⟨_,Iv aj⟩;have cv:=(lT.o k wr hJ.o).2 k v hv;obtain⟨fn,tmps,assign,body,hy,hR⟩:=HY.o k v wr hJ.o hv;have HR:=eu hR;have HV:=eu hv;clear hR hv c0
   gi_wp2
   refine HR.o.mono ?_;rintro e w3(⟨rfl,gP⟩|⟨ch,rfl,hx⟩)
   .have iu:=eu gP;clear gP hy HR cv
    gi_wp2
    go_roundw
    case rel=>exact⟨k+1,by go_num,by omega,iu⟩
    case measure=>simp[intOf];omega
   .exact⟨rfl,.inr ⟨ch,rfl,hx⟩⟩
  .have gu:¬(k:Int)<(vs.length:Int):=by omega
   have nQ:k=vs.length:=by omega
   have iu:Hid (J vs.length wr):=by rw[<-nQ];exact hJ
   clear nQ c0
   gi_wp2
   first|go_end0|refine Ju rfl rfl ?_
   exact .inl ⟨⟨_,rfl⟩,iu.o⟩
end Go.Proofs.YtgahgkddaljmkaaGreatDoor
namespace Go.Proofs.YtgahgkddaljmkaaGreatDoor
open Tryz Th Cp
open Go.RowKit Go.Shelf
def P1 (P:Program) (c:Code) (Q:Exit->Act->World->Prop) (a:Act) (w:World):Prop:=
 ∀(b:Frame)(k:List Item)(cs:List Frame),(P.funcs[b.fn]?).isSome=true->∃e a' w',Q e a' w'/\Arrives P (lone (b.at a (.code c::k)) cs w) b k cs e a' w'
section
variable {P:Program} {Q:Exit->Act->World->Prop} {a:Act} {w:World}
theorem zuS{c:Code}(h:c.wp P Q a w):P1 P c Q a w:=λb k cs _=>h b k cs
theorem zx9{x y:Code}(h:P1 P x (Exit.then (P1 P y Q) Q) a w):P1 P (Code.seq x y) Q a w:=by
 intro b k cs hv;obtain⟨e,a₁,w₁,hq,bj⟩:=h b (.code y::k) cs hv;cases e with
 |normal=>obtain⟨e₂,a₂,w₂,hq₂,harr₂⟩:=hq b k cs hv;exact⟨e₂,a₂,w₂,hq₂,.of_steps (.head Ko bj) harr₂⟩
 |exit id=>exact⟨_,a₁,w₁,hq,.of_steps (.one Ko) (.pass (x:=.code y) rfl (λ_ _=>.inl (by simp)) bj)⟩
 |goto l=>exact⟨_,a₁,w₁,hq,.of_steps (.one Ko) (.pass (x:=.code y) rfl (λ_ _=>.inl (by simp)) bj)⟩
 |ret=>exact⟨_,a₁,w₁,hq,.of_steps (.one Ko) (.pass (x:=.code y) rfl (λ_ _=>.inl (by simp)) bj)⟩
 |panic ch=>exact⟨_,a₁,w₁,hq,.of_steps (.one Ko) (.pass (x:=.code y) rfl (λ_ _=>.inl (by simp)) bj)⟩
 |outgrown=>exact⟨_,a₁,w₁,hq,.of_steps (.one Ko) (.pass (x:=.code y) rfl (λ_ _=>.inl (by simp)) bj)⟩
theorem Xh{x y:Code}(h:∀K:Act->World->Prop,(∀a w,P1 P y Q a w->K a w)->x.wp P (Exit.then K Q) a w):P1 P (Code.seq x y) Q a w:=zx9 (zuS (h _ λ_ _ h=>h))
theorem zks{id:Nat}{c:Code}(h:P1 P c (Exit.inBlock id Q) a w):P1 P (Code.block id c) Q a w:=by
 intro b k cs hv;obtain⟨e,a₁,w₁,hq,bj⟩:=h b (.inBlock id::k) cs hv;cases e with
 |normal=>exact⟨.normal,a₁,w₁,hq,.head Ja (JY bj (.one step_inBlock))⟩
 |exit id'=>
  by_cases hid:id'=id
  .simp only[Exit.inBlock,hid,kP]at hq;exact⟨.normal,a₁,w₁,hq,.head Ja (bj k (by simp[exitTo,hid]))⟩
  .simp only[Exit.inBlock,hid,nt]at hq;refine⟨.exit id',a₁,w₁,hq,λk' hk=>.head Ja (bj k' ?_)⟩;have:(id == id')=false:=by simp;exactλh=>hid h.symm
   simp[exitTo,this,hk]
 |goto l=>exact⟨_,a₁,w₁,hq,λk' hk=>.head Ja (bj k' (by simp[gotoIn,hk]))⟩
 |ret=>exact⟨_,a₁,w₁,hq,.of_steps (.one Ja) bj⟩
 |panic ch=>exact⟨_,a₁,w₁,hq,.of_steps (.one Ja) bj⟩
 |outgrown=>exact⟨_,a₁,w₁,hq,.of_steps (b:=b) (k:=k) (cs:=cs) (e:=.outgrown) (.one Ja) bj⟩
theorem zwI{c:Code}(I:Nat->Act->World->Prop)(n₀:Nat)(h₀:I n₀ a w)(round:∀n a w,I n a w->P1 P c (Exit.then (λa' w'=>∃n',n' < n/\I n' a' w') Q) a w):P1 P (Code.loop c) Q a w:=by
 intro b k cs hv;have key:∀n a w,I n a w->∃e a' w',Q e a' w'/\Arrives P (lone (b.at a (.code c::.inLoop c::k)) cs w) b k cs e a' w':=by
  intro n
  induction n using Nat.strongRecOn with
  |_ n ih=>
   intro a w hI;obtain⟨e,a₁,w₁,hq,bj⟩:=round n a w hI b (.inLoop c::k) cs hv;cases e with
   |normal=>obtain⟨n',aj,hI₁⟩:=hq;obtain⟨e₂,a₂,w₂,hq₂,harr₂⟩:=ih n' aj a₁ w₁ hI₁;exact⟨e₂,a₂,w₂,hq₂,.of_steps (JY bj (.one step_inLoop)) harr₂⟩
   |exit id=>exact⟨_,a₁,w₁,hq,.pass (x:=.inLoop c) rfl (λ_ _=>.inl (by simp)) bj⟩
   |goto l=>exact⟨_,a₁,w₁,hq,.pass (x:=.inLoop c) rfl (λ_ _=>.inl (by simp)) bj⟩
   |ret=>exact⟨_,a₁,w₁,hq,.pass (x:=.inLoop c) rfl (λ_ _=>.inl (by simp)) bj⟩
   |panic ch=>exact⟨_,a₁,w₁,hq,.pass (x:=.inLoop c) rfl (λ_ _=>.inl (by simp)) bj⟩
   |outgrown=>exact⟨_,a₁,w₁,hq,.pass (x:=.inLoop c) rfl (λ_ _=>.inl (by simp)) bj⟩
 obtain⟨e,a',w',hq,bj⟩:=key n₀ a w h₀;exact⟨e,a',w',hq,.of_steps (.one step_loop) bj⟩
theorem zsn{c:Code}(I:Nat->Act->World->Prop)(n₀:Nat)(h₀:I n₀ a w)(round:∀n a w,I n a w->∀K:Act->World->Prop,(∀a' w',(∃n',n' < n/\I n' a' w')->K a' w')->P1 P c (Exit.then K Q) a w):P1 P (Code.loop c) Q a w:=
 zwI I n₀ h₀ λn a w h=>round n a w h _ λ_ _ q=>q
def zrR (P:Program) (l:Nat) (Q:Exit->Act->World->Prop) (a':Act):Ending->World->Prop
 |.returned _,w₃=>∃w₄,(Instr.endLoop l).run P w₃=.ok none w₄/\Q .normal a' w₄
 |.panicked chain,w₃=>Q (.panic chain) a' w₃
 |.outgrown,_=>False
variable {assign body:Code}
theorem zng{g:Operand}{ps:Array Tmp}(h:∀fn,(P.funcs[fn]?).isSome=true->∃(l:Nat)(mark:List Deferred)(w₁:World)(d:Deferred)(w₁':World)(f:FuncId)(args:Array Value)(w₂:World),
   (Instr.enterLoop fn a.tmps ps assign body none).run P w=.ok (l,mark) w₁/\(resolve a.eval (rangeCall g l) 0).run P w₁=.ok d w₁'/\(invoke d.target d.args).run P w₁'=.ok (.enter f args) w₂ /\
   Calls P f args w₂ (zrR P l Q { a with defers:=mark++a.defers })):
  P1 P (Code.rangeFunc g ps assign body) Q a w:=by
 intro b k cs hv
 let b0:Frame:={ b with roundOf:=none }
 have aV:∀a k,b.at a k=b0.atR a k:=λa k=>rfl
 obtain⟨l,mark,w₁,d,w₁',f,args,w₂,he,xZ,hinv,rU⟩:=h b.fn hv;have gR:=stepR_rangeFunc (P:=P) (b:=b0) (a:=a) (k:=k) (cs:=cs) (w:=w) he xZ hinv;obtain⟨e,w₃,fr,hR,lD,fj,fM⟩:=rU (b0.atR { a with defers:=mark++a.defers } (.inRangeFunc l::k)::cs);cases e with
 |outgrown=>exact hR.elim
 |returned v=>obtain⟨w₄,cJ,hj⟩:=hR;refine⟨.normal,_,w₄,hj,?_⟩;rw[aV];show Steps P _ (lone (b0.atR _ k) cs w₄);refine .head gR (JY lD (.head ?_ (.one (stepR_endRangeFunc cJ))));rw[<-finish_atR_inRangeFunc l v];exact step_leave_returned fM
 |panicked chain=>refine⟨.panic chain,_,w₃,hR,.inRangeFunc l::k,?_⟩;rw[aV];refine .head gR (JY lD (.one ?_));rw[aV,<-Frame.raise_atR];exact step_leave_panicked fM
variable {f:FuncId}{R:Ending->World->Prop}
theorem zgQ{fn:Func}{c:Code}{args:Array Value}(hf:P.funcs[f]?=some fn)(hb:fn.body=some c)(h:P1 P c (bodyPostM Fence.wide 0 P fn R) { tmps:=args++Array.replicate (fn.ntmps-args.size) undef,defers:=[] } w):Calls P f args w R:=by
 intro cs
 let b:Frame:={ (default:Frame)with fn:=f,kind:=.normal,roundOf:=none }
 have gR:Frame.enter P f args .normal=b.at { tmps:=args++Array.replicate (fn.ntmps-args.size) undef,defers:=[] } [.code c]:=by simp[Frame.enter,Frame.at,hf,hb,b]
 obtain⟨e,a',w',hq,bj⟩:=h b [] cs (by show(P.funcs[f]?).isSome=true;rw[hf];rfl);rw[<-gR]at bj;have hF:Fence.wide.fn b.fn:=trivial;have hr:Fence.wide.room (cs.length+1+0):=room_wide _;cases e with
 |normal=>obtain⟨e',tR,rh,hR,hs,fj,hl⟩:=leaves_stepsInM a'.defers .returning w' { b.at a' []with mode:=.returning } cs rfl rfl rfl hf rfl hF hr hq;exact⟨e',tR,rh,hR,Comes.of_steps (JY bj (.one step_end)) (comesIn_wide.1 hs),fj,hl⟩
 |ret=>obtain⟨todo,hs₀⟩:=bj;obtain⟨e',tR,rh,hR,hs,fj,hl⟩:=leaves_stepsInM a'.defers .returning w' { b.at a' todo with mode:=.returning } cs rfl rfl rfl hf rfl hF hr hq;exact⟨e',tR,rh,hR,Comes.of_steps hs₀ (comesIn_wide.1 hs),fj,hl⟩
 |panic chain=>obtain⟨todo,hs₀⟩:=bj;obtain⟨e',tR,rh,hR,hs,fj,hl⟩:=leaves_stepsInM a'.defers (.panicking chain) w' { b.at a' todo with mode:=.panicking chain } cs rfl rfl rfl hf rfl hF hr hq;exact⟨e',tR,rh,hR,Comes.of_steps hs₀ (comesIn_wide.1 hs),fj,hl⟩
 |exit id=>exact hq.elim
 |goto l=>exact hq.elim
 |outgrown=>exact⟨.outgrown,w',b,hq,bj.resolve_left (by simp[b]),rfl,trivial⟩
end
def V1 (B:Nat) (J:Nat->World->Prop) (Jx:List PanicEntry->World->Prop) (i:Nat) (W2:World):Exit->Act->World->Prop
 |.normal,_,W3=>J (i+1) W3/\W3.heap[B]?=W2.heap[B]?/\W3.heap[B+1]?=W2.heap[B+1]?
 |.panic ch,a,W3=>a.defers=[]/\Jx ch W3/\W3.heap[B]?=W2.heap[B]?
 |_,_,_=>False
variable {assign body:Code}{Q:Exit->Act->World->Prop}{a:Act}{w:World}{Bn cb cap:Nat}{vs:List Value}
theorem zuT{p:Nat}{g:Operand}(hg:a.eval g=.func (.func 206) #[] #[.pointer (some ⟨Bn,0,none⟩)])(dJ:vs.length<=1000000000)(J:Nat->World->Prop)(Jx:List PanicEntry->World->Prop)(hall:∀i W o,J i W->J i (W.alloc o))(hput:∀i W l x o,J i W->w.heap.size<=l->W.heap[l]?=some x->(∀cs t f,x≠.cells cs t f)->J i (W.putObj l o))(h0:J 0 w)(hJc:∀i W,J i W->W.cell? ⟨Bn,0,none⟩=some (.slice (some ⟨cb,0,none⟩) vs.length cap)/\∀j v,vs[j]?=some v->W.cell? ⟨cb,j,none⟩=some v)(hround:∀l i v W,J i W->vs[i]?=some v->assign.wpIn (Fence.wide.inRound l) 0 prog (Exit.then (λa₁ W₁=>W₁=W/\∀W2,J i W2->W2.heap[w.heap.size]?=some (.deferred (some []))->(∃r,W2.heap[w.heap.size+1]?=some (.loop r)) ->
   body.wpIn (Fence.wide.inRound l) 0 prog (V1 w.heap.size J Jx i W2) a₁ W2) (λ_ _ _=>False)) { tmps:=a.tmps.setIfInBounds p v,defers:=[] } W)(hdone:∀W,J vs.length W->W.heap[w.heap.size]?=some (.deferred (some []))->Q .normal { a with defers:={ target:=.collected w.heap.size,args:=#[] }::a.defers } W)(hpan:∀ch W,Jx ch W->W.heap[w.heap.size]?=some (.deferred (some []))->Q (.panic ch) { a with defers:={ target:=.collected w.heap.size,args:=#[] }::a.defers } W):
  P1 prog (Code.rangeFunc g #[p] assign body) Q a w:=by
 refine zng ?_;intro fn fj;obtain⟨fd,oW⟩:=Option.isSome_iff_exists.1 fj;obtain⟨rec,de⟩:∃rec:LoopState->Option Code->Loop,rec=λst pe=>{ state:=st,pending:=pe,fn,tmps:=a.tmps,params:=#[p],assign,body,defers:=w.heap.size }:=⟨_,rfl⟩
 obtain⟨W1,eG⟩:∃W1,(w.alloc (.deferred (some []))).alloc (.loop (rec .ready none))=W1:=⟨_,rfl⟩;have wV:W1.heap[w.heap.size+1]?=some (.loop (rec .ready none)):=by rw[<-eG];have:=World.alloc_heap_new (w.alloc (.deferred (some []))) (.loop (rec .ready none));rwa [gM]at this
 have oN:W1.heap[w.heap.size]?=some (.deferred (some [])):=by rw[<-eG];exact(Below.heap_alloc _ _ _ (by simp)).trans (World.alloc_heap_new w _)
 have wQ:J 0 W1:=by rw[<-eG];exact hall _ _ _ (hall _ _ _ h0)
 have eg:∀args w,(callFunc 206 args).run prog w=.ok (.enter 206 args) w:=enters_of func206 (by kernel_rfl) rfl;refine⟨w.heap.size+1,[{ target:=.collected w.heap.size,args:=#[] }],W1,{ target:=.fn (.func 206) #[.pointer (some ⟨Bn,0,none⟩)],args:=#[.func (.yield (w.heap.size+1)) #[] #[]] },W1,206,
  #[.func (.yield (w.heap.size+1)) #[] #[],.pointer (some ⟨Bn,0,none⟩)],W1,?_,?_,?_,?_⟩
 .rw[<-eG,de];exact run_enterLoop_outer _ _ _ _ _
 .simp only[resolve,hg];simp[go_sem]
 .simp[invoke,go_sem,eg]
 .refine(callsIn_wide.1 (zsj (w.heap.size+1) Bn cb cap vs dJ (λi W=>J i W/\W.heap[w.heap.size+1]?=some (.loop (rec .ready none))/\W.heap[w.heap.size]?=some (.deferred (some [])))
   (λch W=>Jx ch W/\W.heap[w.heap.size]?=some (.deferred (some []))) ?_ (λi W hW=>hJc i W hW.1) W1 ⟨wQ,wV,oN⟩)).mono ?_
  .rintro i v W⟨hi,hl,hk⟩hv;have aj:w.heap.size+1<W.heap.size:=(Nz.1 hl).1;have hy:=run_yield (P:=prog) (args:=#[v]) hl (by rw[de];rfl);rw[de]at hy;have et:(((#[p]:Array Tmp).zip #[v]).foldl (λtmps(t,a)=>tmps.setIfInBounds t a) a.tmps)=a.tmps.setIfInBounds p v:=by simp
   simp only at hy;rw[et]at hy;refine⟨fn,_,assign,body,hy,zkH trivial oW ?_⟩;have hr:=hround (w.heap.size+1) i v W hi hv;refine wpIn_mono hr ?_;rintro e a1 oG hp;cases e with
   |normal=>
    obtain⟨rfl,iE⟩:=hp;refine⟨_,run_beginRound hl (by rw[de]),?_⟩;have aC:(oG.putObj (w.heap.size+1) (.loop { rec .ready none with state:=.busy })).heap[w.heap.size+1]?=some (.loop { rec .ready none with state:=.busy }):=World.putObj_heap_same aj;have aG:(oG.putObj (w.heap.size+1) (.loop { rec .ready none with state:=.busy })).heap[w.heap.size]?=some (.deferred (some [])):=(World.putObj_heap_other (by omega)).trans hk;refine wpIn_mono (iE _ (hput i oG _ _ _ hi (by omega) hl (by simp)) aG ⟨_,aC⟩) ?_;rintro e3 a3 W3 j4;cases e3 with
    |normal=>obtain⟨gP,dG,cW⟩:=j4;rw[aG]at dG;rw[aC]at cW;have cJ:=run_endRound (P:=prog) none cW;refine⟨_,_,cJ,.inl ⟨rfl,hput _ W3 _ _ _ gP (by omega) cW (by simp),?_,(World.putObj_heap_other (by omega)).trans dG⟩⟩;rw[World.putObj_heap_same (Nz.1 cW).1,de];rfl
    |panic ch=>obtain⟨Em,gP,dG⟩:=j4;rw[aG]at dG;exact⟨Em,.inr ⟨ch,rfl,gP,dG⟩⟩
    |ret=>exact j4.elim
    |exit id=>exact j4.elim
    |goto t=>exact j4.elim
    |outgrown=>exact j4.elim
   |panic ch=>exact hp.elim
   |ret=>exact hp.elim
   |exit id=>exact hp.elim
   |goto t=>exact hp.elim
   |outgrown=>exact hp.elim
  .rintro e W2(⟨v,rfl,hi,hl,hk⟩|⟨ch,rfl,hx,hk⟩)
   .refine⟨_,by have:=run_endLoop (P:=prog) hl (by rw[de];simp);rw[de]at this;exact this,hdone _ (hput _ _ _ _ _ hi (by omega) hl (by simp)) ((World.putObj_heap_other (by omega)).trans hk)⟩
   .exact hpan ch W2 hx hk
end Go.Proofs.YtgahgkddaljmkaaGreatDoor
