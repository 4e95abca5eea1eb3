/- Mach37 .. Mach42 -/
import Derived.Test.YtgahgkddaljmkaaGreatDoorT6
set_option maxRecDepth 100000
set_option maxHeartbeats 4000000
namespace Go.Proofs.YtgahgkddaljmkaaGreatDoor
open Tryz
open Go.RowKit Go.Shelf
def wpV (P:Program) (c:Code) (Q:Exit->Act->World->Prop) (a:Act) (w:World):Prop:=
 ∀ (b:Frame) (k:List Item) (cs:List Frame),(P.funcs[b.fn]?).isSome=true->∃ e a' w',Q e a' w'/\Arrives P (lone (b.at a (.code c::k)) cs w) b k cs e a' w'
section
variable {P:Program} {Q:Exit->Act->World->Prop} {a:Act} {w:World}{c:Code}
theorem zuS(h:c.wp P Q a w):wpV P c Q a w:=fun b k cs _=>h b k cs
theorem zx9{x y:Code}(h:wpV P x (Exit.then (wpV P y Q) Q) a w):wpV P (Code.seq x y) Q a w:=by
 intro b k cs hv;obtain ⟨e,a₁,w₁,hq,bj⟩:=h b (.code y::k) cs hv;cases e with
 |normal=>
  obtain ⟨e₂,a₂,w₂,hq₂,harr₂⟩:=hq b k cs hv;exact ⟨e₂,a₂,w₂,hq₂,.of_steps (.head step_seq bj) harr₂⟩
 |exit id=>exact ⟨_,a₁,w₁,hq,.of_steps (.one step_seq) (.pass (x:=.code y) rfl (fun _ _=>.inl (by simp)) bj)⟩
 |goto l=>exact ⟨_,a₁,w₁,hq,.of_steps (.one step_seq) (.pass (x:=.code y) rfl (fun _ _=>.inl (by simp)) bj)⟩
 |ret=>exact ⟨_,a₁,w₁,hq,.of_steps (.one step_seq) (.pass (x:=.code y) rfl (fun _ _=>.inl (by simp)) bj)⟩
 |panic ch=>exact ⟨_,a₁,w₁,hq,.of_steps (.one step_seq) (.pass (x:=.code y) rfl (fun _ _=>.inl (by simp)) bj)⟩
 |outgrown=>exact ⟨_,a₁,w₁,hq,.of_steps (.one step_seq) (.pass (x:=.code y) rfl (fun _ _=>.inl (by simp)) bj)⟩
theorem zfl{x y:Code}(h:∀ K:Act->World->Prop,(∀ a w,wpV P y Q a w->K a w)->x.wp P (Exit.then K Q) a w):wpV P (Code.seq x y) Q a w:=zx9 (zuS (h _ fun _ _ h=>h))
theorem zks{id:Nat}(h:wpV P c (Exit.inBlock id Q) a w):wpV P (Code.block id c) Q a w:=by
 intro b k cs hv;obtain ⟨e,a₁,w₁,hq,bj⟩:=h b (.inBlock id::k) cs hv;cases e with
 |normal=>exact ⟨.normal,a₁,w₁,hq,.head step_block (Steps.trans bj (.one step_inBlock))⟩
 |exit id'=>
  by_cases hid:id'=id
  ·simp only[Exit.inBlock,hid,if_true]at hq;exact ⟨.normal,a₁,w₁,hq,.head step_block (bj k (by simp[exitTo,hid]))⟩
  ·simp only[Exit.inBlock,hid,if_false]at hq;refine ⟨.exit id',a₁,w₁,hq,fun k' hk=>.head step_block (bj k' ?_)⟩;have:(id == id')=false:=by simp;exact fun h=>hid h.symm
   simp[exitTo,this,hk]
 |goto l=>exact ⟨_,a₁,w₁,hq,fun k' hk=>.head step_block (bj k' (by simp[gotoIn,hk]))⟩
 |ret=>exact ⟨_,a₁,w₁,hq,.of_steps (.one step_block) bj⟩
 |panic ch=>exact ⟨_,a₁,w₁,hq,.of_steps (.one step_block) bj⟩
 |outgrown=>exact ⟨_,a₁,w₁,hq,.of_steps (b:=b) (k:=k) (cs:=cs) (e:=.outgrown) (.one step_block) bj⟩
theorem zwI(I:Nat->Act->World->Prop)(n₀:Nat)(h₀:I n₀ a w)(round:∀ n a w,I n a w->wpV P c (Exit.then (fun a' w'=>∃ n',n' < n/\I n' a' w') Q) a w):wpV P (Code.loop c) Q a w:=by
 intro b k cs hv;have key:∀ n a w,I n a w->∃ e a' w',Q e a' w'/\Arrives P (lone (b.at a (.code c::.inLoop c::k)) cs w) b k cs e a' w':=by
  intro n
  induction n using Nat.strongRecOn with
  |_ n ih=>
   intro a w hI;obtain ⟨e,a₁,w₁,hq,bj⟩:=round n a w hI b (.inLoop c::k) cs hv;cases e with
   |normal=>
    obtain ⟨n',aj,hI₁⟩:=hq;obtain ⟨e₂,a₂,w₂,hq₂,harr₂⟩:=ih n' aj a₁ w₁ hI₁;exact ⟨e₂,a₂,w₂,hq₂,.of_steps (Steps.trans bj (.one step_inLoop)) harr₂⟩
   |exit id=>exact ⟨_,a₁,w₁,hq,.pass (x:=.inLoop c) rfl (fun _ _=>.inl (by simp)) bj⟩
   |goto l=>exact ⟨_,a₁,w₁,hq,.pass (x:=.inLoop c) rfl (fun _ _=>.inl (by simp)) bj⟩
   |ret=>exact ⟨_,a₁,w₁,hq,.pass (x:=.inLoop c) rfl (fun _ _=>.inl (by simp)) bj⟩
   |panic ch=>exact ⟨_,a₁,w₁,hq,.pass (x:=.inLoop c) rfl (fun _ _=>.inl (by simp)) bj⟩
   |outgrown=>exact ⟨_,a₁,w₁,hq,.pass (x:=.inLoop c) rfl (fun _ _=>.inl (by simp)) bj⟩
 obtain ⟨e,a',w',hq,bj⟩:=key n₀ a w h₀;exact ⟨e,a',w',hq,.of_steps (.one step_loop) bj⟩
theorem zsn(I:Nat->Act->World->Prop)(n₀:Nat)(h₀:I n₀ a w)(round:∀ n a w,I n a w->∀ K:Act->World->Prop,(∀ a' w',(∃ n',n' < n/\I n' a' w')->K a' w')->wpV P c (Exit.then K Q) a w):wpV P (Code.loop c) Q a w:=
 zwI I n₀ h₀ fun n a w h=>round n a w h _ fun _ _ q=>q
def zrR (P:Program) (l:Nat) (Q:Exit->Act->World->Prop) (a':Act):Ending->World->Prop
 |.returned _,w₃=>∃ w₄,(Instr.endLoop l).run P w₃=.ok none w₄/\Q .normal a' w₄
 |.panicked chain,w₃=>Q (.panic chain) a' w₃
 |.outgrown,_=>False
variable {assign body:Code}
theorem zng{g:Operand}{ps:Array Tmp}(h:∀ fn,(P.funcs[fn]?).isSome=true->∃ (l:Nat) (mark:List Deferred) (w₁:World) (d:Deferred) (w₁':World) (f:FuncId) (args:Array Value) (w₂:World),
   (Instr.enterLoop fn a.tmps ps assign body none).run P w=.ok (l,mark) w₁/\(resolve a.eval (rangeCall g l) 0).run P w₁=.ok d w₁'/\(invoke d.target d.args).run P w₁'=.ok (.enter f args) w₂ /\
   Calls P f args w₂ (zrR P l Q { a with defers:=mark++a.defers })):
  wpV P (Code.rangeFunc g ps assign body) Q a w:=by
 intro b k cs hv
 let b0:Frame:={ b with roundOf:=none }
 have aV:∀ a k,b.at a k=b0.atR a k:=fun a k=>rfl
 obtain ⟨l,mark,w₁,d,w₁',f,args,w₂,he,xZ,hinv,rU⟩:=h b.fn hv;have gR:=stepR_rangeFunc (P:=P) (b:=b0) (a:=a) (k:=k) (cs:=cs) (w:=w) he xZ hinv;obtain ⟨e,w₃,fr,hR,lD,fj,fM⟩:=rU (b0.atR { a with defers:=mark++a.defers } (.inRangeFunc l::k)::cs);cases e with
 |outgrown=>exact hR.elim
 |returned v=>
  obtain ⟨w₄,cJ,hj⟩:=hR;refine ⟨.normal,_,w₄,hj,?_⟩;rw[aV];show Steps P _ (lone (b0.atR _ k) cs w₄);refine .head gR (Steps.trans lD (.head ?_ (.one (stepR_endRangeFunc cJ))));rw[<-finish_atR_inRangeFunc l v];exact step_leave_returned fM
 |panicked chain=>
  refine ⟨.panic chain,_,w₃,hR,.inRangeFunc l::k,?_⟩;rw[aV];refine .head gR (Steps.trans lD (.one ?_));rw[aV,<-Frame.raise_atR];exact step_leave_panicked fM
theorem zgQ{f:FuncId}{fn:Func}{args:Array Value}{R:Ending->World->Prop}(hf:P.funcs[f]?=some fn)(hb:fn.body=some c)(h:wpV P c (bodyPostM Fence.wide 0 P fn R) { tmps:=args++Array.replicate (fn.ntmps-args.size) undef,defers:=[] } w):Calls P f args w R:=by
 intro cs
 let b:Frame:={ (default:Frame) with fn:=f,kind:=.normal,roundOf:=none }
 have gR:Frame.enter P f args .normal=b.at { tmps:=args++Array.replicate (fn.ntmps-args.size) undef,defers:=[] } [.code c]:=by
  simp[Frame.enter,Frame.at,hf,hb,b]
 obtain ⟨e,a',w',hq,bj⟩:=h b [] cs (by show (P.funcs[f]?).isSome=true;rw[hf];rfl);rw[<-gR]at bj;have hF:Fence.wide.fn b.fn:=trivial;have hr:Fence.wide.room (cs.length+1+0):=room_wide _;cases e with
 |normal=>
  obtain ⟨e',tR,rh,hR,hs,fj,hl⟩:=leaves_stepsInM a'.defers .returning w' { b.at a' [] with mode:=.returning } cs rfl rfl rfl hf rfl hF hr hq;exact ⟨e',tR,rh,hR,Comes.of_steps (Steps.trans bj (.one step_end)) (comesIn_wide.1 hs),fj,hl⟩
 |ret=>
  obtain ⟨todo,hs₀⟩:=bj;obtain ⟨e',tR,rh,hR,hs,fj,hl⟩:=leaves_stepsInM a'.defers .returning w' { b.at a' todo with mode:=.returning } cs rfl rfl rfl hf rfl hF hr hq;exact ⟨e',tR,rh,hR,Comes.of_steps hs₀ (comesIn_wide.1 hs),fj,hl⟩
 |panic chain=>
  obtain ⟨todo,hs₀⟩:=bj;obtain ⟨e',tR,rh,hR,hs,fj,hl⟩:=leaves_stepsInM a'.defers (.panicking chain) w' { b.at a' todo with mode:=.panicking chain } cs rfl rfl rfl hf rfl hF hr hq;exact ⟨e',tR,rh,hR,Comes.of_steps hs₀ (comesIn_wide.1 hs),fj,hl⟩
 |exit id=>exact hq.elim
 |goto l=>exact hq.elim
 |outgrown=>exact ⟨.outgrown,w',b,hq,bj.resolve_left (by simp[b]),rfl,trivial⟩
end
def bodyP (B:Nat) (J:Nat->World->Prop) (Jx:List PanicEntry->World->Prop) (i:Nat) (W2:World):Exit->Act->World->Prop
 |.normal,_,W3=>J (i+1) W3/\W3.heap[B]?=W2.heap[B]?/\W3.heap[B+1]?=W2.heap[B+1]?
 |.panic ch,a,W3=>a.defers=[]/\Jx ch W3/\W3.heap[B]?=W2.heap[B]?
 |_,_,_=>False
variable {assign body:Code}{w:World}{cap:Nat}{vs:List Value}
theorem zuT{p:Nat}{g:Operand}{Q:Exit->Act->World->Prop}{a:Act}{Bn cb:Nat}(hg:a.eval g=.func (.func 206) #[] #[.pointer (some ⟨Bn,0,none⟩)])(dJ:vs.length<=1000000000)(J:Nat->World->Prop)(Jx:List PanicEntry->World->Prop)(hall:∀ i W o,J i W->J i (W.alloc o))(hput:∀ i W l x o,J i W->w.heap.size<=l->W.heap[l]?=some x->(∀ cs t f,x≠.cells cs t f)->J i (W.putObj l o))(h0:J 0 w)(hJc:∀ i W,J i W->W.cell? ⟨Bn,0,none⟩=some (.slice (some ⟨cb,0,none⟩) vs.length cap)/\∀ j v,vs[j]?=some v->W.cell? ⟨cb,j,none⟩=some v)(hround:∀ l i v W,J i W->vs[i]?=some v->assign.wpIn (Fence.wide.inRound l) 0 prog (Exit.then (fun a₁ W₁=>W₁=W/\∀ W2,J i W2->W2.heap[w.heap.size]?=some (.deferred (some []))->(∃ r,W2.heap[w.heap.size+1]?=some (.loop r)) ->
   body.wpIn (Fence.wide.inRound l) 0 prog (bodyP w.heap.size J Jx i W2) a₁ W2) (fun _ _ _=>False)) { tmps:=a.tmps.setIfInBounds p v,defers:=[] } W)(hdone:∀ W,J vs.length W->W.heap[w.heap.size]?=some (.deferred (some []))->Q .normal { a with defers:={ target:=.collected w.heap.size,args:=#[] }::a.defers } W)(hpan:∀ ch W,Jx ch W->W.heap[w.heap.size]?=some (.deferred (some []))->Q (.panic ch) { a with defers:={ target:=.collected w.heap.size,args:=#[] }::a.defers } W):
  wpV prog (Code.rangeFunc g #[p] assign body) Q a w:=by
 refine zng ?_;intro fn fj;obtain ⟨fd,oW⟩:=Option.isSome_iff_exists.1 fj;obtain ⟨rec,de⟩:∃ rec:LoopState->Option Code->Loop,rec=fun st pe=>{ state:=st,pending:=pe,fn,tmps:=a.tmps,params:=#[p],assign,body,defers:=w.heap.size }:=⟨_,rfl⟩
 obtain ⟨W1,eG⟩:∃ W1,(w.alloc (.deferred (some []))).alloc (.loop (rec .ready none))=W1:=⟨_,rfl⟩;have wV:W1.heap[w.heap.size+1]?=some (.loop (rec .ready none)):=by
  rw[<-eG];have:=World.alloc_heap_new (w.alloc (.deferred (some []))) (.loop (rec .ready none));rwa [World.size_alloc]at this
 have oN:W1.heap[w.heap.size]?=some (.deferred (some [])):=by
  rw[<-eG];exact (Below.heap_alloc _ _ _ (by simp)).trans (World.alloc_heap_new w _)
 have wQ:J 0 W1:=by rw[<-eG];exact hall _ _ _ (hall _ _ _ h0)
 have eg:∀ args w,(callFunc 206 args).run prog w=.ok (.enter 206 args) w:=enters_of func206 (by kernel_rfl) rfl;refine ⟨w.heap.size+1,[{ target:=.collected w.heap.size,args:=#[] }],W1,{ target:=.fn (.func 206) #[.pointer (some ⟨Bn,0,none⟩)],args:=#[.func (.yield (w.heap.size+1)) #[] #[]] },W1,206,
  #[.func (.yield (w.heap.size+1)) #[] #[],.pointer (some ⟨Bn,0,none⟩)],W1,?_,?_,?_,?_⟩
 ·rw[<-eG,de];exact run_enterLoop_outer _ _ _ _ _
 ·simp only[resolve,hg];simp[go_sem]
 ·simp[invoke,go_sem,eg]
 ·refine (callsIn_wide.1 (zsj (w.heap.size+1) Bn cb cap vs dJ (fun i W=>J i W/\W.heap[w.heap.size+1]?=some (.loop (rec .ready none))/\W.heap[w.heap.size]?=some (.deferred (some [])))
   (fun ch W=>Jx ch W/\W.heap[w.heap.size]?=some (.deferred (some []))) ?_ (fun i W hW=>hJc i W hW.1) W1 ⟨wQ,wV,oN⟩)).mono ?_
  ·rintro i v W ⟨hi,hl,hk⟩ hv;have aj:w.heap.size+1<W.heap.size:=(zyY.1 hl).1;have hy:=run_yield (P:=prog) (args:=#[v]) hl (by rw[de];rfl);rw[de]at hy;have et:(((#[p]:Array Tmp).zip #[v]).foldl (fun tmps (t,a)=>tmps.setIfInBounds t a) a.tmps)=a.tmps.setIfInBounds p v:=by simp
   simp only at hy;rw[et]at hy;refine ⟨fn,_,assign,body,hy,zkH trivial oW ?_⟩;have hr:=hround (w.heap.size+1) i v W hi hv;refine wpIn_mono hr ?_;rintro e a1 oG hp;cases e with
   |normal=>
    obtain ⟨rfl,iE⟩:=hp;refine ⟨_,run_beginRound hl (by rw[de]),?_⟩;have aC:(oG.putObj (w.heap.size+1) (.loop { rec .ready none with state:=.busy })).heap[w.heap.size+1]?=some (.loop { rec .ready none with state:=.busy }):=World.putObj_heap_same aj;have aG:(oG.putObj (w.heap.size+1) (.loop { rec .ready none with state:=.busy })).heap[w.heap.size]?=some (.deferred (some [])):=(World.putObj_heap_other (by omega)).trans hk;refine wpIn_mono (iE _ (hput i oG _ _ _ hi (by omega) hl (by simp)) aG ⟨_,aC⟩) ?_;rintro e3 a3 W3 j4;cases e3 with
    |normal=>
     obtain ⟨gP,dG,cW⟩:=j4;rw[aG]at dG;rw[aC]at cW;have cJ:=run_endRound (P:=prog) none cW;refine ⟨_,_,cJ,.inl ⟨rfl,hput _ W3 _ _ _ gP (by omega) cW (by simp),?_,(World.putObj_heap_other (by omega)).trans dG⟩⟩;rw[World.putObj_heap_same (zyY.1 cW).1,de];rfl
    |panic ch=>
     obtain ⟨Em,gP,dG⟩:=j4;rw[aG]at dG;exact ⟨Em,.inr ⟨ch,rfl,gP,dG⟩⟩
    |ret=>exact j4.elim
    |exit id=>exact j4.elim
    |goto t=>exact j4.elim
    |outgrown=>exact j4.elim
   |panic ch=>exact hp.elim
   |ret=>exact hp.elim
   |exit id=>exact hp.elim
   |goto t=>exact hp.elim
   |outgrown=>exact hp.elim
  ·rintro e W2 (⟨v,rfl,hi,hl,hk⟩|⟨ch,rfl,hx,hk⟩)
   ·refine ⟨_,by have:=run_endLoop (P:=prog) hl (by rw[de];simp);rw[de]at this;exact this,hdone _ (hput _ _ _ _ _ hi (by omega) hl (by simp)) ((World.putObj_heap_other (by omega)).trans hk)⟩
   ·exact hpan ch W2 hx hk
end Go.Proofs.YtgahgkddaljmkaaGreatDoor
namespace Go.Proofs.YtgahgkddaljmkaaGreatDoor
open Tryz
open Go.RowKit
variable {m m':MSt}
theorem zb4{c:Nat}{f:MSt->Option (Except Nat MSt)}(hf:∀ m1,f m1=some (.ok m')->m'.o.pb=m1.o.pb)(h:aft (m.zdI c) f=some (.ok m')):m'.o.pb=m.o.pb:=by
 unfold aft at h;split at h
 ·cases h
 ·cases h
 ·next m1 hn=>rw[hf m1 h,zqH hn]
theorem zha{s:Option Sto}(h:m.put s=some (.ok m')):m'.o.pb=m.o.pb:=by
 unfold MSt.put at h;cases s with
 |none=>cases h
 |some q=>cases h;rfl
theorem zco{v:Int}(h:m.zau v=some (.ok m')):m'.o.pb=m.o.pb:=zb4 (fun _ h1=>zha h1) h
theorem zl6{hd:Int}{c:Nat}(h:m.build hd c=some (.ok m')):m'.o.pb=m.o.pb:=by
 unfold MSt.build at h;refine zb4 (fun m1 h1=>?_) h
 first
  |exact zha h1
  |(split at h1 <;> first|exact zha h1|cases h1)
theorem zik{b:Bool}(h:m.zcN b=some (.ok m')):m'.o.pb=m.o.pb:=zl6 h
theorem zrj{sg:ByteArray}(h:m.compute sg=some (.ok m')):m'.o.pb=m.o.pb:=by
 unfold MSt.compute at h;split at h
 ·cases h
 ·cases h
 ·split at h
  ·cases h
  ·cases h
  ·split at h
   ·cases h
   ·next s1 hs=>
    unfold MSt.calc at h;split at h
    ·(have:=zco h;exact this)
    ·split at h
     ·(have:=zco h;exact this)
     ·split at h
      ·(have:=zco h;exact this)
      ·split at h
       ·split at h
        ·cases h
        ·(have:=zco h;exact this)
       ·split at h
        ·(have:=zik h;exact this)
        ·split at h
         ·(have:=zik h;exact this)
         ·cases h
theorem zu9(h:m.zdy=some (.ok m')):m'.o.pb=m.o.pb:=by
 unfold MSt.zdy at h;split at h
 ·cases h
 ·refine zb4 (fun m1 h1=>?_) h;simp only[zyX,zAb,exists_eq_right]at h1;unfold MSt.begun at h1;split at h1
  ·cases h1
  ·split at h1
   ·cases h1
   ·split at h1
    ·cases h1
    ·split at h1
     ·cases h1
     ·split at h1
      ·cases h1
      ·split at h1
       ·cases h1
       ·cases h1;rfl
variable {b:Nat}
theorem zxe{a:Nat}(h:m.call a b=some (.ok m')):m'.o.pb=m.o.pb:=by
 unfold MSt.call at h;split at h
 ·cases h
 ·refine zb4 (fun m1 h1=>?_) h;simp only[zyX,zAb,exists_eq_right]at h1;unfold MSt.called at h1;split at h1
  ·cases h1
  ·split at h1
   ·cases h1
   ·split at h1
    ·cases h1
    ·split at h1
     ·cases h1
     ·split at h1
      ·cases h1
      ·split at h1
       ·cases h1
       ·split at h1
        ·cases h1
        ·cases h1;rfl
variable {sl:List Nat}
theorem zi1{c:Nat}{b:Bool}(h:m.za5 sl c=some (.ok (b,m'))):m'.o.pb=m.o.pb:=by
 unfold MSt.za5 at h;split at h
 ·cases h
 ·split at h
  ·cases h
  ·split at h
   ·cases h
   ·split at h
    ·split at h
     ·cases h
     ·cases h
     ·next hx=>cases h;rw[zqt hx]
    ·split at h
     ·cases h
     ·split at h
      ·cases h
      ·cases h
      ·next hx=>cases h;exact zxe hx
theorem zji{sl:List Nat}:∀ {g:Nat} {m m':MSt},MSt.za1 sl g m=some (.ok m')->m'.o.pb=m.o.pb
 |0,_,_,h=>by cases h
 |g+1,m,m',h=>by
  rw[MSt.za1]at h;split at h
  ·cases h;rfl
  ·split at h
   ·cases h
   ·split at h
    ·cases h
    ·split at h
     ·split at h
      ·cases h
      ·(have:=zji h;exact this)
     ·split at h
      ·split at h
       ·cases h
       ·simp only[zyX,zAb]at h;obtain ⟨s',_,rfl⟩:=h;rfl
      ·split at h
       ·split at h
        ·cases h
        ·cases h
        ·next q hq=>
         obtain ⟨b,m2⟩:=q;split at h
         ·cases h;exact zi1 hq
         ·rw[zji h];exact zi1 hq
       ·cases h
theorem zlm{a:Nat}(h:m.zcy sl a=some (.ok m')):m'.o.pb=m.o.pb:=by
 unfold MSt.zcy at h;split at h
 ·cases h
 ·split at h
  ·cases h
  ·split at h
   ·cases h
   ·split at h
    ·exact zu9 h
    ·exact zji h
theorem zqo(h:m.enter sl=some (.ok m')):m'.o.pb=m.o.pb:=by
 unfold MSt.enter at h;split at h
 ·cases h
 ·split at h
  ·split at h
   ·cases h
   ·(have:=zlm h;exact this)
  ·exact zlm h
theorem zwk{c:Nat}(h:m.split c b=some (.ok m')):m'.o.pb=m.o.pb:=by
 unfold MSt.split at h;split at h
 ·cases h
 ·split at h
  ·refine zb4 (fun m1 h1=>?_) h;simp only[zyX,zAb,exists_eq_right]at h1;unfold MSt.zqM at h1;split at h1
   ·cases h1
   ·split at h1
    ·cases h1
    ·split at h1
     ·cases h1
     ·split at h1
      ·cases h1
      ·cases h1;rfl
  ·cases h
theorem znw{m m':MSt}{y:Int}:∀ {zao:List (Nat × Nat × Nat)},m.zcc y zao=some (.ok m')->m'.o.pb=m.o.pb
 |[],h=>by cases h
 |(t,c,b)::l,h=>by
  rw[MSt.zcc]at h;split at h
  ·exact zwk h
  ·exact znw h
theorem zxT{i:Ins}(h:m.step sl i=some (.ok m')):m'.o.pb=m.o.pb:=by
 cases i with
 |push k=>
  refine zb4 (fun m1 h1=>?_) h;split at h1
  ·cases h1
  ·split at h1
   ·cases h1
   ·exact zha h1
 |zcW f=>
  refine zb4 (fun m1 h1=>?_) h;split at h1
  ·cases h1
  ·exact zha h1
 |num x=>exact zco h
 |pack t c=>
  simp only[MSt.step,MSt.pack]at h;split at h
  ·exact zl6 h
  ·cases h
 |close b c=>
  simp only[MSt.step,MSt.pack]at h;split at h
  ·exact zl6 h
  ·cases h
 |hold b c=>
  simp only[MSt.step,MSt.hold]at h;split at h
  ·exact zb4 (fun m1 h1=>zha h1) h
  ·cases h
 |fill k c=>
  simp only[MSt.step,MSt.zln]at h;split at h
  ·cases h
  ·split at h
   ·cases h
   ·split at h
    ·cases h
    ·split at h
     ·cases h
     ·split at h
      ·exact zha h
      ·cases h
 |wait b=>
  simp only[MSt.step,MSt.zcH]at h;split at h
  ·exact zb4 (fun m1 h1=>zha h1) h
  ·cases h
 |zbF c=>
  simp only[MSt.step,MSt.zcH]at h;split at h
  ·exact zb4 (fun m1 h1=>zha h1) h
  ·cases h
 |zci c=>
  simp only[MSt.step,zyX,zAb,exists_eq_right]at h;unfold MSt.zci at h;split at h
  ·cases h;rfl
  ·cases h
 |zbX=>
  simp only[MSt.step,zyX]at h;obtain ⟨q,_,h2⟩:=h;cases q with
  |error k=>cases h2
  |ok v=>cases h2;rfl
 |comp sg=>exact zrj h
 |enter=>exact zqo h
 |jump b=>cases h;rfl
 |choose zao=>
  simp only[MSt.step,MSt.choose]at h;split at h
  ·cases h
  ·split at h
   ·exact znw h
   ·cases h
theorem zxb(h:m.zsJ=.ok m'):m'.o.pb=m.o.pb:=by
 unfold MSt.zsJ at h;split at h
 ·cases h
 ·cases h;rfl
end Go.Proofs.YtgahgkddaljmkaaGreatDoor
namespace Go.Proofs.YtgahgkddaljmkaaGreatDoor
open Tryz
open Go.RowKit Go.Shelf
attribute [local go_sem ↓] Go.wp_at_zero Go.wp_at_succ
attribute [local go_sem] Oper.semAt_some
def CAt (w:World) (mb wb:Nat) (fv pv:Value) (cd:List (Nat × List Ins)):Prop:=
 ∃ pb cap,pv=.slice (some ⟨pb,0,none⟩) cd.length cap/\pb<w.heap.size/\¬ MB mb wb fv pb /\
  ∀ (i n:Nat) (is:List Ins),cd[i]?=some (n,is)->n<=1000000/\is.length<=1000000000/\w.cell? ⟨pb,i*2,none⟩=some (.int .i64 n) /\
   ∃ cb cp vs,w.cell? ⟨pb,i*2+1,none⟩=some (.slice (some ⟨cb,0,none⟩) is.length cp)/\cb<w.heap.size/\¬ MB mb wb fv cb/\List.length vs=is.length /\
    ∀ (j:Nat) (x:Ins),is[j]?=some x->∃ v,vs[j]?=some v/\w.cell? ⟨cb,j,none⟩=some v/\IAt w mb wb fv v x
theorem CAt.fr{w w':World}{mb wb:Nat}{fv pv:Value}{cd:List (Nat × List Ins)}(h:CAt w mb wb fv pv cd)(f:Fr (MB mb wb fv) w w'):CAt w' mb wb fv pv cd:=by
 obtain ⟨pb,cap,h1,h2,h3,h4⟩:=h;refine ⟨pb,cap,h1,zyS h2 f.size,h3,fun i n is hi=>?_⟩;obtain ⟨a1,a2,a3,cb,cp,vs,b1,b2,b3,b4,b5⟩:=h4 i n is hi;have e:∀ j,w'.cell? ⟨pb,j,none⟩=w.cell? ⟨pb,j,none⟩:=fun j=>World.cell?_of_block (w:=w) (f.block pb h2 h3)
 have e2:∀ j,w'.cell? ⟨cb,j,none⟩=w.cell? ⟨cb,j,none⟩:=fun j=>World.cell?_of_block (w:=w) (f.block cb b2 b3)
 refine ⟨a1,a2,by rw[e];exact a3,cb,cp,vs,by rw[e];exact b1,zyS b2 f.size,b3,b4,fun j x hj=>?_⟩;obtain ⟨v,c1,c2,c3⟩:=b5 j x hj;exact ⟨v,c1,by rw[e2];exact c2,c3.fr f⟩
variable {w:World}{mb wb:Nat}{fv pv:Value}{cd:List (Nat × List Ins)}
theorem CAt.zac(h:CAt w mb wb fv pv cd):BAt w mb wb fv pv (cd.map Prod.fst):=by
 obtain ⟨pb,cap,h1,h2,h3,h4⟩:=h;refine ⟨pb,cap,by rw[h1,List.length_map],h2,h3,fun i n hi=>?_⟩;rw[List.getElem?_map,zyX]at hi;obtain ⟨⟨n',is⟩,hi,rfl⟩:=hi;obtain ⟨a1,_,a3,_⟩:=h4 i n' is hi;exact ⟨a1,a3⟩
def MSt.zbb (sl:List Nat):List Ins->MSt->Option (Except Nat MSt)
 |[],m=>some (.ok m)
 |i::l,m=>
  match m.zsJ with
  |.error k=>some (.error k)
  |.ok m1=>
   match m1.step sl i with
   |none=>none
   |some (.error k)=>some (.error k)
   |some (.ok m2)=>MSt.zbb sl l m2
def MSt.work (cd:List (Nat × List Ins)):Nat->MSt->Option (Except Nat MSt)
 |0,_=>none
 |g+1,m=>
  if m.o.next=-1 then some (.ok m) else
  if m.o.next<0 then none else
  match cd[m.o.next.toNat]? with
  |none=>none
  |some (n,is)=>
   match MSt.zbb (cd.map Prod.fst) is { m with o:={ m.o with below:=(m.s.low:Int)+(m.s.half:Int)-(m.s.top:Int)-(n:Int) } } with
   |none=>none
   |some (.error k)=>some (.error k)
   |some (.ok m2)=>MSt.work cd g m2
theorem Fr.putObj{K:Nat->Prop}{a b:World}(h:Fr K a b){l:Nat}(o:Obj)(hl:a.heap.size<=l):Fr K a (b.putObj l o):=
 ⟨h.os,h.tape,h.output,by rw[World.putObj_size];exact h.size,fun i hi hK=>(World.putObj_heap_other (by omega)).trans (h.block i hi hK)⟩
theorem Blk.putObj{w:World}{b l:Nat}{vs:List Value}{t:TypeId}(h:Blk w b vs t){x:Obj}(hx:w.heap[l]?=some x)(hc:∀ cs t f,x≠.cells cs t f)(o:Obj):Blk (w.putObj l o) b vs t:=by
 unfold Blk at h ⊢;rw[World.putObj_heap_other ?_]
 ·exact h
 ·intro e;subst e;rw[h]at hx;cases hx;exact hc _ _ _ rfl
theorem SAt.putObj{w:World}{mb wb l:Nat}{tl:List Value}{s:Sto}(h:SAt w mb wb tl s){x:Obj}(hx:w.heap[l]?=some x)(hc:∀ cs t f,x≠.cells cs t f)(o:Obj):SAt (w.putObj l o) mb wb tl s:=
 ⟨h.blk.putObj hx hc o,h.zeC.putObj hx hc o,h.ne,h.len,h.half,h.low,h.free,h.top⟩
theorem MAt.putObj{w:World}{mb wb l:Nat}{fv:Value}{m:MSt}(h:MAt w mb wb fv m){x:Obj}(hx:w.heap[l]?=some x)(hc:∀ cs t f,x≠.cells cs t f)(o:Obj):MAt (w.putObj l o) mb wb fv m:=by
 refine ⟨h.sat.putObj hx hc o,?_,h.fl,h.fuel⟩;rcases h.fat with h1|⟨fb,cap,sp,h1,⟨h2,h3⟩,h4⟩
 ·exact .inl h1
 ·exact .inr ⟨fb,cap,sp,h1,⟨h2.putObj hx hc o,h3⟩,h4⟩
def Marks (base:Nat) (W:World) (D:List Deferred):Prop:=
 ∃ ds:List Nat,D=ds.map (fun d=>{ target:=.collected d,args:=#[] })/\ds.Nodup/\∀ d∈ds,base<=d/\W.heap[d]?=some (.deferred (some []))
variable {base:Nat}
theorem Marks.fr{W W':World}{D:List Deferred}{K:Nat->Prop}(h:Marks base W D)(f:Fr K W W')(hK:∀ k,base<=k->¬ K k):Marks base W' D:=by
 obtain ⟨ds,h1,h2,h3⟩:=h;exact ⟨ds,h1,h2,fun d hd=>⟨(h3 d hd).1,(f.block d (zyY.1 (h3 d hd).2).1 (hK d (h3 d hd).1)).trans (h3 d hd).2⟩⟩
variable {n:Nat}
theorem zcg{F:Fence}{P:Program}{fn:Func}{tmps:Array Value}{R:Ending->World->Prop}{u:FrameMode}{I:World->Prop}(hu:u≠.run)(hI:∀ W d,I W->base<=d->W.heap[d]?=some (.deferred (some []))->I (W.putObj d (.deferred none)))(cJ:∀ W,I W->LeavesIn F n P fn tmps R [] u W):
  ∀ {W:World} {D:List Deferred},Marks base W D->I W->LeavesInM F n P fn tmps R D u W:=by
 rintro W D ⟨ds,rfl,hn,hd⟩ hW
 induction ds generalizing W with
 |nil=>exact cJ W hW
 |cons d ds ih=>
  obtain ⟨h1,h2⟩:=hd d List.mem_cons_self;obtain ⟨cR,eY⟩:=zAA.1 hn;refine ⟨hu,.inl ⟨d,_,rfl,run_takeDeferred h2,ih eY (fun d' iH=>?_) (hI W d hW h1 h2)⟩⟩;obtain ⟨h3,h4⟩:=hd d' (List.mem_cons_of_mem _ iH);refine ⟨h3,(World.putObj_heap_other ?_).trans h4⟩;rintro rfl;exact cR iH
theorem zfm(n:Int)(h₀:-4611686018427387904<=n)(h₁:n<4611686018427387904):IntKind.i64.wrap n=n:=by rw[IntKind.wrap_i64];omega
theorem MAt.drew{w:World}{mb wb:Nat}{fv:Value}{m:MSt}(h:MAt w mb wb fv m):MAt w.drew mb wb fv m:=h.drewN 1
theorem zsk(cb n cap:Nat)(w:World):Calls prog 130 #[.slice (some ⟨cb,0,none⟩) n cap] w fun e w'=>
  e=.returned (.func (.func 206) #[] #[.pointer (some ⟨w.heap.size,0,none⟩)])/\w'=w.alloc (.cells #[.slice (some ⟨cb,0,none⟩) n cap] 94):=by
 go_enter func130,ntmps130
 go_wp2_with fail
 go_ret
 exact ⟨rfl,rfl⟩
theorem zit(s:Int)(cb n cap:Nat)(w:World):Calls prog 79 #[.agg #[.int .i64 s,.slice (some ⟨cb,0,none⟩) n cap]] w fun e w'=>
  e=.returned (.func (.func 206) #[] #[.pointer (some ⟨w.heap.size+1,0,none⟩)])/\w'=(w.alloc (.cells #[.int .i64 s,.slice (some ⟨cb,0,none⟩) n cap] 96)).alloc (.cells #[.slice (some ⟨cb,0,none⟩) n cap] 94):=by
 go_enter func79,ntmps79
 go_wp2_with fail
 refine (zsk cb n cap _).mono ?_;rintro e w1 ⟨rfl,aD⟩;subst w1;go_wp2_with fail
 go_ret
 exact ⟨by simp,rfl⟩
variable {m:MSt}{g:Nat}
theorem zq2{r:Except Nat MSt}(h:MAt w mb wb fv m)(hC:CAt w mb wb fv m.o.pb cd)(hb:MSt.work cd g m=some r):
  Calls prog 47 #[.pointer (some ⟨mb,0,none⟩)] w fun e w'=>Ends w mb wb fv r e w':=by
 have HH:=zab h;have HC:=zab hC;have HR:=zab hb;obtain ⟨H1,B1,F1,bW⟩:=h.pre [.pointer (some ⟨mb,0,none⟩)] 75;clear h hC hb;refine zgQ func47 rfl ?_;simp only[ntmps47,zzr,zy8,zzm,Nat.reduceAdd,Nat.reduceSub,zzB,zzC,zzH,zzE,zzb,zy7];obtain ⟨Q,hQ⟩:∃ Q,bodyPostM Fence.wide 0 prog Tryz.f47 (fun e w'=>Ends w mb wb fv r e w')=Q:=⟨_,rfl⟩;have HQ:=zab hQ;rw[hQ];clear hQ;refine zfl ?_;intro K0 zO;go_wp2_with fail
 try (refine zO _ _ ?_;clear zO K0)
 generalize w.alloc (.cells #[.pointer (some ⟨mb,0,none⟩)] 75)=w1 at H1 F1 B1 ⊢;refine zks ?_;refine zsn (fun gk a W=>∃ (u2 u3 u4 u5 u6 u7 u8 u9 u10 u11 u12 u13 u14 u15 u16 u17 u18 u19 u20 u21 u22 u23 u24 u25 u26 u27 u28 u29 u30 u31 u32 u33 u34 u35 u36 u37 u38 u39 u40 u41 u42 u43:Value) (D:List Deferred) (q:MSt),a={ tmps:=#[.pointer (some ⟨mb,0,none⟩),.pointer (some ⟨w.heap.size,0,none⟩),u2,u3,u4,u5,u6,u7,u8,u9,u10,u11,u12,u13,u14,u15,u16,u17,u18,u19,u20,u21,u22,u23,u24,u25,u26,u27,u28,u29,u30,u31,u32,u33,u34,u35,u36,u37,u38,u39,u40,u41,u42,u43],defers:=D } /\
  MAt W mb wb fv q/\q.o.pb=m.o.pb/\MSt.work cd gk q=some r/\Fr (MB mb wb fv) w W/\Blk W w.heap.size [.pointer (some ⟨mb,0,none⟩)] 75/\Marks w.heap.size W D) g ?_ ?_
 ·exact ⟨_,_,_,_,_,_,_,_,_,_,_,_,_,_,_,_,_,_,_,_,_,_,_,_,_,_,_,_,_,_,_,_,_,_,_,_,_,_,_,_,_,_,[],m,rfl,H1.o,rfl,HR.o,F1.o,B1.o,[],rfl,List.nodup_nil,by simp⟩
 rintro gk a wr ⟨u2,u3,u4,u5,u6,u7,u8,u9,u10,u11,u12,u13,u14,u15,u16,u17,u18,u19,u20,u21,u22,u23,u24,u25,u26,u27,u28,u29,u30,u31,u32,u33,u34,u35,u36,u37,u38,u39,u40,u41,u42,u43,D,q,rfl,hq,iN,hw,ak,rS,Au⟩ KL zS;have ga:=zab zS;clear zS;refine zfl ?_;intro K1 oN;have cN:=Blk.cell rS 0;simp at cN;have aH:w.heap.size≠mb:=by have:=HH.o.sat.blk.lt;omega
 have c10:=hq.sat.c10;cases gk with
 |zero=>cases hw
 |succ k=>
  rw[MSt.work]at hw;have cY:=zab ak;have y5:=zab Au;have vq:=zab rS;have lV:=zab iN;have qA:=zab hq;clear ak Au rS iN hq;split at hw
  ·next cJ=>
   obtain rfl:=zyU hw;rw[cJ]at c10;clear cJ hw;go_wp2_with fail
   rw[<-HQ.o];refine zcg (I:=fun W=>Fr (MB mb wb fv) w W/\MAt W mb wb fv q) (by simp) (fun W d hW hd iX=>⟨hW.1.putObj _ hd,hW.2.putObj iX (by simp) _⟩) (fun W hW=>?_) y5.o ⟨cY.o,qA.o⟩;exact ⟨_,results_none rfl _ _ _,hW.1,rfl,hW.2⟩
  ·next cJ=>
   split at hw
   ·cases hw
   ·next dV=>
    obtain ⟨nx,gx⟩:∃ nx:Nat,q.o.next=nx:=⟨q.o.next.toNat,by omega⟩;rw[gx,zy2]at hw;rw[gx]at c10;split at hw
    ·cases hw
    ·next n is rV=>
     have jV:=HC.o.fr cY.o;rw[<-lV.o]at jV;obtain ⟨pb,cap,eD,E2,pZ,dA⟩:=jV;obtain ⟨EV,GD,bH,cb,cp,vs,bT,jl,lY,dJ,sx⟩:=dA nx n is rV;have c5:=qA.o.sat.c5;rw[eD]at c5;have ev:=(zyL.1 rV).1;have EY:(nx:Int)<(cd.length:Int):=by omega
     have EX:(0:Int)<=(nx:Int):=by omega
     have xP:((nx:Int) == -1)=false:=by rw[beq_eq_false_iff_ne];omega
     have EZ:((nx:Int) != -1)=true:=by rw[bne,xP];rfl
     have qw:=zab sx;clear dA sx cJ dV gx;go_wp2_with fail
     try (refine oN _ _ ?_;clear oN K1)
     refine zks (zfl ?_);intro K2 rE
     go_region_held3 (fun W=>W.cell? ⟨w.heap.size,0,none⟩=some (.pointer (some ⟨mb,0,none⟩))/\W.cell? ⟨mb,5,none⟩=some (.slice (some ⟨pb,0,none⟩) cd.length cap)/\W.cell? ⟨mb,10,none⟩=some (.int .i64 nx)/\W.cell? ⟨pb,nx*2,none⟩=some (.int .i64 n)/\W.cell? ⟨pb,nx*2+1,none⟩=some (.slice (some ⟨cb,0,none⟩) is.length cp)) (first|go_keep|(refine ⟨?_,?_,?_,?_,?_⟩ <;> assumption)) (fail)
     all_goals
      try (refine rE _ _ ?_;clear rE K2)
      have H2:=zab (qA.o.alloc (.cells #[.int .i64 n,.slice (some ⟨cb,0,none⟩) is.length cp] 96)).drew;have B2:=zab (Blk.new wr [.int .i64 n,.slice (some ⟨cb,0,none⟩) is.length cp] 96).drew;have F2:Hid (Fr (MB mb wb fv) wr (wr.alloc (.cells #[.int .i64 n,.slice (some ⟨cb,0,none⟩) is.length cp] 96)).drew):=zab ((Fr.refl _ _).alloc _).drew;have yF:=zab (Fr.blk vq.o F2.o bW.o);have Dl:=zab (qA.o.zc3 (zyN wr.heap.size));generalize (wr.alloc (.cells #[.int .i64 n,.slice (some ⟨cb,0,none⟩) is.length cp] 96)).drew=w2 at H2 B2 F2 yF ⊢;clear cN c10 c5 bH bT;obtain ⟨⟨ws,hf,lo,fr,tp⟩,o,fns⟩:=q;have tj:tp<=1000000:=H2.o.sat.top;have o5:lo<=1000000:=H2.o.sat.low;have Ez:hf<=1000000:=H2.o.sat.half;have cN:=Blk.cell yF.o 0;have ek:=Blk.cell B2.o 0;simp at cN ek;have c4:=H2.o.sat.c4;have c11:=H2.o.sat.c11;have Ef:=H2.o.sat.blk.frozen 11;simp only at c4 hw;have CE:=zab (fun W (hW:MAt W mb wb fv ⟨⟨ws,hf,lo,fr,tp⟩,o,fns⟩)=>zhJ hW.sat);simp only[zzq]at CE;obtain ⟨E,hE⟩:∃ E,(lo:Int)+(hf:Int)-(tp:Int)=E:=⟨_,rfl⟩;obtain ⟨BL,wN⟩:∃ BL,E-(n:Int)=BL:=⟨_,rfl⟩;have yg:IntKind.i64.wrap ((lo:Int)+(hf:Int)-(tp:Int))=E:=by rw[zfm _ (by omega) (by omega)];exact hE
      have tC:IntKind.i64.wrap (E-(n:Int))=BL:=by rw[zfm _ (by omega) (by omega)];exact wN
      rw[hE,wN]at hw;have iJ:wr.heap.size≠mb:=by have:=qA.o.sat.blk.lt;omega
      have Aw:∀ (W:World) (v:Value),(W.setCell ⟨mb,11,none⟩ v).cell? ⟨w.heap.size,0,none⟩=W.cell? ⟨w.heap.size,0,none⟩:=fun W v=>zcj aH W 0 11 v
      have Ax:∀ (W:World) (v:Value),(W.setCell ⟨mb,11,none⟩ v).cell? ⟨mb,4,none⟩=W.cell? ⟨mb,4,none⟩:=fun W v=>by apply World.cell?_setCell_other;simp
      have Ay:∀ (W:World) (v:Value),(W.setCell ⟨mb,11,none⟩ v).cell? ⟨wr.heap.size,0,none⟩=W.cell? ⟨wr.heap.size,0,none⟩:=fun W v=>zcj iJ W 0 11 v
      have HW:=zab hw;clear hE wN hw;refine zfl ?_;intro K3 zP
      go_region_held3 (fun W=>W.cell? ⟨w.heap.size,0,none⟩=some (.pointer (some ⟨mb,0,none⟩))/\W.cell? ⟨mb,4,none⟩=some (.int .i64 tp)/\W.cell? ⟨wr.heap.size,0,none⟩=some (.int .i64 n)) (first|go_keep|(refine ⟨?_,?_,?_⟩ <;> first|assumption|(rw[Aw];assumption)|(rw[Ax];assumption)|(rw[Ay];assumption))) ((go_at_call 78;refine (CE.o _ (H2.o.drewN 1)).mono ?_;rintro e w3 ⟨rfl,k3,bL⟩;have H3:Hid (MAt w3 mb wb fv ⟨⟨ws,hf,lo,fr,tp⟩,o,fns⟩):=zab (by rw[bL];exact (H2.o.drewN 1).drewN k3);have F3:Hid (Fr (MB mb wb fv) wr w3):=zab (by rw[bL];exact (F2.o.drewN 1).drewN k3);have Bh:=zab (Fr.blk vq.o F3.o bW.o);have B3:Hid (Blk w3 wr.heap.size [.int .i64 n,.slice (some ⟨cb,0,none⟩) is.length cp] 96):=zab (by rw[bL];exact B2.o);have d0:=Blk.cell Bh.o 0;have d1:=Blk.cell B3.o 0;simp at d0 d1;have d4:=H3.o.sat.c4;simp only at d4;have d11:=H3.o.sat.c11;have df:=H3.o.sat.blk.frozen 11;clear bL))
      all_goals
       try (refine zP _ _ ?_;clear zP K3)
       have f4:Fr (M2 mb wb) w3 (w3.setCell ⟨mb,11,none⟩ (.int .i64 BL)):=(Fr.refl _ _).set _ _ (.inl (.inl rfl));have H4:Hid (MAt (w3.setCell ⟨mb,11,none⟩ (.int .i64 BL)) mb wb fv ⟨⟨ws,hf,lo,fr,tp⟩,{ o with below:=BL },fns⟩):=zab ⟨H3.o.sat.zv5 BL,H3.o.fat.fr f4,H3.o.fl,H3.o.fuel⟩;have F4:=zab (F3.o.trans (f4.zc9 fv));have B4:=zab (Fr.blk B3.o (f4.zc9 fv) Dl.o);clear f4;generalize w3.setCell ⟨mb,11,none⟩ (.int .i64 BL)=w4 at H4 F4 B4 ⊢;clear cN ek c4 c11 Ef d0 d1 d4 d11 df Aw Ax Ay yg tC;have ek:=Blk.cell B4.o 0;have gG:=Blk.cell B4.o 1;simp at ek gG;refine zfl ?_;intro K4 zQ;go_wp2_with fail
       refine (zit n cb is.length cp _).mono ?_;rintro e w5 ⟨rfl,dK⟩;have H5:Hid (MAt w5 mb wb fv ⟨⟨ws,hf,lo,fr,tp⟩,{ o with below:=BL },fns⟩):=zab (by rw[dK];exact (H4.o.alloc _).alloc _);have F5:Hid (Fr (MB mb wb fv) wr w5):=zab (by rw[dK];exact (F4.o.alloc _).alloc _);have B5:Hid (Blk w5 (w4.heap.size+1) [.slice (some ⟨cb,0,none⟩) is.length cp] 94):=zab (by
        rw[dK];have:=Blk.new (w4.alloc (.cells #[.int .i64 n,.slice (some ⟨cb,0,none⟩) is.length cp] 96)) [.slice (some ⟨cb,0,none⟩) is.length cp] 94
        rwa [World.size_alloc]at this)
       have uZ:=zab (Fr.blk vq.o F5.o bW.o);have zm:=zab (y5.o.fr F5.o (fun k hk=>HH.o.zc3 hk));clear dK ek gG;go_wp2_with fail
       try (refine zQ _ _ ?_;clear zQ K4)
       have aK:=HC.o.zac;obtain ⟨rr,nZ,eW⟩:∃ rr,MSt.zbb (cd.map Prod.fst) is ⟨⟨ws,hf,lo,fr,tp⟩,{ o with below:=BL },fns⟩=some rr/\(match rr with|.error k=>some (.error k)|.ok m2=>MSt.work cd k m2)=some r:=by
        have h1:=HW.o;cases h2:MSt.zbb (cd.map Prod.fst) is ⟨⟨ws,hf,lo,fr,tp⟩,{ o with below:=BL },fns⟩ with
        |none=>rw[h2]at h1;cases h1
        |some rr=>rw[h2]at h1;refine ⟨rr,rfl,?_⟩;cases rr <;> exact h1
       have dK:w.heap.size<=w5.heap.size:=zyR cY.o.size F5.o.size;have Fv:wr.heap.size<=w4.heap.size:=F4.o.size;obtain ⟨J,hJ⟩:∃ J:Nat->World->Prop,∀ i W,J i W↔(∃ q':MSt,MAt W mb wb fv q'/\q'.o.pb=m.o.pb/\MSt.zbb (cd.map Prod.fst) (is.drop i) q'=some rr/\Fr (MB mb wb fv) w5 W):=⟨_,fun _ _=>zAz⟩;obtain ⟨Jx,wS⟩:∃ Jx:List PanicEntry->World->Prop,∀ ch W,Jx ch W↔(∃ j,rr=.error j/\ch=[{ v:=.iface 82 (.int .i64 j),recovered:=false }]/\(∃ m',MAt W mb wb fv m')/\Fr (MB mb wb fv) w5 W):=⟨_,fun _ _=>zAz⟩;have HJ:=zab hJ;have vF:=zab wS;clear hJ wS;refine zks (zuT (vs:=vs) (Bn:=w4.heap.size+1) (cb:=cb) (cap:=cp) rfl (by omega) J Jx
        ?hall ?hput ?h0 ?hJc ?hround ?hdone ?hpan)
       case hall=>
        intro i W o' hW;obtain ⟨q',h1,h2,h3,h4⟩:=(HJ.o i W).1 hW;exact (HJ.o i _).2 ⟨q',h1.alloc _,h2,h3,h4.alloc _⟩
       case hput=>
        intro i W l x o' hW hl hx hc;obtain ⟨q',h1,h2,h3,h4⟩:=(HJ.o i W).1 hW;exact (HJ.o i _).2 ⟨q',h1.putObj hx hc _,h2,h3,h4.putObj _ hl⟩
       case h0=>exact (HJ.o 0 _).2 ⟨_,H5.o,lV.o,by rw[zzY];exact nZ,Fr.refl _ _⟩
       case hJc=>
        intro i W hW;obtain ⟨q',h1,h2,h3,h4⟩:=(HJ.o i W).1 hW;refine ⟨?_,fun j v hv=>?_⟩
        ·rw[dJ];simpa using Blk.cell (Fr.blk B5.o h4 (H4.o.zc3 (by omega))) 0
        ·have gT:=(zyL.1 hv).1;obtain ⟨x,hx⟩:∃ x,is[j]?=some x:=⟨_,zyM (by omega)⟩;obtain ⟨v',dZ,iW,_⟩:=qw.o j x hx;rw[hv]at dZ;cases dZ;exact (World.cell?_of_block (a:=⟨cb,j,none⟩) (w:=wr) ((F5.o.trans h4).block cb jl lY)).trans iW
       case hdone=>
        intro W hW hD;obtain ⟨q',h1,h2,h3,h4⟩:=(HJ.o _ W).1 hW;rw[zz6 (by omega)]at h3;obtain rfl:=zyU h3;refine ga.o _ _ ⟨k,Nat.lt_succ_self k,_,_,_,_,_,_,_,_,_,_,_,_,_,_,_,_,_,_,_,_,_,_,_,_,_,_,_,_,_,_,_,_,_,_,_,_,_,_,_,_,_,_,_,q',rfl,h1,h2,eW,(cY.o.trans F5.o).trans h4,Fr.blk uZ.o h4 bW.o,?_⟩;obtain ⟨ds,e1,e2,e3⟩:=zm.o;refine ⟨w5.heap.size::ds,by rw[e1];rfl,zAA.2 ⟨fun hd=>?_,e2⟩,fun d hd=>?_⟩
        ·have:=(zyY.1 (e3 _ hd).2).1;omega
        ·rcases zzo.1 hd with rfl|hd
         ·exact ⟨dK,hD⟩
         ·exact ⟨(e3 d hd).1,(h4.block d (zyY.1 (e3 d hd).2).1 (HH.o.zc3 (e3 d hd).1)).trans (e3 d hd).2⟩
       case hpan=>
        intro ch W hW hD;obtain ⟨j,rfl,rfl,⟨m',fO⟩,h4⟩:=(vF.o ch W).1 hW;obtain rfl:=zyU eW;show Q _ _ _;rw[<-HQ.o];refine zcg (base:=w.heap.size) (I:=fun W=>Fr (MB mb wb fv) w W/\MAt W mb wb fv m') (by simp) (fun W d hW hd iX=>⟨hW.1.putObj _ hd,hW.2.putObj iX (by simp) _⟩) (fun W hW=>?_) ?_ ⟨(cY.o.trans F5.o).trans h4,fO⟩
        ·exact ⟨hW.1,rfl,m',hW.2⟩
        ·obtain ⟨ds,e1,e2,e3⟩:=zm.o;refine ⟨w5.heap.size::ds,by rw[e1];rfl,zAA.2 ⟨fun hd=>?_,e2⟩,fun d hd=>?_⟩
         ·have:=(zyY.1 (e3 _ hd).2).1;omega
         ·rcases zzo.1 hd with rfl|hd
          ·exact ⟨dK,hD⟩
          ·exact ⟨(e3 d hd).1,(h4.block d (zyY.1 (e3 d hd).2).1 (HH.o.zc3 (e3 d hd).1)).trans (e3 d hd).2⟩
       case hround=>
        intro l i v W DW hv;have br:i<is.length:=by have:=(zyL.1 hv).1;omega
        obtain ⟨x,hx⟩:∃ x,is[i]?=some x:=⟨_,zyM br⟩;obtain ⟨v',dZ,iW,Ap⟩:=qw.o i x hx;rw[hv]at dZ;cases dZ;have Cg:=zab Ap;have BJ:Hid (∀ (W2:World) (q':MSt),MSt.zbb (cd.map Prod.fst) (is.drop i) q'=some rr->(match q'.zsJ with|.error k=>some (.error k)|.ok m1=>match m1.step (cd.map Prod.fst) x with|none=>none|some (.error k)=>some (.error k)|some (.ok m2)=>MSt.zbb (cd.map Prod.fst) (is.drop (i+1)) m2)=some rr):=zab (by
         intro W2 q' hq
         rwa [zzs br,show is[i]=x from (zyL.1 hx).2,MSt.zbb]at hq)
        have iw:=zab aK;have ui:=zab (And.intro nZ eW);clear DW Ap hv hx iW aK nZ eW;simp only[zyO,zyZ,zyW]
        gi_wp2
        refine ⟨trivial,?_⟩;intro W2 h2 hD ma;obtain ⟨q',hm,iN,dI,ak⟩:=(HJ.o i W2).1 h2;have eA:=BJ.o W2 q' dI;have cN:W2.cell? ⟨w.heap.size,0,none⟩=some (.pointer (some ⟨mb,0,none⟩)):=by simpa using Blk.cell (Fr.blk uZ.o ak bW.o) 0
        have vG:Hid (∀ W3,Fr (MB mb wb fv) W2 W3->W3.heap[w5.heap.size]?=W2.heap[w5.heap.size]?/\W3.heap[w5.heap.size+1]?=W2.heap[w5.heap.size+1]?):=zab (by
         intro W3 f3;obtain ⟨rl,bd⟩:=ma;exact ⟨f3.block _ (zyY.1 hD).1 (HH.o.zc3 (by omega)),f3.block _ (zyY.1 bd).1 (HH.o.zc3 (by omega))⟩)
        have HM:=zab hm;have vM:=zab iN;have mz:=zab ak;have CB:=zab (zl7 hm);have vr:=zab (Fr.blk uZ.o ak bW.o);clear hm iN dI ak h2 hD ma
        gi_wp2
        refine ⟨trivial,rfl,(zcY CB.o).mono ?_⟩;cases ek:q'.zsJ with
        |error j=>
         rw[ek]at eA;rintro e w6 ⟨f6,rfl,h6⟩;exact ⟨rfl,(vF.o _ _).2 ⟨j,(zyU eA).symm,rfl,h6,mz.o.trans f6⟩,(vG.o _ f6).1⟩
        |ok m1=>
         rw[ek]at eA;simp only at eA;rintro e w6 ⟨f6,rfl,h6⟩;have Ec:w6.cell? ⟨w.heap.size,0,none⟩=some (.pointer (some ⟨mb,0,none⟩)):=by simpa using Blk.cell (Fr.blk vr.o f6 bW.o) 0
         obtain ⟨q2,dY⟩:∃ q2,m1.step (cd.map Prod.fst) x=some q2:=by
          cases dY:m1.step (cd.map Prod.fst) x with
          |none=>rw[dY]at eA;cases eA
          |some q2=>exact ⟨q2,rfl⟩
         rw[dY]at eA;have o8:m1.o.pb=m.o.pb:=(zxb ek).trans vM.o;have CS:=zab (zwn h6 (by rw[o8];exact iw.o.fr (((cY.o.trans F5.o).trans mz.o).trans f6)) (Cg.o.fr ((F5.o.trans mz.o).trans f6)) dY);have F6:=zab (mz.o.trans f6);have yK:=zab f6;have pK:=zab dY;have vN:=zab o8;have qG:=zab eA;clear cN f6 h6 dY o8 eA ek
         gi_wp2
         refine ⟨trivial,rfl,(zcY CS.o).mono ?_⟩;cases q2 with
         |error j=>
          rintro e w7 ⟨f7,rfl,h7⟩;exact ⟨rfl,(vF.o _ _).2 ⟨j,(zyU qG.o).symm,rfl,h7,F6.o.trans f7⟩,(vG.o _ (yK.o.trans f7)).1⟩
         |ok m2=>
          rintro e w7 ⟨f7,rfl,h7⟩;have H7:=zab h7;have F7:=zab f7;clear Ec f7 h7
          gi_wp2
          exact ⟨(HJ.o _ _).2 ⟨m2,H7.o,(zxT pK.o).trans vN.o,qG.o,F6.o.trans F7.o⟩,vG.o _ (yK.o.trans F7.o)⟩
end Go.Proofs.YtgahgkddaljmkaaGreatDoor
namespace Go.Proofs.YtgahgkddaljmkaaGreatDoor
open Tryz
open Go.RowKit Go.Shelf
attribute [local go_sem] Oper.semAt_some
theorem znr(sp:Option Addr)(n cap:Nat)(w:World):Calls prog 212 #[.slice sp n cap] w fun e w'=>
  e=.returned (.func (.func 257) #[] #[.pointer (some ⟨w.heap.size,0,none⟩)])/\w'=w.alloc (.cells #[.slice sp n cap] 38):=by
 go_enter func212,ntmps212
 go_wp2_with fail
 go_ret
 exact ⟨rfl,rfl⟩
theorem znq(l Bn cap:Nat)(sp:Option Addr)(g:Nat)(vs:List Value)(dJ:vs.length<=1000000000)(eB:0<vs.length->sp=some ⟨g,0,none⟩)(J:Nat->World->Prop)(Jr:World->Prop)(hY:∀ k c v W,J k W->c+1+k=vs.length->vs[c]?=some v->YieldAt Fence.wide 0 prog l #[.int .i64 c,v] W fun e W'=>(e=.returned (.bool true)/\J (k+1) W')\/(e=.returned (.bool false)/\Jr W'))(hJc:∀ k W,J k W->W.cell? ⟨Bn,0,none⟩=some (.slice sp vs.length cap)/\∀ j v,vs[j]?=some v->W.cell? ⟨g,j,none⟩=some v)(W:World)(h0:J 0 W):
  CallsIn Fence.wide 1 prog 257 #[.func (.yield l) #[] #[],.pointer (some ⟨Bn,0,none⟩)] W fun e W'=>∃ v,e=.returned v/\(J vs.length W'\/Jr W'):=by
 have HY:=zab hY;have lT:=zab hJc;clear hY hJc;have c0:=(lT.o 0 W h0).1;have qx:=zab h0;clear h0;have aD:IntKind.i64.wrap ((vs.length:Int)-1)=(vs.length:Int)-1:=zfm _ (by omega) (by omega);refine callsIn_of_wp func257 rfl trivial ?_ rfl;simp only[ntmps257,zzr,zy8,zzm,Nat.reduceAdd,Nat.reduceSub,zzB,zzC,zzH,zzE,zzb,zy7]
 gi_wp2
 gi_loopw [3] (fun i wr=>∃ c k:Nat,i=.int .i64 ((c:Int)-1)/\c+k=vs.length/\Hid (J k wr)) (fun i _=>(intOf i+1).toNat)
 case atStart=>exact ⟨vs.length,0,rfl,by omega,qx⟩
 case round=>
  obtain ⟨c,k,rfl,rW,hJ⟩:=hrel;cases c with
  |zero=>
   have nQ:k=vs.length:=by omega
   have iu:Hid (J vs.length wr):=by rw[<-nQ];exact hJ
   have dV:¬ (0:Int)<=-1:=by omega
   clear nQ c0
   gi_wp2
   first|go_end0|refine bodyPost_ret (results_none rfl _ _ _) rfl ?_
   first|exact ⟨⟨_,rfl⟩,.inl iu.o⟩|exact ⟨_,rfl,.inl iu.o⟩
  |succ c=>
   have e1:((c+1:Nat):Int)-1=(c:Int):=by omega
   rw[e1];obtain ⟨v,hv⟩:∃ v,vs[c]?=some v:=⟨_,zyM (by omega)⟩;have pU:(0:Int)<=(c:Int):=by omega
   have bH:(c:Int)<(vs.length:Int):=by omega
   have cv:=(lT.o k wr hJ.o).2 c v hv;have cb:=(lT.o k wr hJ.o).1;rw[eB (by omega)]at cb;obtain ⟨fn,tmps,assign,body,hy,hR⟩:=HY.o k c v wr hJ.o (by omega) hv;have HR:=zab hR;clear hR hv c0
   gi_wp2
   refine HR.o.mono ?_;rintro e w3 (⟨rfl,gP⟩|⟨rfl,hx⟩)
   ·have iu:=zab gP;clear gP hy HR cv cb
    gi_wp2
    go_roundw
    case rel=>exact ⟨c,k+1,by go_num,by omega,iu⟩
    case measure=>
     first|(simp[intOf];done)|(simp[intOf];omega)
   ·have HX:=zab hx;clear hx hy HR cv cb
    gi_wp2
    first|go_end0|refine bodyPost_ret (results_none rfl _ _ _) rfl ?_
    first|exact ⟨⟨_,rfl⟩,.inr HX.o⟩|exact ⟨_,rfl,.inr HX.o⟩
theorem zsD(sp:Option Addr)(n cap:Nat)(w:World):Calls prog 144 #[.slice sp n cap] w fun e w'=>
  e=.returned (.func (.func 210) #[] #[.pointer (some ⟨w.heap.size,0,none⟩)])/\w'=w.alloc (.cells #[.slice sp n cap] 278):=by
 go_enter func144,ntmps144
 go_wp2_with fail
 go_ret
 exact ⟨rfl,rfl⟩
theorem zsC(l Bn cap:Nat)(sp:Option Addr)(g:Nat)(vs:List Value)(dJ:vs.length<=1000000000)(eB:0<vs.length->sp=some ⟨g,0,none⟩)(J:Nat->World->Prop)(Jr:World->Prop)(hY:∀ k c v W,J k W->c+1+k=vs.length->vs[c]?=some v->YieldAt Fence.wide 0 prog l #[.int .i64 c,v] W fun e W'=>(e=.returned (.bool true)/\J (k+1) W')\/(e=.returned (.bool false)/\Jr W'))(hJc:∀ k W,J k W->W.cell? ⟨Bn,0,none⟩=some (.slice sp vs.length cap)/\∀ j v,vs[j]?=some v->W.cell? ⟨g,j,none⟩=some v)(W:World)(h0:J 0 W):
  CallsIn Fence.wide 1 prog 210 #[.func (.yield l) #[] #[],.pointer (some ⟨Bn,0,none⟩)] W fun e W'=>∃ v,e=.returned v/\(J vs.length W'\/Jr W'):=by
 have HY:=zab hY;have lT:=zab hJc;clear hY hJc;have c0:=(lT.o 0 W h0).1;have qx:=zab h0;clear h0;have aD:IntKind.i64.wrap ((vs.length:Int)-1)=(vs.length:Int)-1:=zfm _ (by omega) (by omega);refine callsIn_of_wp func210 rfl trivial ?_ rfl;simp only[ntmps210,zzr,zy8,zzm,Nat.reduceAdd,Nat.reduceSub,zzB,zzC,zzH,zzE,zzb,zy7]
 gi_wp2
 gi_loopw [3] (fun i wr=>∃ c k:Nat,i=.int .i64 ((c:Int)-1)/\c+k=vs.length/\Hid (J k wr)) (fun i _=>(intOf i+1).toNat)
 case atStart=>exact ⟨vs.length,0,rfl,by omega,qx⟩
 case round=>
  obtain ⟨c,k,rfl,rW,hJ⟩:=hrel;cases c with
  |zero=>
   have nQ:k=vs.length:=by omega
   have iu:Hid (J vs.length wr):=by rw[<-nQ];exact hJ
   have dV:¬ (0:Int)<=-1:=by omega
   clear nQ c0
   gi_wp2
   first|go_end0|refine bodyPost_ret (results_none rfl _ _ _) rfl ?_
   first|exact ⟨⟨_,rfl⟩,.inl iu.o⟩|exact ⟨_,rfl,.inl iu.o⟩
  |succ c=>
   have e1:((c+1:Nat):Int)-1=(c:Int):=by omega
   rw[e1];obtain ⟨v,hv⟩:∃ v,vs[c]?=some v:=⟨_,zyM (by omega)⟩;have pU:(0:Int)<=(c:Int):=by omega
   have bH:(c:Int)<(vs.length:Int):=by omega
   have cv:=(lT.o k wr hJ.o).2 c v hv;have cb:=(lT.o k wr hJ.o).1;rw[eB (by omega)]at cb;obtain ⟨fn,tmps,assign,body,hy,hR⟩:=HY.o k c v wr hJ.o (by omega) hv;have HR:=zab hR;clear hR hv c0
   gi_wp2
   refine HR.o.mono ?_;rintro e w3 (⟨rfl,gP⟩|⟨rfl,hx⟩)
   ·have iu:=zab gP;clear gP hy HR cv cb
    gi_wp2
    go_roundw
    case rel=>exact ⟨c,k+1,by go_num,by omega,iu⟩
    case measure=>
     first|(simp[intOf];done)|(simp[intOf];omega)
   ·have HX:=zab hx;clear hx hy HR cv cb
    gi_wp2
    first|go_end0|refine bodyPost_ret (results_none rfl _ _ _) rfl ?_
    first|exact ⟨⟨_,rfl⟩,.inr HX.o⟩|exact ⟨_,rfl,.inr HX.o⟩
def bodyR (B:Nat) (J:Nat->World->Prop) (Jr:World->Prop) (i:Nat) (W2:World):Exit->Act->World->Prop
 |.normal,_,W3=>J (i+1) W3/\W3.heap[B]?=W2.heap[B]?/\W3.heap[B+1]?=W2.heap[B+1]?
 |.ret,_,W3=>Jr W3/\W3.heap[B]?=W2.heap[B]?/\W3.heap[B+1]?=W2.heap[B+1]?
 |_,_,_=>False
def Iter (gf Bn cap:Nat) (sp:Option Addr) (g:Nat) (vs:List Value):Prop:=
 ∀ (l:Nat) (J:Nat->World->Prop) (Jr:World->Prop),
  (∀ k c v W,J k W->c+1+k=vs.length->vs[c]?=some v->YieldAt Fence.wide 0 prog l #[.int .i64 c,v] W fun e W'=>(e=.returned (.bool true)/\J (k+1) W')\/(e=.returned (.bool false)/\Jr W')) ->
  (∀ k W,J k W->W.cell? ⟨Bn,0,none⟩=some (.slice sp vs.length cap)/\∀ j v,vs[j]?=some v->W.cell? ⟨g,j,none⟩=some v) ->
  ∀ W:World,J 0 W->CallsIn Fence.wide 1 prog gf #[.func (.yield l) #[] #[],.pointer (some ⟨Bn,0,none⟩)] W fun e W'=>∃ v,e=.returned v/\(J vs.length W'\/Jr W')
variable {assign body:Code}{w:World}{cap:Nat}{vs:List Value}
theorem zp9{p1 p2 gf:Nat}{g:Operand}{Q:Exit->Act->World->Prop}{a:Act}{Bn gb:Nat}{sp:Option Addr}(eg:∀ args w,(callFunc gf args).run prog w=.ok (.enter gf args) w)(l9:Iter gf Bn cap sp gb vs)(hg:a.eval g=.func (.func gf) #[] #[.pointer (some ⟨Bn,0,none⟩)])(J:Nat->World->Prop)(Jr:World->Prop)(hall:∀ i W o,J i W->J i (W.alloc o))(hput:∀ i W l x o,J i W->w.heap.size<=l->W.heap[l]?=some x->(∀ cs t f,x≠.cells cs t f)->J i (W.putObj l o))(hputr:∀ W l x o,Jr W->w.heap.size<=l->W.heap[l]?=some x->(∀ cs t f,x≠.cells cs t f)->Jr (W.putObj l o))(h0:J 0 w)(hJc:∀ i W,J i W->W.cell? ⟨Bn,0,none⟩=some (.slice sp vs.length cap)/\∀ j v,vs[j]?=some v->W.cell? ⟨gb,j,none⟩=some v)(hround:∀ l i c v W,J i W->c+1+i=vs.length->vs[c]?=some v->assign.wpIn (Fence.wide.inRound l) 0 prog (Exit.then (fun a₁ W₁=>W₁=W/\∀ W2,J i W2->W2.heap[w.heap.size]?=some (.deferred (some []))->(∃ r,W2.heap[w.heap.size+1]?=some (.loop r)) ->
   body.wpIn (Fence.wide.inRound l) 0 prog (bodyR w.heap.size J Jr i W2) a₁ W2) (fun _ _ _=>False)) { tmps:=(a.tmps.setIfInBounds p1 (.int .i64 c)).setIfInBounds p2 v,defers:=[] } W)(hdone:∀ W,J vs.length W->W.heap[w.heap.size]?=some (.deferred (some []))->Q .normal { a with defers:={ target:=.collected w.heap.size,args:=#[] }::a.defers } W)(hret:∀ W,Jr W->W.heap[w.heap.size]?=some (.deferred (some []))->Q .ret { a with defers:={ target:=.collected w.heap.size,args:=#[] }::a.defers } W):
  (Code.rangeFunc g #[p1,p2] assign body).wp prog Q a w:=by
 refine (wpIn_wide (n:=2)).1 (wpIn_rangeFunc ?_);intro fn fj;obtain ⟨rec,de⟩:∃ rec:LoopState->Option Code->Loop,rec=fun st pe=>{ state:=st,pending:=pe,fn,tmps:=a.tmps,params:=#[p1,p2],assign,body,defers:=w.heap.size }:=⟨_,rfl⟩
 obtain ⟨W1,eG⟩:∃ W1,(w.alloc (.deferred (some []))).alloc (.loop (rec .ready none))=W1:=⟨_,rfl⟩;have wV:W1.heap[w.heap.size+1]?=some (.loop (rec .ready none)):=by
  rw[<-eG];have:=World.alloc_heap_new (w.alloc (.deferred (some []))) (.loop (rec .ready none));rwa [World.size_alloc]at this
 have oN:W1.heap[w.heap.size]?=some (.deferred (some [])):=by
  rw[<-eG];exact (Below.heap_alloc _ _ _ (by simp)).trans (World.alloc_heap_new w _)
 have wQ:J 0 W1:=by rw[<-eG];exact hall _ _ _ (hall _ _ _ h0)
 refine ⟨w.heap.size+1,[{ target:=.collected w.heap.size,args:=#[] }],W1,{ target:=.fn (.func gf) #[.pointer (some ⟨Bn,0,none⟩)],args:=#[.func (.yield (w.heap.size+1)) #[] #[]] },W1,gf,
  #[.func (.yield (w.heap.size+1)) #[] #[],.pointer (some ⟨Bn,0,none⟩)],W1,?_,?_,?_,?_,fun _=>by omega,?_⟩
 ·rw[<-eG,de];exact run_enterLoop_outer _ _ _ _ _
 ·simp only[resolve,hg];simp[go_sem]
 ·intro f' dr;trivial
 ·simp[invoke,go_sem,eg]
 ·refine CallsIn.mono (l9 (w.heap.size+1) (fun i W=>J i W/\W.heap[w.heap.size+1]?=some (.loop (rec .ready none))/\W.heap[w.heap.size]?=some (.deferred (some [])))
   (fun W=>Jr W/\W.heap[w.heap.size+1]?=some (.loop (rec .done (some .ret)))/\W.heap[w.heap.size]?=some (.deferred (some []))) ?_ (fun i W hW=>hJc i W hW.1) W1 ⟨wQ,wV,oN⟩) ?_
  ·rintro i c v W ⟨hi,hl,hk⟩ oU hv;have aj:w.heap.size+1<W.heap.size:=(zyY.1 hl).1;have hy:=run_yield (P:=prog) (args:=#[.int .i64 c,v]) hl (by rw[de];rfl);rw[de]at hy;have et:(((#[p1,p2]:Array Tmp).zip #[.int .i64 c,v]).foldl (fun tmps (t,a)=>tmps.setIfInBounds t a) a.tmps)=(a.tmps.setIfInBounds p1 (.int .i64 c)).setIfInBounds p2 v:=by simp
   simp only at hy;rw[et]at hy;refine ⟨fn,_,assign,body,hy,roundIn_of_wpIn trivial ?_⟩;have hr:=hround (w.heap.size+1) i c v W hi oU hv;refine wpIn_mono hr ?_;rintro e a1 oG hp;cases e with
   |normal=>
    obtain ⟨rfl,iE⟩:=hp;refine ⟨_,run_beginRound hl (by rw[de]),?_⟩;have aC:(oG.putObj (w.heap.size+1) (.loop { rec .ready none with state:=.busy })).heap[w.heap.size+1]?=some (.loop { rec .ready none with state:=.busy }):=World.putObj_heap_same aj;have aG:(oG.putObj (w.heap.size+1) (.loop { rec .ready none with state:=.busy })).heap[w.heap.size]?=some (.deferred (some [])):=(World.putObj_heap_other (by omega)).trans hk;refine wpIn_mono (iE _ (hput i oG _ _ _ hi (by omega) hl (by simp)) aG ⟨_,aC⟩) ?_;rintro e3 a3 W3 j4;cases e3 with
    |normal=>
     obtain ⟨gP,dG,cW⟩:=j4;rw[aG]at dG;rw[aC]at cW;have cJ:=run_endRound (P:=prog) none cW;refine ⟨_,_,cJ,.inl ⟨rfl,hput _ W3 _ _ _ gP (by omega) cW (by simp),?_,(World.putObj_heap_other (by omega)).trans dG⟩⟩;rw[World.putObj_heap_same (zyY.1 cW).1,de];rfl
    |ret=>
     obtain ⟨gP,dG,cW⟩:=j4;rw[aG]at dG;rw[aC]at cW;have cJ:=run_endRound (P:=prog) (some .ret) cW;refine ⟨_,_,cJ,.inr ⟨rfl,hputr W3 _ _ _ gP (by omega) cW (by simp),?_,(World.putObj_heap_other (by omega)).trans dG⟩⟩;rw[World.putObj_heap_same (zyY.1 cW).1,de];rfl
    |panic ch=>exact j4.elim
    |exit id=>exact j4.elim
    |goto t=>exact j4.elim
    |outgrown=>exact j4.elim
   |panic ch=>exact hp.elim
   |ret=>exact hp.elim
   |exit id=>exact hp.elim
   |goto t=>exact hp.elim
   |outgrown=>exact hp.elim
  ·rintro e W2 ⟨v,rfl,(⟨hi,hl,hk⟩|⟨hx,hl,hk⟩)⟩
   ·exact ⟨none,_,by have:=run_endLoop (P:=prog) hl (by rw[de];simp);rw[de]at this;exact this,hdone _ (hput _ _ _ _ _ hi (by omega) hl (by simp)) ((World.putObj_heap_other (by omega)).trans hk)⟩
   ·refine ⟨some .ret,_,by have:=run_endLoop (P:=prog) hl (by rw[de];simp);rw[de]at this;exact this,?_⟩;exact wpIn_wide.2 (wp_ret (hret _ (hputr _ _ _ _ hx (by omega) hl (by simp)) ((World.putObj_heap_other (by omega)).trans hk)))
end Go.Proofs.YtgahgkddaljmkaaGreatDoor
namespace Go.Proofs.YtgahgkddaljmkaaGreatDoor
open Tryz
open Go.RowKit
theorem zxq:(prog.info? 2).map (fun i=>(i.zero,i.size,i.bytes))=some (some (.int .i64 0),1,8):=by kernel_rfl
def zgJ (base:Nat) (fv:Value):Prop:=∀ k,fv.ownBlock=some k->base<=k
variable {mb wb:Nat}{fv:Value}{a:World}
theorem Fr.zyc{b c:World}(h:Fr (M2 mb wb) a b)(k:Fr (MB mb wb fv) b c)(hf:zgJ a.heap.size fv):Fr (M2 mb wb) a c:=
 ⟨k.os.trans h.os,k.tape.trans h.tape,k.output.trans h.output,zyR h.size k.size,fun i hi hK=>(k.block i (zyS hi h.size) (by
  rintro (h1|h1|h1)
  ·exact hK (.inl h1)
  ·exact hK (.inr h1)
  ·have:=hf i h1;omega)).trans (h.block i hi hK)⟩
variable {w:World}{base:Nat}{fns:List Int}
theorem zo4.owns(h:zo4 w mb wb fns fv)(hf:zgJ base fv):w.ownsRow base 2 1 fv fns.length (zdG fns):=by
 rcases h with ⟨rfl,rfl⟩|⟨fb,cap,sp,rfl,⟨h1,_,_⟩,h4,h5⟩
 ·exact ⟨rfl,.inl ⟨rfl,rfl⟩⟩
 ·refine ⟨by simp[zbJ],.inr ⟨fb,cap,(zdG fns++sp).toArray,rfl,hf fb rfl,h1,by omega,h5,by simp[zbJ];omega,?_⟩⟩;simp[zbJ]
variable {g cap:Nat}
theorem ztK(h:w.ownsRow base 2 1 (.slice (some ⟨g,0,none⟩) fns.length cap) fns.length (zdG fns))(hm:g≠mb)(hw:g≠wb):zo4 w mb wb fns (.slice (some ⟨g,0,none⟩) fns.length cap):=by
 rcases h.2 with ⟨h1,_⟩|⟨g',dU,cur,h1,h2,h3,h4,h5,h6,h7⟩
 ·cases h1
 ·simp only[Value.slice.injEq,zyP,Addr.mk.injEq,true_and,and_true]at h1;obtain ⟨rfl,rfl⟩:=h1;refine .inr ⟨g,cap,cur.toList.drop fns.length,rfl,⟨?_,hm,hw⟩,?_,h5⟩
  ·unfold Blk;rw[h3,<-h7,zAt,zAj]
  ·have e1:cur.toList.length=cur.size:=zAe;have e2:(cur.toList.drop fns.length).length=cur.toList.length-fns.length:=zzu;omega
variable {o:Oth}{s:Sto}
theorem SAt.zyv(h:SAt w mb wb (zeu o fv) s)(v:Value):SAt (w.setCell ⟨mb,8,none⟩ v) mb wb (zeu o v) s:=
 ⟨h.blk.set 8 v,h.zeC.other _ _ h.ne.symm,h.ne,h.len,h.half,h.low,h.free,h.top⟩
theorem SAt.grown{w w':World}{mb wb:Nat}{tl:List Value}{s:Sto}{row:Option Nat}(h:SAt w mb wb tl s)(hg:w.grownBy w' row)(h1:some mb≠row)(h2:some wb≠row):SAt w' mb wb tl s:=
 ⟨h.blk.grown hg h1,h.zeC.grown hg h2,h.ne,h.len,h.half,h.low,h.free,h.top⟩
theorem zo4.zyr(h:zo4 w mb wb fns fv):some mb≠fv.ownBlock/\some wb≠fv.ownBlock:=by
 rcases h with ⟨rfl,rfl⟩|⟨fb,cap,sp,rfl,⟨_,h2,h3⟩,_⟩
 ·simp[Value.ownBlock]
 ·simp only[Value.ownBlock,ne_eq,zyP];exact ⟨fun e=>h2 e.symm,fun e=>h3 e.symm⟩
variable {w':World}{jB:Value}
theorem zgI.mv{av:Value}{zao:List (Nat × Nat × Nat)}(h:zgI w mb wb fv av zao)(f:Fr (M2 mb wb) w w')(hf:zgJ w.heap.size jB):zgI w' mb wb jB av zao:=by
 obtain ⟨ab,cap,h1,h2,h3,hl,h4⟩:=h;have hm:¬ M2 mb wb ab:=fun e=>h3 (by rcases e with e|e;exact .inl e;exact .inr (.inl e))
 refine ⟨ab,cap,h1,zyS h2 f.size,?_,hl,fun i t c b hi=>?_⟩
 ·rintro (e|e|e)
  ·exact hm (.inl e)
  ·exact hm (.inr e)
  ·have:=hf ab e;omega
 ·have e:∀ j,w'.cell? ⟨ab,j,none⟩=w.cell? ⟨ab,j,none⟩:=fun j=>World.cell?_of_block (w:=w) (f.block ab h2 hm)
  rw[e,e,e];exact h4 i t c b hi
theorem IAt.mv{w w':World}{mb wb:Nat}{fv jB v:Value}{i:Ins}(h:IAt w mb wb fv v i)(f:Fr (M2 mb wb) w w')(hf:zgJ w.heap.size jB):IAt w' mb wb jB v i:=by
 cases i <;> first|exact h|(obtain ⟨av,h1,h2⟩:=h;exact ⟨av,h1,h2.mv f hf⟩)
theorem zmz{k:Nat}(h3:¬ MB mb wb fv k)(hk:k<w.heap.size)(hf:zgJ w.heap.size jB):¬ MB mb wb jB k:=by
 rintro (e|e|e)
 ·exact h3 (.inl e)
 ·exact h3 (.inr (.inl e))
 ·have:=hf k e;omega
variable {pv:Value}{sl:List Nat}
theorem BAt.mv(h:BAt w mb wb fv pv sl)(f:Fr (M2 mb wb) w w')(hf:zgJ w.heap.size jB):BAt w' mb wb jB pv sl:=by
 obtain ⟨pb,cap,h1,h2,h3,h4⟩:=h;have hm:¬ M2 mb wb pb:=fun e=>h3 (by rcases e with e|e;exact .inl e;exact .inr (.inl e))
 refine ⟨pb,cap,h1,zyS h2 f.size,zmz h3 h2 hf,fun i n hi=>⟨(h4 i n hi).1,?_⟩⟩;rw[World.cell?_of_block (w:=w) (f.block pb h2 hm)];exact (h4 i n hi).2
variable {m m':MSt}
theorem zxz{c:Nat}(h:m.zdI c=some (.ok m')):m'.fns.length=m.fns.length:=by
 unfold MSt.zdI at h;split at h
 ·cases h;rfl
 ·split at h
  ·cases h
  ·next hc=>
   split at h
   ·cases h
   ·cases h;exact zlh hc
theorem CAt.mv{w w':World}{mb wb:Nat}{fv jB pv:Value}{cd:List (Nat × List Ins)}(h:CAt w mb wb fv pv cd)(f:Fr (M2 mb wb) w w')(hf:zgJ w.heap.size jB):CAt w' mb wb jB pv cd:=by
 obtain ⟨pb,cap,h1,h2,h3,h4⟩:=h;have m2:∀ k,¬ MB mb wb fv k->¬ M2 mb wb k:=fun k hk e=>hk (by rcases e with e|e;exact .inl e;exact .inr (.inl e))
 refine ⟨pb,cap,h1,zyS h2 f.size,zmz h3 h2 hf,fun i n is hi=>?_⟩;obtain ⟨a1,a2,a3,cb,cp,vs,b1,b2,b3,b4,b5⟩:=h4 i n is hi;have e:∀ j,w'.cell? ⟨pb,j,none⟩=w.cell? ⟨pb,j,none⟩:=fun j=>World.cell?_of_block (w:=w) (f.block pb h2 (m2 _ h3))
 have e2:∀ j,w'.cell? ⟨cb,j,none⟩=w.cell? ⟨cb,j,none⟩:=fun j=>World.cell?_of_block (w:=w) (f.block cb b2 (m2 _ b3))
 refine ⟨a1,a2,by rw[e];exact a3,cb,cp,vs,by rw[e];exact b1,zyS b2 f.size,zmz b3 b2 hf,b4,fun j x hj=>?_⟩;obtain ⟨v,c1,c2,c3⟩:=b5 j x hj;exact ⟨v,c1,by rw[e2];exact c2,c3.mv f hf⟩
end Go.Proofs.YtgahgkddaljmkaaGreatDoor
namespace Go.Proofs.YtgahgkddaljmkaaGreatDoor
open Tryz
open Go.RowKit
attribute [local go_sem ↓] Go.wp_at_zero Go.wp_at_succ
def MSt.zbm:Nat->Nat->MSt->Option (Except Nat MSt)
 |_,0,m=>some (.ok m)
 |i,k+1,m=>aft (m.zdI 1) fun m1=>
  match m1.s.node (Hd 2 i 0) [] with
  |none=>none
  |some s2=>MSt.zbm (i+1) k { m1 with s:=s2,fns:=m1.fns++[(m1.s.free:Int)] }
def MSt.start (m:MSt) (sl:List Nat):Option (Except Nat MSt):=
 match MSt.zbm 0 m.o.nf.toNat m with
 |none=>none
 |some (.error k)=>some (.error k)
 |some (.ok m1)=>aft (m1.zdI 1) fun m2=>
  if m2.o.main<0 then none else
  match m2.fns[m2.o.main.toNat]? with
  |none=>none
  |some x=>
   match m2.s.push x with
   |none=>none
   |some s=>MSt.enter { m2 with s:=s } sl
def EndsS (w:World) (mb wb:Nat) (r:Except Nat MSt) (e:Ending) (w':World):Prop:=
 Fr (M2 mb wb) w w'/\match r with
 |.ok m'=>e=.returned (.tuple #[])/\∃ fv,MAt w' mb wb fv m'/\zgJ w.heap.size fv
 |.error k=>e=up k/\∃ fv m',MAt w' mb wb fv m'/\zgJ w.heap.size fv
variable {w:World}{mb wb:Nat}{o:Oth}{fv:Value}{s:Sto}
theorem SAt.c6(h:SAt w mb wb (zeu o fv) s):w.cell? ⟨mb,6,none⟩=some (.int .i64 o.nf):=h.blk.cell 6
theorem SAt.c7(h:SAt w mb wb (zeu o fv) s):w.cell? ⟨mb,7,none⟩=some (.int .i64 o.main):=h.blk.cell 7
variable {fns:List Int}
theorem zvA(h:zo4 w mb wb fns fv):∃ sp cap,fv=.slice sp fns.length cap:=by
 rcases h with ⟨rfl,rfl⟩|⟨fb,cap,sp,rfl,_⟩
 ·exact ⟨none,0,rfl⟩
 ·exact ⟨_,_,rfl⟩
theorem zxA(x:Int):∀ u∈[Value.int .i64 x],u.oneCell'=true:=by
 intro u hu;simp only[zzo,zzZ,or_false]at hu;subst hu;rfl
variable {base g:Nat}
theorem added{w4 w5:World}{dU:Nat}{s2:Sto}{x:Int}{b:Obj}(hs:SAt w4 mb wb (zeu o fv) s2)(hf:zo4 w4 mb wb fns fv)(bZ:fns.length+1<=1000000)(si:o.fuel<=1000000000)(ai:w5.ownsRow base 2 1 (.slice (some ⟨g,0,none⟩) (fns.length+1) dU) (fns.length+1) (zdG fns++[.int .i64 x]))(ah:(w4.alloc b).grownBy w5 fv.ownBlock)(aV:fv.ownBlock=some g\/g=w4.heap.size+1)(_hb:base<=g):
  SAt w5 mb wb (zeu o fv) s2/\MAt (w5.setCell ⟨mb,8,none⟩ (.slice (some ⟨g,0,none⟩) (fns.length+1) dU)) mb wb (.slice (some ⟨g,0,none⟩) (fns.length+1) dU) ⟨s2,o,fns++[x]⟩:=by
 have nT:=hf.zyr;have fC:SAt w5 mb wb (zeu o fv) s2:=(hs.below (zam w4 b)).grown ah nT.1 nT.2;have hm:=hs.blk.lt;have hw:=hs.zeC.lt;have Ey:g≠mb:=by
  rcases aV with h1|h1
  ·intro e;subst e;exact nT.1 h1.symm
  ·omega
 have fq:g≠wb:=by
  rcases aV with h1|h1
  ·intro e;subst e;exact nT.2 h1.symm
  ·omega
 refine ⟨fC,fC.zyv _,?_,by simpa using bZ,si⟩;have e:(zdG fns++[.int .i64 x])=zdG (fns++[x]):=by simp[zdG]
 have el:fns.length+1=(fns++[x]).length:=by simp
 rw[e,el]at ai;have h1:=ztK ai Ey fq;rw[<-el]at h1;exact h1.fr ((Fr.refl _ _).set _ _ (.inl (.inl rfl)))
variable {n cap:Nat}
theorem zgJ.zaE{w5:World}{xs:List Value}(h:w5.ownsRow base 2 1 (.slice (some ⟨g,0,none⟩) n cap) n xs):base<=g:=by
 rcases h.2 with ⟨h1,_⟩|⟨g',dU,cur,h1,h2,_⟩
 ·cases h1
 ·simp only[Value.slice.injEq,zyP,Addr.mk.injEq,and_true]at h1;rw[h1.1];exact h2
variable {a:World}
theorem Fr.grown{b:World}(h:Fr (M2 mb wb) w a)(hg:a.grownBy b fv.ownBlock)(hf:zgJ w.heap.size fv):Fr (M2 mb wb) w b:=
 ⟨hg.os.trans h.os,hg.tape.trans h.tape,hg.output.trans h.output,zyR h.size hg.size,fun i hi hK=>(hg.block i (zyS hi h.size) (fun e=>by have:=hf i e.symm;omega)).trans (h.block i hi hK)⟩
variable {m:MSt}{sl:List Nat}
theorem zon{r:Except Nat MSt}(h:MAt w mb wb (.slice none 0 0) m)(hB:BAt w mb wb (.slice none 0 0) m.o.pb sl)(kg:m.fns=[])(hn:m.o.nf=n)(EV:n<=1000000)(hb:m.start sl=some r):
  Calls prog 46 #[.pointer (some ⟨mb,0,none⟩)] w fun e w'=>EndsS w mb wb r e w':=by
 obtain ⟨i0,hi,bq,aP,bF⟩:=info_parts zxq;have HI:=zab hi;clear hi;have HZ:=zab (And.intro bq (And.intro aP bF));clear bq aP bF;have c6:=h.sat.c6;rw[hn]at c6;unfold MSt.start at hb;rw[hn,zy2]at hb;obtain ⟨rr,nZ,eW⟩:∃ rr,MSt.zbm 0 n m=some rr/\(match rr with|.error k=>some (.error k)|.ok m1=>aft (m1.zdI 1) fun m2=>if m2.o.main<0 then none else match m2.fns[m2.o.main.toNat]? with|none=>none|some x=>match m2.s.push x with|none=>none|some s=>MSt.enter { m2 with s:=s } sl)=some r:=by
  cases h2:MSt.zbm 0 n m with
  |none=>rw[h2]at hb;cases hb
  |some rr=>rw[h2]at hb;refine ⟨rr,rfl,?_⟩;cases rr <;> exact hb
 have HH:=zab h;have HB:=zab hB;have ui:=zab nZ;have qt:=zab eW;have pE:=zab kg;clear h hB hb nZ eW kg hn;go_enter func46,ntmps46
 go_wp2_with fail
 go_loopg [8] n (fun gk iv wr=>∃ (i:Nat) (q:MSt) (fv:Value),iv=.int .i64 i/\i+gk=n/\MAt wr mb wb fv q/\zgJ w.heap.size fv/\q.o=m.o/\q.fns.length=i/\MSt.zbm i gk q=some rr/\Fr (M2 mb wb) w wr)
 case atStart=>exact ⟨0,m,_,rfl,by omega,HH.o,(by intro k hk;cases hk),rfl,by rw[pE.o];rfl,ui.o,Fr.refl _ _⟩
 case round=>
  obtain ⟨i,q,fv,rfl,jm,hq,ak,AH,p7,dH,gr⟩:=hrel;have HQ:=zab hq;have du:=zab ak;have y7:=zab AH;have vQ:=zab p7;have kA:=zab gr;clear hq ak AH p7 gr c6;cases gk with
  |zero=>
   obtain rfl:=zyU dH;have nP:¬ (i:Int)<(n:Int):=by omega
   have hf:=qt.o;dsimp only at hf;unfold aft at hf;split at hf
   ·cases hf
   ·next k hn=>
    obtain rfl:=zyU hf;have CN:=zab (zaW HQ.o hn);clear hn hf dH;go_wp2_with fail
    refine CN.o.mono ?_;rintro e w3 ⟨f3,rfl,h3⟩;obtain ⟨m',fO⟩:=h3;exact ⟨rfl,kA.o.zyc f3 du.o,rfl,fv,m',fO,du.o⟩
   ·next m2 hn=>
    have CN:=zab (zaW HQ.o hn);have sI:m2.o=m.o:=(zqH hn).trans y7.o;dsimp only at hf;split at hf
    ·cases hf
    ·next ET=>
     split at hf
     ·cases hf
     ·next x hx=>
      split at hf
      ·cases hf
      ·next s aM=>
       obtain ⟨mn,cL⟩:∃ mn:Nat,m2.o.main=mn:=⟨m2.o.main.toNat,by omega⟩;rw[cL,zy2]at hx;have HX:=zab hx;have je:=zab aM;have BY:=zab hf;have ny:=zab cL;have dk:=(zyL.1 hx).1;have Fw:(mn:Int)<(m2.fns.length:Int):=by omega
       have vL:=zab sI;clear hn hf dH ET hx aM cL dk sI;go_wp2_with fail
       refine CN.o.mono ?_;rintro e w3 ⟨f3,rfl,h3⟩;have H3:=zab h3;have F3:=zab (kA.o.zyc f3 du.o);clear f3 CN;rcases h3.fat with ⟨_,ck⟩|⟨fb,cap,sp,rfl,oV,_⟩
       ·have hx:=HX.o;rw[ck]at hx;cases hx
       ·have c8:=h3.sat.c8;have c7:=h3.sat.c7;rw[ny.o]at c7;have cx:=oV.word HX.o;have vA:=zab oV;clear h3 oV;go_wp2_with fail
        go_region_held3 (fun W=>W.cell? ⟨mb,8,none⟩=some (.slice (some ⟨fb,0,none⟩) m2.fns.length cap)/\W.cell? ⟨mb,7,none⟩=some (.int .i64 mn)/\W.cell? ⟨fb,mn,none⟩=some (.int .i64 x)) (first|go_keep|(refine ⟨?_,?_,?_⟩ <;> assumption)) ((go_at_call 76;refine (Sto.zb5 H3.o.sat.drew je.o).mono ?_;rintro e w4 ⟨rfl,h4,f4⟩;have H4:=zab h4;have F4:Hid (Fr (M2 mb wb) w3 w4):=zab ((Fr.refl _ _).drew.trans f4);have e0:=h4.c8;have e7:w4.cell? ⟨mb,7,none⟩=some (.int .i64 mn):=(by rw[h4.c7,ny.o]);have ex:=(vA.o.fr F4.o).word HX.o;clear h4 f4))
        all_goals
         have H5:=zab (H3.o.fr2 H4.o F4.o);have F5:=zab (F3.o.trans F4.o);have kx:Hid (BAt w4 mb wb (.slice (some ⟨fb,0,none⟩) m2.fns.length cap) m2.o.pb sl):=zab (by rw[vL.o];exact HB.o.mv F5.o du.o);have CE:=zab (znM H5.o kx.o BY.o);clear c8 c7 cx e0 e7 ex;go_wp2_with fail
         refine CE.o.mono ?_;cases r with
         |error j=>
          rintro e w7 ⟨f7,rfl,m',h7⟩;exact ⟨rfl,F5.o.zyc f7 du.o,rfl,_,m',h7,du.o⟩
         |ok m'=>
          rintro e w7 ⟨f7,rfl,h7⟩;have H7:=zab h7;have F7:=zab (F5.o.zyc f7 du.o);clear f7 h7;go_wp2_with fail
          first|go_end0|refine bodyPost_ret (results_none rfl _ _ _) rfl ?_
          exact ⟨F7.o,rfl,_,H7.o,du.o⟩
  |succ g=>
   have nP:(i:Int)<(n:Int):=by omega
   rw[MSt.zbm]at dH;unfold aft at dH;split at dH
   ·cases dH
   ·next k hn=>
    obtain rfl:=zyU dH;have hf:=qt.o;obtain rfl:=zyU hf;have CN:=zab (zaW HQ.o hn);clear hn hf dH;go_wp2_with fail
    refine CN.o.mono ?_;rintro e w3 ⟨f3,rfl,h3⟩;obtain ⟨m',fO⟩:=h3;exact ⟨rfl,kA.o.zyc f3 du.o,rfl,fv,m',fO,du.o⟩
   ·next m1 hn=>
    dsimp only at dH;split at dH
    ·cases dH
    ·next s2 bg=>
     have CN:=zab (zaW HQ.o hn);have sI:m1.o=m.o:=(zqH hn).trans y7.o;have Av:m1.fns.length=i:=(zxz hn).trans vQ.o;have CH:=zab (fun W:World=>zbt 2 i 0 W (by omega) (by omega) (by omega));obtain ⟨z,hz⟩:∃ z,Hd 2 i 0=z:=⟨_,rfl⟩;rw[hz]at CH bg;have ue:=zab bg;have vH:=zab dH;have vL:=zab sI;have y6:=zab Av;clear hn bg dH sI Av hz;go_wp2_with fail
     refine CN.o.mono ?_;rintro e w3 ⟨f3,rfl,h3⟩;have F3:=zab (kA.o.zyc f3 du.o);obtain ⟨sp,cap,bI⟩:=zvA h3.fat;subst bI;have c8:=h3.sat.c8;have H3:=zab h3;have bZ:m1.fns.length<=1000000:=h3.fl;clear f3 h3 CN;go_wp2_with fail
     go_region_law (first
      |(refine step_append_lies _ (by rfl) _ _ _ (by rfl) w.heap.size 2 i0 _ 1 8 underlying76 HI.o HZ.o.1 HZ.o.2.1 HZ.o.2.2 rfl (by omega) (.slice sp m1.fns.length cap) m1.fns.length (zdG m1.fns) (by rfl) (yL.o.fr (Fr.below (zam _ _))|>.owns du.o) ⟨w4.heap.size,0,none⟩ 1 1 [.int .i64 m1.s.free] (by rfl) (by rfl) (World.news_of_block (cs:=#[.int .i64 m1.s.free]) (t:=2) (fr:=(0,0)) (heap_alloc_new w4 _)) (zxA _) (by omega) (by unfold maxLen;omega) (by omega) (by have:=F4.o.size;simp;omega) (w4.heap.size+1) (by simp) ?_;intro g' dU w5 ai ah aV aj;have AD:=zab (added H4.o yL.o (by have:=y6.o;omega) H3.o.fuel ai ah aV (zgJ.zaE ai));have Cr:=zab ai;have Ce:=zab ah;have d8:=AD.o.1.c8;have df:=AD.o.1.blk.frozen 8;clear ai ah aV aj)
      |(go_simp;go_wp2_with (first
        |(go_at_call 75;refine (CH.o _).mono ?_;rintro e FW ⟨rfl,Fo⟩;subst FW)
        |(go_at_call 74;refine (Sto.zej (sp:=none) (cp:=0) H3.o.sat.drew ue.o (fun h0=>absurd h0 (by simp))).mono ?_;rintro e w4 ⟨rfl,h4,f4⟩;have H4:=zab h4;have F4:=zab (F3.o.drew.trans f4);have yL:=zab (H3.o.fat.fr ((Fr.refl _ _).drew.trans f4));have d8:=h4.c8;have a8:=(h4.below (zam w4 (.cells #[.int .i64 m1.s.free] 2))).c8;have n4:w4.heap.size≠mb:=(by have:=h4.blk.lt;omega);clear h4 f4))))
     all_goals
      have HA:=zab AD.o.2;have FA:Hid (Fr (M2 mb wb) w (w5.setCell ⟨mb,8,none⟩ (.slice (some ⟨g',0,none⟩) (m1.fns.length+1) dU))):=zab (((F4.o.alloc _).grown Ce.o du.o).set _ _ (.inl (.inl rfl)));generalize w5.setCell ⟨mb,8,none⟩ (.slice (some ⟨g',0,none⟩) (m1.fns.length+1) dU)=w6 at HA FA ⊢;clear c8 d8 a8 df n4;go_wp2_with fail
      go_roundg g
      case measure=>omega
      case rel=>
       refine ⟨i+1,_,_,by go_num,by omega,HA.o,?_,vL.o,by have:=y6.o;simp;omega,vH.o,FA.o⟩;intro k hk;simp only[Value.ownBlock,zyP]at hk;rw[<-hk];exact zgJ.zaE Cr.o
theorem zsV(x:Value)(w:World):(Instr.typeAssert (.iface 82 x) 20 82 true).run prog w=.ok (.tuple #[x,.bool true]) w:=by kernel_rfl
theorem zgd(bm bo mb:Nat)(k:Nat)(w:World)(o0 o1 o2 o3:Value)(tl:List Value)(x0 x1 x2 x3 x4:Value)(t:TypeId)(hm:Blk w bm [.pointer (some ⟨mb,0,none⟩)] 75)(hM:Blk w mb (x0::x1::x2::x3::x4::tl) t)(hO:Blk w bo [o0,o1,o2,o3] 35)(_h1:bm≠mb)(h2:bo≠mb)(_h3:bo≠bm):
  CallsD prog 45 #[.pointer (some ⟨bm,0,none⟩),.pointer (some ⟨bo,0,none⟩)] (.panicking [{ v:=.iface 82 (.int .i64 k),recovered:=false }]) w fun e u' w'=>
   e=.returned (.tuple #[])/\u'=.panicking [{ v:=.iface 82 (.int .i64 k),recovered:=true }]/\Blk w' bo [.int .i64 k,.int .i64 0,.int .i64 0,.int .i64 0] 35/\Fr (fun i=>i=mb\/i=bo) w w':=by
 refine callsD_of_wpS func45 rfl fun c₀ cs hu=>?_
 have c:=Blk.cell hm 0;have m0:=Blk.cell hM 0;have m1:=Blk.cell hM 1;have m2:=Blk.cell hM 2;have m3:=Blk.cell hM 3;have m4:=Blk.cell hM 4;simp at c m0 m1 m2 m3 m4;have f0:=Blk.frozen hM 0;have f1:=Blk.frozen hM 1;have f2:=Blk.frozen hM 2;have f3:=Blk.frozen hM 3;have f4:=Blk.frozen hM 4;have HM:=zab hM;have HO:=zab hO;have Cn:=zab hm;clear hM hO hm;obtain ⟨R,hR⟩:∃ R:Ending->FrameMode->World->Prop,∀ e u' w',R e u' w'↔(e=.returned (.tuple #[])/\u'=.panicking [{ v:=.iface 82 (.int .i64 k),recovered:=true }]/\Blk w' bo [.int .i64 k,.int .i64 0,.int .i64 0,.int .i64 0] 35/\Fr (fun i=>i=mb\/i=bo) w w'):=⟨_,fun _ _ _=>zAz⟩;rw[show (fun e u' w'=>e=Ending.returned (.tuple #[])/\u'=.panicking [{ v:=.iface 82 (.int .i64 k),recovered:=true }]/\Blk w' bo [.int .i64 k,.int .i64 0,.int .i64 0,.int .i64 0] 35/\Fr (fun i=>i=mb\/i=bo) w w')=R from funext fun e=>funext fun u'=>funext fun w'=>propext (hR e u' w').symm];have HR:=zab hR;clear hR;apply wpS_seq;refine wpS_of_wp ?_;simp only[ntmps45,zzr,zy8,zzm,Nat.reduceAdd,Nat.reduceSub,zzB,zzC,zzH,zzE,zzb,zy7];go_wp2_with fail
 have F1:Hid (Fr (fun i=>i=mb\/i=bo) w (((((w.setCell ⟨mb,0,none⟩ (.slice none 0 0)).setCell ⟨mb,1,none⟩ (.int .i64 0)).setCell ⟨mb,2,none⟩ (.int .i64 0)).setCell ⟨mb,3,none⟩ (.int .i64 0)).setCell ⟨mb,4,none⟩ (.int .i64 0))):=
  zab ((((((Fr.refl _ _).set _ _ (.inl (.inl rfl))).set _ _ (.inl (.inl rfl))).set _ _ (.inl (.inl rfl))).set _ _ (.inl (.inl rfl))).set _ _ (.inl (.inl rfl)))
 have O1:Hid (Blk (((((w.setCell ⟨mb,0,none⟩ (.slice none 0 0)).setCell ⟨mb,1,none⟩ (.int .i64 0)).setCell ⟨mb,2,none⟩ (.int .i64 0)).setCell ⟨mb,3,none⟩ (.int .i64 0)).setCell ⟨mb,4,none⟩ (.int .i64 0)) bo [o0,o1,o2,o3] 35):=
  zab (((((HO.o.other _ _ h2).other _ _ h2).other _ _ h2).other _ _ h2).other _ _ h2)
 generalize (((((w.setCell ⟨mb,0,none⟩ (.slice none 0 0)).setCell ⟨mb,1,none⟩ (.int .i64 0)).setCell ⟨mb,2,none⟩ (.int .i64 0)).setCell ⟨mb,3,none⟩ (.int .i64 0)).setCell ⟨mb,4,none⟩ (.int .i64 0))=w1 at F1 O1 ⊢;clear c m0 m1 m2 m3 m4 f0 f1 f2 f3 f4;simp only[Exit.thenS];apply wpS_seq;apply wpS_region;simp[wpOpsS,go_sem,recoverD,hu,Exit.thenS];refine wpS_of_wp ?_;have q0:=Blk.cell O1.o 0;have q1:=Blk.cell O1.o 1;have q2:=Blk.cell O1.o 2;have q3:=Blk.cell O1.o 3;simp at q0 q1 q2 q3;have g0:=Blk.frozen O1.o 0;have g1:=Blk.frozen O1.o 1;have g2:=Blk.frozen O1.o 2;have g3:=Blk.frozen O1.o 3;have er:=zsV;go_wp2_with fail
 have cE:=(((O1.o.set 0 (.int .i64 k)).set 1 (.int .i64 0)).set 2 (.int .i64 0)).set 3 (.int .i64 0);have FF:Fr (fun i=>i=mb\/i=bo) w ((((w1.setCell ⟨bo,0,none⟩ (.int .i64 k)).setCell ⟨bo,1,none⟩ (.int .i64 0)).setCell ⟨bo,2,none⟩ (.int .i64 0)).setCell ⟨bo,3,none⟩ (.int .i64 0)):=
  (((F1.o.set _ _ (.inl (.inr rfl))).set _ _ (.inl (.inr rfl))).set _ _ (.inl (.inr rfl))).set _ _ (.inl (.inr rfl))
 exact ⟨rfl,_,rfl,_,results_none rfl _ _ _,(HR.o _ _ _).2 ⟨rfl,rfl,cE,FF⟩⟩
theorem zt0(bm bo mb:Nat)(w:World)(o0 o1 o2 o3:Value)(tl:List Value)(x0 x1 x2 x3 x4:Value)(t:TypeId)(hm:Blk w bm [.pointer (some ⟨mb,0,none⟩)] 75)(hM:Blk w mb (x0::x1::x2::x3::x4::tl) t)(hO:Blk w bo [o0,o1,o2,o3] 35)(_h1:bm≠mb)(h2:bo≠mb)(_h3:bo≠bm):
  CallsD prog 45 #[.pointer (some ⟨bm,0,none⟩),.pointer (some ⟨bo,0,none⟩)] .returning w fun e u' w'=>
   e=.returned (.tuple #[])/\u'=.returning/\Blk w' bo [o0,o1,o2,o3] 35/\Fr (fun i=>i=mb\/i=bo) w w':=by
 refine callsD_of_wpS func45 rfl fun c₀ cs hu=>?_
 have c:=Blk.cell hm 0;have m0:=Blk.cell hM 0;have m1:=Blk.cell hM 1;have m2:=Blk.cell hM 2;have m3:=Blk.cell hM 3;have m4:=Blk.cell hM 4;simp at c m0 m1 m2 m3 m4;have f0:=Blk.frozen hM 0;have f1:=Blk.frozen hM 1;have f2:=Blk.frozen hM 2;have f3:=Blk.frozen hM 3;have f4:=Blk.frozen hM 4;have HM:=zab hM;have HO:=zab hO;have Cn:=zab hm;clear hM hO hm;obtain ⟨R,hR⟩:∃ R:Ending->FrameMode->World->Prop,∀ e u' w',R e u' w'↔(e=.returned (.tuple #[])/\u'=.returning/\Blk w' bo [o0,o1,o2,o3] 35/\Fr (fun i=>i=mb\/i=bo) w w'):=⟨_,fun _ _ _=>zAz⟩;rw[show (fun e u' w'=>e=Ending.returned (.tuple #[])/\u'=.returning/\Blk w' bo [o0,o1,o2,o3] 35/\Fr (fun i=>i=mb\/i=bo) w w')=R from funext fun e=>funext fun u'=>funext fun w'=>propext (hR e u' w').symm];have HR:=zab hR;clear hR;apply wpS_seq;refine wpS_of_wp ?_;simp only[ntmps45,zzr,zy8,zzm,Nat.reduceAdd,Nat.reduceSub,zzB,zzC,zzH,zzE,zzb,zy7];go_wp2_with fail
 have F1:Hid (Fr (fun i=>i=mb\/i=bo) w (((((w.setCell ⟨mb,0,none⟩ (.slice none 0 0)).setCell ⟨mb,1,none⟩ (.int .i64 0)).setCell ⟨mb,2,none⟩ (.int .i64 0)).setCell ⟨mb,3,none⟩ (.int .i64 0)).setCell ⟨mb,4,none⟩ (.int .i64 0))):=
  zab ((((((Fr.refl _ _).set _ _ (.inl (.inl rfl))).set _ _ (.inl (.inl rfl))).set _ _ (.inl (.inl rfl))).set _ _ (.inl (.inl rfl))).set _ _ (.inl (.inl rfl)))
 have O1:Hid (Blk (((((w.setCell ⟨mb,0,none⟩ (.slice none 0 0)).setCell ⟨mb,1,none⟩ (.int .i64 0)).setCell ⟨mb,2,none⟩ (.int .i64 0)).setCell ⟨mb,3,none⟩ (.int .i64 0)).setCell ⟨mb,4,none⟩ (.int .i64 0)) bo [o0,o1,o2,o3] 35):=
  zab (((((HO.o.other _ _ h2).other _ _ h2).other _ _ h2).other _ _ h2).other _ _ h2)
 generalize (((((w.setCell ⟨mb,0,none⟩ (.slice none 0 0)).setCell ⟨mb,1,none⟩ (.int .i64 0)).setCell ⟨mb,2,none⟩ (.int .i64 0)).setCell ⟨mb,3,none⟩ (.int .i64 0)).setCell ⟨mb,4,none⟩ (.int .i64 0))=w1 at F1 O1 ⊢;clear c m0 m1 m2 m3 m4 f0 f1 f2 f3 f4;simp only[Exit.thenS];apply wpS_seq;apply wpS_region;simp[wpOpsS,go_sem,recoverD,hu,Exit.thenS];refine wpS_of_wp ?_;go_wp2_with fail
 exact ⟨rfl,.returning,by cases c₀;simp_all,_,results_none rfl _ _ _,(HR.o _ _ _).2 ⟨rfl,rfl,O1.o,F1.o⟩⟩
end Go.Proofs.YtgahgkddaljmkaaGreatDoor
