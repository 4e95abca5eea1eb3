/- Par14 .. Iter2 -/
import Derived.Test.YtgahgkddaljmkaaGreatDoorW12
import Derived.RangeFuncNested
import Derived.RangeFuncBound
import Derived.OwnWalkIn
import Derived.TacticsInMore
import Derived.LoopNIn
import Derived.LoopIn
set_option maxRecDepth 100000
set_option maxHeartbeats 4000000
namespace Go.Proofs.YtgahgkddaljmkaaGreatDoor
open Tryz
open Go.RowKit
theorem zbz(st:Th.St):st.adv.bad=none->st.bad=none:=fun h=>h
variable {st:Th.St}
theorem zhK(h:st.fail.bad=none):False:=zvv h
theorem ztC(st:Th.St):(Th.zdj st).2.bad=none->st.bad=none:=by
 intro h;exact zdX _ _ _ (zaC _ _ (zdX _ _ _ (zaC _ _ h)))
variable {ex:Th.Rd}
theorem zfp(hk:zbD ex){q:Th.Ex × Th.St}(h:Th.zeU ex st=some q):q.2.bad=none->st.bad=none:=by
 unfold Th.zeU at h;intro hb;split at h
 ·cases h;exact hb
 ·split at h
  ·cases h;exact hb
  ·split at h
   ·cases h;exact zbz _ (ztC _ hb)
   ·split at h
    ·simp only[zyQ,zyP]at h;obtain ⟨r,h1,rfl⟩:=h;exact zbz _ (hk _ _ _ h1 (zaC _ _ hb))
    ·cases h;exact (zhK hb).elim
theorem zi7{ex:Th.Rd}(hk:zbD ex):∀ (k:Nat) (e:Th.Ex) (st:Th.St) (q:Th.Ex × Th.St),Th.zcV ex k e st=some q->q.2.bad=none->st.bad=none
 |0,_,_,_,h=>by simp[Th.zcV]at h
 |k+1,e,st,q,h=>by
  rw[Th.zcV]at h;split at h
  ·simp only[zyQ]at h;obtain ⟨r,h1,h2⟩:=h;exact fun hb=>zfp hk h1 (zi7 hk k _ _ _ h2 hb)
  ·cases h;exact fun hb=>hb
theorem zfq(hk:zbD ex)(k:Nat)(st:Th.St)(q:Th.Ex × Th.St)(h:Th.zhP ex k st=some q):q.2.bad=none->st.bad=none:=by
 unfold Th.zhP at h;simp only[zyQ]at h;obtain ⟨r,h1,h2⟩:=h;exact fun hb=>zfp hk h1 (zi7 hk k _ _ _ h2 hb)
theorem zjx{sub:Th.St->Option (Th.Ex × Th.St)}(hs:∀ st q,sub st=some q->q.2.bad=none->st.bad=none)(a b:List UInt8):∀ (k:Nat) (e:Th.Ex) (st:Th.St) (q:Th.Ex × Th.St),Th.zku sub a b k e st=some q->q.2.bad=none->st.bad=none
 |0,_,_,_,h=>by simp[Th.zku]at h
 |k+1,e,st,q,h=>by
  rw[Th.zku]at h;split at h
  ·simp only[zyQ]at h;obtain ⟨r,h1,h2⟩:=h;exact fun hb=>zbz _ (hs _ _ h1 (zjx hs a b k _ _ _ h2 hb))
  ·cases h;exact fun hb=>hb
theorem zc4(hk:zbD ex)(k:Nat)(st:Th.St)(q:Th.Ex × Th.St)(h:Th.zcG ex k st=some q):q.2.bad=none->st.bad=none:=by
 unfold Th.zcG at h;simp only[zyQ]at h;obtain ⟨r,h1,h2⟩:=h;exact fun hb=>zfq hk k _ _ h1 (zjx (zfq hk k) _ _ k _ _ _ h2 hb)
theorem ze2(hk:zbD ex)(k:Nat)(st:Th.St)(q:Th.Ex × Th.St)(h:Th.zu0 ex k st=some q):q.2.bad=none->st.bad=none:=by
 unfold Th.zu0 at h;simp only[zyQ]at h;obtain ⟨r,h1,h2⟩:=h;exact fun hb=>zc4 hk k _ _ h1 (zjx (zc4 hk k) _ _ k _ _ _ h2 hb)
theorem zsa(hk:zbD ex)(k:Nat)(st:Th.St)(q:Th.Ex × Th.St)(h:Th.zjD ex k st=some q):q.2.bad=none->st.bad=none:=by
 unfold Th.zjD at h;simp only[zyQ]at h;obtain ⟨r,h1,h2⟩:=h;split at h2
 ·simp only[zyQ,zyP]at h2;obtain ⟨s,h3,rfl⟩:=h2;exact fun hb=>ze2 hk k _ _ h1 (zbz _ (ze2 hk k _ _ h3 hb))
 ·cases h2;exact ze2 hk k _ _ h1
theorem zi4{ex:Th.Rd}(hk:zbD ex):∀ (k:Nat) (l:List Th.Tok) (es:List Th.Ex) (st:Th.St) (q:List Th.Tok × List Th.Ex × Th.St),Th.zcu ex k l es st=some q->q.2.2.bad=none->st.bad=none
 |0,_,_,_,_,h=>by simp[Th.zcu]at h
 |k+1,l,es,st,q,h=>by
  rw[Th.zcu]at h;simp only[zyQ]at h;obtain ⟨r,h1,h2⟩:=h;have h0:r.2.bad=none->st.bad=none:=fun hb=>zc2 _ (zaC _ _ (hk _ _ _ h1 hb))
  split at h2
  ·exact fun hb=>h0 (zbz _ (zi4 hk k _ _ _ _ h2 hb))
  ·cases h2;exact h0
theorem zfn{ex:Th.Rd}(hk:zbD ex)(c:Bool):∀ (k:Nat) (l:List (Nat × List Th.Tok)) (es:List Th.Ex) (st:Th.St) (q:List (Nat × List Th.Tok) × List Th.Ex × Th.St),Th.zeD ex c k l es st=some q->q.2.2.bad=none->st.bad=none
 |0,_,_,_,_,h=>by simp[Th.zeD]at h
 |k+1,l,es,st,q,h=>by
  rw[Th.zeD]at h;simp only[zyQ]at h;obtain ⟨r,h1,h2⟩:=h;split at h2
  ·exact fun hb=>zfz hk h1 (zbz _ (zfn hk c k _ _ _ _ h2 hb))
  ·cases h2;exact zfz hk h1
theorem zrc(hk:zbD ex)(k:Nat):zbD (Th.zg7 ex k):=by
 intro c st q h hb;unfold Th.zg7 at h;split at h
 ·unfold Th.ztQ at h;simp only[zyQ,zyP]at h;obtain ⟨r,h1,s,h2,rfl⟩:=h;have:=zi4 hk k _ _ _ _ h1 (zaC _ _ (hk _ _ _ h2 hb));split at this
  ·exact zbz _ (zbz _ this)
  ·exact zbz _ this
 ·split at h
  ·unfold Th.zjy at h;simp only[zyQ,zyP]at h;obtain ⟨r,h1,s,h2,rfl⟩:=h;exact zbz _ (hk _ _ _ h1 (zaC _ _ (zfn hk c k _ _ _ _ h2 hb)))
  ·split at h
   ·unfold Th.ztO at h;simp only[zyQ,zyP]at h;obtain ⟨r,h1,rfl⟩:=h;exact zbz _ (zc2 _ (zcM _ (zaC _ _ (hk _ _ _ h1 hb))))
   ·exact zsa hk k _ _ h hb
theorem zcz:∀ n,zbD (Th.zdJ n)
 |0=>fun _ _ _ h=>by simp[Th.zdJ]at h
 |n+1=>zrc (zcz n) n
variable {w:World}
variable {r tb:Nat}
variable {T:List Th.Tok}
theorem ziV{w1 w2:World}{e:Th.Ex}{s:Th.St}{en:Ending}(hg:w.grownBy w1 (some r))(h:Reads w1 r tb T e s en w2):Reads w r tb T e s en w2:=by
 obtain ⟨v,h1,h2,h3,h4⟩:=h;exact ⟨v,h1,h2.mono (fun k _ hk=>zyR hg.size hk),h3,zad hg h4⟩
theorem zxa(hx:zso ex)(hk:zbD ex){k:Nat}(uL:k<=1000000):zso (Th.zg7 ex k):=by
 intro c st q w r tb T hq h;have bd:=h.lt;have HQ:=zab hq;clear hq;go_enter func118,ntmps118
 go_wp2_with fail
 refine (zbG h ⟨#[108,101,116]⟩ (by simp)).mono ?_;rintro e w1 ⟨rfl,aW,bw⟩;have lW:=zab bw;clear bw h;cases h1:st.is Th.zqP
 ·rw[show st.is (ByteArray.mk #[108,101,116]).data.toList=false from h1]at aW ⊢;have lA:RS w1 r tb T st:=by simpa using aW
  have H1:=zab h1;clear h1 aW;go_wp2_with fail
  refine (zbG lA ⟨#[99,97,115,101]⟩ (by simp)).mono ?_;rintro e w2 ⟨rfl,aI,aF⟩;have ix:=zab (zad lW.o aF);clear aF lA;cases h2:st.is Th.zjO
  ·rw[show st.is (ByteArray.mk #[99,97,115,101]).data.toList=false from h2]at aI ⊢;have lB:RS w2 r tb T st:=by simpa using aI
   have H2:=zab h2;clear h2 aI;go_wp2_with fail
   refine (zbG lB ⟨#[92]⟩ (by simp)).mono ?_;rintro e w3 ⟨rfl,bP,aS⟩;have ej:=zab (zad ix.o aS);clear aS lB;cases h3:st.is [92]
   ·rw[show st.is (ByteArray.mk #[92]).data.toList=false from h3]at bP;have lC:RS w3 r tb T st:=by simpa using bP
    have mS:Hid (Th.zjD ex k st=some q):=zab (by have e:=HQ.o;rw[Th.zg7,H1.o,H2.o,h3]at e;simpa using e);clear h3 bP;go_wp2_with fail
    refine (zxW hx k _ _ _ _ _ _ mS.o lC).mono ?_;rintro en w4 hr;obtain ⟨v,rfl,cg⟩:=ziV ej.o hr;have hc:=cg.1.one.cells;have HR:=zab cg;clear hr cg lC;go_wp2_with fail
    go_ret
    exact ⟨v,rfl,HR.o⟩
   ·rw[show st.is (ByteArray.mk #[92]).data.toList=true from h3]at bP;have lC:RS w3 r tb T st.adv:=by simpa using bP
    have mS:Hid (Th.ztO ex c st.adv=some q):=zab (by have e:=HQ.o;rw[Th.zg7,H1.o,H2.o,h3]at e;simpa using e);clear h3 bP;go_wp2_with fail
    refine (ztn hx mS.o lC).mono ?_;rintro en w4 hr;obtain ⟨v,rfl,cg⟩:=ziV ej.o hr;have hc:=cg.1.one.cells;have HR:=zab cg;clear hr cg lC;go_wp2_with fail
    go_ret
    exact ⟨v,rfl,HR.o⟩
  ·rw[show st.is (ByteArray.mk #[99,97,115,101]).data.toList=true from h2]at aI ⊢;have lB:RS w2 r tb T st.adv:=by simpa using aI
   have bC:Hid (Th.zjy ex k c st.adv=some q):=zab (by have e:=HQ.o;rw[Th.zg7,H1.o,h2]at e;simpa using e);clear h2 aI;go_wp2_with fail
   refine (zsM hx hk uL bC.o lB).mono ?_;rintro en w4 hr;obtain ⟨v,rfl,cg⟩:=ziV ix.o hr;have hc:=cg.1.one.cells;have HR:=zab cg;clear hr cg lB;go_wp2_with fail
   go_ret
   exact ⟨v,rfl,HR.o⟩
 ·rw[show st.is (ByteArray.mk #[108,101,116]).data.toList=true from h1]at aW ⊢;have lA:RS w1 r tb T st.adv:=by simpa using aW
  have cF:Hid (Th.ztQ ex k c st.adv=some q):=zab (by have e:=HQ.o;rw[Th.zg7,h1]at e;simpa using e);clear h1 aW;go_wp2_with fail
  refine (zyn hx hk uL cF.o lA).mono ?_;rintro en w4 hr;obtain ⟨v,rfl,cg⟩:=ziV lW.o hr;have hc:=cg.1.one.cells;have HR:=zab cg;clear hr cg lA;go_wp2_with fail
  go_ret
  exact ⟨v,rfl,HR.o⟩
theorem zs0:∀ (n:Nat),n<=1000000->zso (Th.zdJ n)
 |0,_=>fun _ _ _ _ _ _ _ h=>by simp[Th.zdJ]at h
 |n+1,hn=>zxa (zs0 n (by omega)) (zcz n) (by omega)
theorem znU:(prog.info? 93).map (fun i=>(i.zero,i.size,i.bytes))=some (some (.agg #[.string ⟨#[]⟩,.int .i64 0,.slice none 0 0,.nilIface]),4,64):=by kernel_rfl
def zaR:List Th.zbr->List Value->List Value->List Value
 |x::l,n::ns,v::vs=>[.string ⟨x.name.s.toArray⟩,.int .i64 x.name.at_,n,v]++zaR l ns vs
 |_,_,_=>[]
theorem zga:∀ (l:List Th.zbr) (ns vs:List Value) (a:Th.zbr) (n v:Value),l.length=ns.length->l.length=vs.length->zaR (l++[a]) (ns++[n]) (vs++[v])=zaR l ns vs++[.string ⟨a.name.s.toArray⟩,.int .i64 a.name.at_,n,v]
 |[],[],[],_,_,_,_,_=>rfl
 |x::l,y::ns,z::vs,a,n,v,h1,h2=>by
  simp only[zy7,zaR];rw[zga l ns vs a n v (by simpa using h1) (by simpa using h2)];simp
 |[],_::_,_,_,_,_,h,_=>by simp at h
 |[],[],_::_,_,_,_,_,h=>by simp at h
 |_::_,[],_,_,_,_,h,_=>by simp at h
 |_::_,_::_,[],_,_,_,_,h=>by simp at h
theorem onel{s:ByteArray}{p:Int}{u v:Value}(h1:u.oneCell'=true)(h:v.oneCell'=true):∀ x∈[Value.string s,.int .i64 p,u,v],x.oneCell'=true:=by
 intro x hu;simp only[zzo,zzZ,or_false]at hu;rcases hu with rfl|rfl|rfl|rfl
 ·rfl
 ·rfl
 ·exact h1
 ·exact h
def zdv (S:Nat->Prop) (w:World) (n:Nat) (l:List Th.zbr) (nvs bvs:List Value):Prop:=
 ∀ (i:Nat) (x:Th.zbr) (nv bv:Value),l[i]?=some x->nvs[i]?=some nv->bvs[i]?=some bv->Row S w 88 2 nv x.params.length (zaj x.params)/\Rep S w n bv x.e
structure zl1 (w wr:World) (r tb:Nat) (T:List Th.Tok) (l:List Th.zbr) (s1:Th.St) (sv:Value):Prop where
 rs:RS wr r tb T s1
 gb:w.grownBy wr (some r)
 parts:∃ nvs bvs,nvs.length=l.length/\bvs.length=l.length/\wr.ownsRow w.heap.size 93 4 sv l.length (zaR l nvs bvs) /\
  (s1.bad=none->∃ n,zdv (fun b=>zat w b/\some b≠sv.ownBlock) wr n l nvs bvs)
variable {wr:World}
variable {l:List Th.zbr}
variable {s1:Th.St}
variable {sv:Value}
theorem zl1.add{w2 w3:World}{s2:Th.St}{nv v:Value}{x:Th.zbr}{g cap:Nat}{nvs bvs:List Value}{o:Obj}(hB:zl1 w wr r tb T l s1 sv)(aL:nvs.length=l.length)(aC:bvs.length=l.length)(fS:wr.ownsRow w.heap.size 93 4 sv l.length (zaR l nvs bvs))(mf:s1.bad=none->∃ n,zdv (fun b=>zat w b/\some b≠sv.ownBlock) wr n l nvs bvs)(bd:r<w.heap.size)(cu:tb<w.heap.size)(ay:Row (zat wr) w2 88 2 nv x.params.length (zaj x.params))(aq:Got (zat wr) w2 v x.e s2)(aI:RS w2 r tb T s2)(aF:wr.grownBy w2 (some r))(ai:w3.ownsRow w.heap.size 93 4 (.slice (some ⟨g,0,none⟩) (l.length+1) cap) (l.length+1) (zaR l nvs bvs++[.string ⟨x.name.s.toArray⟩,.int .i64 x.name.at_,nv,v]))(ah:(w2.alloc o).grownBy w3 sv.ownBlock)(aV:sv.ownBlock=some g\/g=w2.heap.size+1)(aQ:s2.bad=none->s1.bad=none):
  zl1 w w3 r tb T (l++[x]) s2 (.slice (some ⟨g,0,none⟩) (l.length+1) cap):=by
 have bF:wr.heap.size<=w2.heap.size:=aF.size;have aP:=hB.gb.size;have cD:∀ b,sv.ownBlock=some b->w.heap.size<=b/\b<wr.heap.size:=fun b hb=>⟨(fS.lt b hb).1,(fS.lt b hb).2⟩
 have lz:some r≠sv.ownBlock:=fun e=>by have:=(cD r e.symm).1;omega
 have tw:some tb≠sv.ownBlock:=fun e=>by have:=(cD tb e.symm).1;omega
 have key:∀ b,some b≠sv.ownBlock->b<w2.heap.size->some b≠some g:=by
  intro b aw bD e;cases e;rcases aV with h|h
  ·exact aw h.symm
  ·omega
 have lN:∀ {ty:TypeId} {sz m:Nat} {u:Value} {ys:List Value},Row (fun b=>zat w b/\some b≠sv.ownBlock) wr ty sz u m ys ->
   Row (fun b=>zat w b/\some b≠some g) w3 ty sz u m ys:=by
  intro ty sz m u ys hr;have a2:=hr.gb aF (fun k hk h=>by cases hk;simp only[zat]at h;omega);have a3:Row (fun b=>zat w b/\some b≠sv.ownBlock/\b<w2.heap.size) w2 ty sz u m ys:=a2.mono (fun k hk h=>⟨h.1,h.2,hk⟩);have a4:=a3.gb (zag w2 o none) (by simp);have a5:=a4.gb ah (fun k hk h=>h.2.1 hk.symm);exact a5.mono (fun k _ h=>⟨h.1,key k h.2.1 h.2.2⟩)
 have lM:∀ {ty:TypeId} {sz m:Nat} {u:Value} {ys:List Value},Row (zat wr) w2 ty sz u m ys ->
   Row (fun b=>zat w b/\some b≠some g) w3 ty sz u m ys:=by
  intro ty sz m u ys hr;have a3:Row (fun b=>wr.heap.size<=b/\b<w2.heap.size) w2 ty sz u m ys:=hr.mono (fun k hk h=>⟨h,hk⟩);have a4:=a3.gb (zag w2 o none) (by simp);have a5:=a4.gb ah (fun k hk h=>by have:=(cD k hk).2;omega);exact a5.mono (fun k _ h=>⟨by simp only[zat];omega,key k (fun e=>by have:=(cD k e.symm).2;omega) h.2⟩)
 refine ⟨(aI.alloc o).gb ah lz tw,?_,nvs++[nv],bvs++[v],by simp[aL],by simp[aC],?_,?_⟩
 ·have h1:w.grownBy (w2.alloc o) (some r):=zad (zad hB.gb aF) (zag w2 o _);exact ⟨ah.os.trans h1.os,ah.tape.trans h1.tape,ah.output.trans h1.output,zyR h1.size ah.size,
   fun k hk hr=>(ah.block k (zyS hk h1.size) (fun e=>by have:=(cD k e.symm).1;omega)).trans (h1.block k hk hr)⟩
 ·rw[zga l nvs bvs x nv v aL.symm aC.symm,zyT];exact ai
 ·intro hb;obtain ⟨n1,cR⟩:=mf (aQ hb);obtain ⟨n2,eY⟩:=aq.rep hb;refine ⟨n1+n2,fun i a u p ha hu hp=>?_⟩;rcases zbI ha with h1|⟨h1,rfl⟩
  ·have hi:i<l.length:=(zyL.1 h1).1;rcases zbI hu with h2|⟨h2,rfl⟩
   ·rcases zbI hp with h3|⟨h3,rfl⟩
    ·exact ⟨lN (cR i a u p h1 h2 h3).1,Rep.imp (fun _ _ _ _ _ hR=>lN hR) _ _ _ ((cR i a u p h1 h2 h3).2.le (zz0 n1 n2))⟩
    ·omega
   ·omega
  ·rcases zbI hu with h2|⟨h2,rfl⟩
   ·rw[zzK (by omega)]at h2;simp at h2
   ·rcases zbI hp with h3|⟨h3,rfl⟩
    ·rw[zzK (by omega)]at h3;simp at h3
    ·exact ⟨lM ay,Rep.imp (fun _ _ _ _ _ hR=>lM hR) _ _ _ (eY.le (zAc n2 n1))⟩
theorem zl1.step{w':World}{s2:Th.St}(hB:zl1 w wr r tb T l s1 sv)(bd:r<w.heap.size)(hg:wr.grownBy w' (some r))(hs:RS w' r tb T s2)(hb:s2.bad=none->s1.bad=none):zl1 w w' r tb T l s2 sv:=by
 obtain ⟨nvs,bvs,h1,iB,h2,h3⟩:=hB.parts;refine ⟨hs,zad hB.gb hg,nvs,bvs,h1,iB,h2.kept hg (zdi h2 bd),fun aQ=>?_⟩;obtain ⟨n,hn⟩:=h3 (hb aQ);exact ⟨n,fun i a u p x y z=>⟨(hn i a u p x y z).1.gb hg (fun k hk h=>by cases hk;simp only[zat]at h;omega),(hn i a u p x y z).2.gb hg (fun k hk h=>by cases hk;simp only[zat]at h;omega)⟩⟩
end Go.Proofs.YtgahgkddaljmkaaGreatDoor
namespace Go.Proofs.YtgahgkddaljmkaaGreatDoor
open Tryz
open Go.RowKit
attribute [local go_sem] zcZ zc0 zc1
def zb6 (t:Th.Tok):List Value:=[.int .i64 t.k,.string ⟨t.s.toArray⟩,.int .i64 t.at_]
def za2 (l:List Th.Tok):List Value:=l.flatMap zb6
theorem zht:∀ (l:List Th.Tok) (i:Nat) (t:Th.Tok),l[i]?=some t->(za2 l)[i*3]?=some (.int .i64 t.k)/\(za2 l)[i*3+1]?=some (.string ⟨t.s.toArray⟩)/\(za2 l)[i*3+2]?=some (.int .i64 t.at_)
 |[],i,t,h=>by simp at h
 |x::l,0,t,h=>by
  simp only[zzl,zyP]at h;subst h;exact ⟨rfl,rfl,rfl⟩
 |x::l,i+1,t,h=>by
  have ih:=zht l i t (by simpa using h);have e:∀ c,(za2 (x::l))[(i+1)*3+c]?=(za2 l)[i*3+c]?:=by
   intro c;rw[show za2 (x::l)=zb6 x++za2 l from rfl,zy3 (by simp[zb6];omega)];congr 1;simp[zb6];omega
  refine ⟨?_,?_,?_⟩
  ·have:=e 0;simp only[zzO]at this;rw[this];exact ih.1
  ·rw[e 1];exact ih.2.1
  ·rw[e 2];exact ih.2.2
def zay (s:ByteArray):List Th.Tok:=Th.zdN (s.size+1) s.data.toList 0
def znl:Prop:=∀ (s:ByteArray) (w:World),s.size<=600 ->
 Calls prog 66 #[.string s] w fun e w'=>∃ v,e=.returned v/\w'.ownsRow w.heap.size 135 3 v (zay s).length (za2 (zay s))/\Below w.heap.size w w'
variable {w:World}
variable {r tb:Nat}
variable {T:List Th.Tok}
variable {st:Th.St}
theorem RS.failed(h:RS w r tb T st):w.cell? ⟨r,2,none⟩=some (.bool st.bad.isSome)/\(∀ p,st.bad=some p->w.cell? ⟨r,3,none⟩=some (.int .i64 p)):=by
 obtain ⟨cap,n,f,p,h,rfl⟩:=h;have h2:=h.blk.cell 2;have h3:=h.blk.cell 3;simp at h2 h3;cases f with
 |false=>exact ⟨h2,fun p hp=>by simp[zby]at hp⟩
 |true=>exact ⟨h2,fun p hp=>by simp[zby]at hp;rw[h3,hp]⟩
def ziZ (S:Nat->Prop) (w:World) (pv:Value) (l:List Th.zbr):Prop:=
 ∃ nvs bvs n,nvs.length=l.length/\bvs.length=l.length/\Row S w 93 4 pv l.length (zaR l nvs bvs)/\zdv S w n l nvs bvs
variable {ex:Th.Rd}
theorem zrC(hk:zbD ex){q:Th.zbr × Th.St}(h:Th.zmE ex st=some q):q.2.bad=none->st.bad=none:=by
 unfold Th.zmE at h;simp only[zyQ,zyP]at h;obtain ⟨r,h1,rfl⟩:=h;exact fun hb=>zc2 _ (zcM _ (zaC _ _ (hk _ _ _ h1 (zaC _ _ hb))))
def zu3 (w:World) (q:List Th.zbr × Th.St) (e:Ending) (w':World):Prop:=
 Below w.heap.size w w'/\((∃ p,q.2.bad=some p/\e=.returned (.tuple #[.slice none 0 0,.int .i64 p,.bool false])) \/
   (q.2.bad=none/\∃ pv,e=.returned (.tuple #[pv,.int .i64 0,.bool true])/\ziZ (zat w) w' pv q.1))
variable {wr:World}
variable {l:List Th.zbr}
variable {s1:Th.St}
variable {sv:Value}
theorem zf0{B:Nat}(h:zl1 w wr r tb T l s1 sv)(hB:B<=r)(hr:r<w.heap.size):Below B w wr:=
 ⟨h.gb.os,h.gb.tape,h.gb.output,h.gb.size,fun k hk=>h.gb.block k (by omega) (by simp;omega)⟩
theorem zpJ(hC:znl)(s:ByteArray)(w:World)(hs:s.size<=600)(gJ:Good (zay s))(aH:zay s≠[])(n k:Nat)(hn:n<=1000000)(hk:k<=1000000)(q:List Th.zbr × Th.St)(hq:Th.zcn (Th.zdJ n) k [] ⟨zay s,none⟩=some q):
  Calls prog 41 #[.string s] w fun e w'=>zu3 w q e w':=by
 obtain ⟨i0,dt,bq,aP,bF⟩:=info_parts znU;have HI:=zab dt;clear dt;have HZ:=zab (And.intro bq (And.intro aP bF));clear bq aP bF;have HQ:=zab hq;have HX:=zab (zs0 n hn);have HG:=zab gJ;generalize hT:zay s=T at *;have HT:=zab hT;clear hT hq gJ;go_enter func41,ntmps41
 go_wp2_with fail
 refine (hC s _ hs).mono ?_;rintro e w1 ⟨v,rfl,af,aA⟩;rw[HT.o]at af;obtain ⟨tb,cap,rfl⟩:=zqK af (zzA.2 aH);have tj:=(af.lt tb rfl);have zW:RI (w1.alloc (.cells #[.slice (some ⟨tb,0,none⟩) T.length cap,.int .i64 0,.bool false,.int .i64 0] 132)) w1.heap.size tb cap T 0 false 0:=by
  refine ⟨Blk.new w1 [.slice (some ⟨tb,0,none⟩) T.length cap,.int .i64 0,.bool false,.int .i64 0] 132,?_,by omega,zzA.2 aH,HG.o,by simp,?_⟩
  ·intro i t ht;have aj:i<T.length:=(zyL.1 ht).1;have hc:=zht T i t ht;have ez:=af.alloc (.cells #[.slice (some ⟨tb,0,none⟩) T.length cap,.int .i64 0,.bool false,.int .i64 0] 132);refine ⟨?_,?_,?_⟩
   ·rw[ez.cellAt _ (by omega)];exact hc.1
   ·rw[ez.cellAt _ (by omega)];exact hc.2.1
   ·rw[ez.cellAt _ (by omega)];exact hc.2.2
  ·rcases af.2 with ⟨h,_⟩|⟨g,c,cur,h,_,_,hle,_⟩
   ·cases h
   ·cases h;exact hle
 have zT:zl1 (w1.alloc (.cells #[.slice (some ⟨tb,0,none⟩) T.length cap,.int .i64 0,.bool false,.int .i64 0] 132)) (w1.alloc (.cells #[.slice (some ⟨tb,0,none⟩) T.length cap,.int .i64 0,.bool false,.int .i64 0] 132)) w1.heap.size tb T [] ⟨T,none⟩ (.slice none 0 0):=
  ⟨⟨cap,0,false,0,zW,by simp[zby]⟩,zcT _ _,[],[],rfl,rfl,World.ownsRow_nil _ _ _ _,fun _=>⟨0,fun i x nv bv hh _ _=>by simp at hh⟩⟩
 have kB:=zab zT;have aP:=aA.size;have cB:=zab ((aA.trans ((zam w1 _).mono aP)):Below w.heap.size w (w1.alloc (.cells #[.slice (some ⟨tb,0,none⟩) T.length cap,.int .i64 0,.bool false,.int .i64 0] 132)));clear zW zT af aA;go_wp2_with fail
 generalize rL:w1.alloc (.cells #[.slice (some ⟨tb,0,none⟩) T.length cap,.int .i64 0,.bool false,.int .i64 0] 132)=W0 at *;have mI:w1.heap.size<W0.heap.size:=by rw[<-rL];simp
 clear rL
 go_loopg [2] k (fun g sv wr=>∃ l s1,zl1 W0 wr w1.heap.size tb T l s1 sv/\l.length+g<=k/\Th.zcn (Th.zdJ n) g l s1=some q)
 case atStart=>exact ⟨[],_,kB.o,by simp,HQ.o⟩
 case round=>
  obtain ⟨l,s1,hL,mO,hp⟩:=hrel;have HL:=zab hL;have aW:=hL.rs;have hf:=aW.failed;have aL:=aW.lt;clear hL;cases gk with
  |zero=>simp[Th.zcn]at hp
  |succ gg=>
   rw[Th.zcn]at hp;cases dq:s1.bad with
   |some p=>
    rw[dq]at hp hf;simp only[Option.isNone_some,Bool.false_and,zzw,if_false,zyP]at hp;subst hp;have c2:=hf.1;have c3:=hf.2 p rfl;simp at c2;have qJ:=zab dq;clear hf dq aW;go_wp2_with fail
    go_quiet (fail)
    go_wp2_with fail
    go_ret3
    exact ⟨below_drewN (cB.o.trans (zf0 HL.o aP mI)) _,.inl ⟨p,qJ.o,rfl⟩⟩
   |none=>
    rw[dq]at hp hf;obtain ⟨t,tk,ti,th,tm,tc⟩:=zhs aW;have jd:=th dq;have c2:=hf.1;simp at c2;have qJ:=zab dq;have gF:=zab aW;clear hf dq tk ti th tm aW;cases dF:(t.k == 0)
    ·have cK:((t.k:Int) == 0)=false:=by simp at dF ⊢;omega
     have aG:((t.k:Int) != 0)=true:=by simp at dF ⊢;omega
     rw[jd]at hp;have e0:(t.k != 0)=true:=by simpa using dF
     simp only[Option.isNone_none,Bool.true_and,e0,if_true,zyQ]at hp;obtain ⟨q2,bC,fB⟩:=hp;have oD:=zab bC;have Cs:=zab fB;clear dF e0 jd bC fB;go_wp2_with fail
     refine tc.mono ?_;rintro e w2 ⟨rfl,aw⟩;have kC:=zab (HL.o.step mI (zaf _ aw) (gF.o.below aw) (fun hb=>hb));clear tc aw c2;go_wp2_with fail
     refine (zpu HX.o oD.o kC.o.rs).mono ?_;rintro e w3 ⟨nv,bv,rfl,ay,aq,bP,aS⟩;obtain ⟨nvs,bvs,aL,aC,fS,mf⟩:=kC.o.parts;have bR:=aq.one.one;have iM:=row_one ay;have x5:=(fS.kept aS (zdi fS mI)).alloc (.cells #[.string ⟨q2.1.name.s.toArray⟩,.int .i64 q2.1.name.at_,nv,bv] 93);have ym:W0.heap.size<=w3.heap.size:=zyR kC.o.gb.size aS.size;have H3:=zab (And.intro ay (And.intro aq (And.intro bP aS)));have HP:=zab (And.intro aL (And.intro aC (And.intro fS mf)));have gV:=zan ay;have mV:=aq.one.shape;clear ay aq bP aS aL aC fS mf;go_wp2_with (at_builtin;refine wpList_append_lies _ rfl _ _ _ rfl W0.heap.size 93 i0 _ 4 64 underlying60 HI.o HZ.o.1 HZ.o.2.1 HZ.o.2.2 rfl (by omega) _ l.length (zaR l nvs bvs) rfl x5 ⟨w3.heap.size,0,none⟩ 1 1 [.string ⟨q2.1.name.s.toArray⟩,.int .i64 q2.1.name.at_,nv,bv] rfl rfl (World.news_of_block (cs:=#[.string ⟨q2.1.name.s.toArray⟩,.int .i64 q2.1.name.at_,nv,bv]) (t:=93) (fr:=(0,0)) (heap_alloc_new w3 _)) (onel iM bR) (by omega) (by unfold maxLen;omega) (by omega) (by simp;omega) (w3.heap.size+1) (by simp) ?_;intro g cap w4 ai ah aV aj)
     go_roundg gg
     case measure=>omega
     case rel=>
      exact ⟨l++[q2.1],q2.2,kC.o.add HP.o.1 HP.o.2.1 HP.o.2.2.1 HP.o.2.2.2 mI (by omega) H3.o.1 H3.o.2.1 H3.o.2.2.1 H3.o.2.2.2 ai ah aV (zrC (zcz n) oD.o),by simp;omega,Cs.o⟩
    ·have cK:((t.k:Int) == 0)=true:=by simp at dF ⊢;omega
     have aG:((t.k:Int) != 0)=false:=by simp at dF ⊢;omega
     rw[jd]at hp;have e0:(t.k != 0)=false:=by simpa using dF
     simp only[Option.isNone_none,Bool.true_and,e0,zzw,if_false,zyP]at hp;subst hp;clear dF e0 jd;go_wp2_with fail
     refine tc.mono ?_;rintro e w2 ⟨rfl,aw⟩;have kC:=zab (HL.o.step mI (zaf _ aw) (gF.o.below aw) (fun hb=>hb));have zs:=kC.o.rs.failed.1;rw[qJ.o]at zs;simp at zs;clear tc aw c2;go_wp2_with fail
     go_ret3
     refine ⟨cB.o.trans (zf0 kC.o aP mI),.inr ⟨qJ.o,u2,rfl,?_⟩⟩;obtain ⟨nvs,bvs,aL,aC,fS,mf⟩:=kC.o.parts;obtain ⟨m,hm⟩:=mf qJ.o;have kk:w.heap.size<=W0.heap.size:=by omega
     refine ⟨nvs,bvs,m,aL,aC,(Row.zaE fS).mono (fun k _ hk=>zyR kk hk),fun i x nv bv a b c=>?_⟩;have:=hm i x nv bv a b c;exact ⟨this.1.mono (fun k _ hk=>zyR kk hk.1),this.2.mono (fun k _ hk=>zyR kk hk.1)⟩
end Go.Proofs.YtgahgkddaljmkaaGreatDoor
namespace Go.Proofs.YtgahgkddaljmkaaGreatDoor
open Tryz
open Go.RowKit Go.Shelf
attribute [local go_sem] Oper.semAt_some
theorem zwG{t:List UInt8}(h:t≠[]):1<=(Th.word t).2.length:=by
 have:0<t.length:=zzA.2 h;unfold Th.word;split <;> exact this
theorem zw0{q:UInt8->Bool}{c:UInt8}{r:List UInt8}(h:q c=true):(c::r).takeWhile q≠[]:=by simp[h]
theorem zeO(t:List UInt8)(h:2<=(Th.first t).1):1<=(Th.first t).2.length:=by
 cases t with
 |nil=>simp[Th.first]at h
 |cons c r=>
  simp only[Th.first]at h ⊢;split
  ·next hc=>exact zwG (zw0 (by simp[Th.zlx,hc]))
  ·split
   ·next hc hd=>
    rw[if_neg hc,if_pos hd]at h;have hp:=zw0 (q:=Th.zba) (r:=r) hd;have:0<((c::r).takeWhile Th.zba).length:=zzA.2 hp;unfold Th.zo7 at h ⊢;split
    ·next h9=>rw[if_pos h9]at h;simp at h
    ·exact this
   ·split
    ·next hc hd hs=>rw[if_neg hc,if_neg hd,if_pos hs]at h;simp at h
    ·next hs=>
     have:=zlP (c::r);simp only[zzf];omega
theorem zvx(t:List UInt8):(Th.first t).2.length<=t.length:=by
 cases t with
 |nil=>simp[Th.first]
 |cons c r=>
  simp only[Th.first];split
  ·have:=zuI Th.zlx (c::r);unfold Th.word;split <;> exact this
  ·split
   ·have:=zuI Th.zba (c::r);unfold Th.zo7;split
    ·simp
    ·exact this
   ·split
    ·simp
    ·simp only[zzf];omega
theorem zoN(f:Nat)(t:List UInt8)(p:Nat):Th.zdN (f+1) t p=⟨(Th.first (t.drop (t.takeWhile Th.zda).length)).1,(Th.first (t.drop (t.takeWhile Th.zda).length)).2,p+(t.takeWhile Th.zda).length⟩ ::
  (if (Th.first (t.drop (t.takeWhile Th.zda).length)).1<=1 then [] else Th.zdN f ((t.drop (t.takeWhile Th.zda).length).drop (Th.first (t.drop (t.takeWhile Th.zda).length)).2.length) (p+(t.takeWhile Th.zda).length+(Th.first (t.drop (t.takeWhile Th.zda).length)).2.length)):=rfl
def zoK (t:Th.Tok):Value:=.agg #[.int .i64 t.k,.string ⟨t.s.toArray⟩,.int .i64 t.at_]
def Kp3 (n₀ Bn:Nat) (A B:World):Prop:=Below n₀ A B/\B.heap[Bn]?=A.heap[Bn]?/\∀ (b:Nat) (cs:Array Value),A.heap[b]?=some (.cells cs 135 (0,0))->cs.size=3->B.heap[b]?=some (.cells cs 135 (0,0))
theorem zqr(s:ByteArray)(p:Nat):(s.extract p s.size).data.toList=s.data.toList.drop p:=by
 rw[Lib.extract_data,zy9];simp
theorem zpa{J:List Th.Tok->World->Prop}{B:Nat}(hJ:AbidesFrom B J){pre:List Th.Tok}{A C:World}(h:J pre A)(hb:Below A.heap.size A C):J pre C:=
 hJ pre A C none h (zaf none hb) (by simp)
theorem zsc(n:Nat)(hn:1<=n)(l Bn n₀:Nat)(s:ByteArray)(hs:s.size<=600)(J Jx:List Th.Tok->World->Prop)(hY:∀ pre x W,J pre W->pre.length<(zay s).length->YieldAt Fence.wide (n-1) prog l #[zoK x] W fun e W'=>
   (e=.returned (.bool true)/\J (pre++[x]) W'/\Kp3 n₀ Bn W W')\/(e=.returned (.bool false)/\Jx (pre++[x]) W'))(W:World)(hn₀:n₀<=W.heap.size)(hJ:AbidesFrom W.heap.size J)(DT:W.cell? ⟨Bn,0,none⟩=some (.string s))(h0:J [] W):
  CallsIn Fence.wide n prog 187 #[.func (.yield l) #[] #[],.pointer (some ⟨Bn,0,none⟩)] W fun e W'=>(∃ v,e=.returned v) /\
   ((∃ ys,ys=zay s/\J ys W')\/(∃ pre,pre <+: zay s/\Jx pre W')):=by
 have HY:=zab hY;have HJ:=zab hJ;clear hY hJ;refine callsIn_of_wp func187 rfl trivial ?_ rfl;simp only[ntmps187,zzr,zy8,zzm,Nat.reduceAdd,Nat.reduceSub,zzB,zzC,zzH,zzE,zzb,zy7]
 gi_wp2
 gi_loopw [3] (fun i wr=>∃ (pre:List Th.Tok) (p f:Nat),i=.int .i64 p/\p<=s.size/\s.size-p<=f/\Hid (zay s=pre++Th.zdN (f+1) (s.data.toList.drop p) p)/\wr.cell? ⟨Bn,0,none⟩=some (.string s)/\n₀<=wr.heap.size/\Hid (Below n₀ W wr)/\Hid (J pre wr))
  (fun i _=>s.size+1-(intOf i).toNat)
 case atStart=>exact ⟨[],0,s.size,rfl,zy5 _,by omega,zab (by simp[zay]),DT,hn₀,zab (Below.refl _ _),zab h0⟩
 case round=>
  obtain ⟨pre,p,f,rfl,hp,hf,hT,hB,hz,zF,zM⟩:=hrel;obtain ⟨b,hb⟩:∃ b,((s.data.toList.drop p).takeWhile Th.zda).length=b:=⟨_,rfl⟩;have cV:b<=s.size-p:=by
   have:=zuI Th.zda (s.data.toList.drop p);rw[hb]at this;simpa using this
  obtain ⟨a,ha⟩:∃ a,p+b=a:=⟨_,rfl⟩;have aU:a<=s.size:=by omega
  have js:p<=a:=by omega
  obtain ⟨⟨k,t⟩,jI⟩:∃ x,Th.first (s.data.toList.drop a)=x:=⟨_,rfl⟩
  have cu:=zvx (s.data.toList.drop a);rw[jI]at cu;simp only[zzu]at cu;have Fe:t.length<=s.size-a:=by simpa using cu
  have gl:Hid (zay s=pre++⟨k,t,a⟩::(if k<=1 then [] else Th.zdN f (s.data.toList.drop (a+t.length)) (a+t.length))):=zab (by
   have e:=hT.o;rw[zoN,hb,List.drop_drop,ha,jI]at e;simp only[List.drop_drop]at e;exact e)
  have bp:Hid (2<=k->1<=t.length):=zab (fun h=>by have:=zeO (s.data.toList.drop a) (by rw[jI];exact h);rw[jI]at this;exact this);have Ha:=zab ha;clear ha;have Hb:=zab hb;have Dg:=zab jI;clear hb jI cu hT
  gi_wp2
  refine ⟨trivial,?_⟩;refine (callsIn_wide.2 (zxR _ _ (by rw[ByteArray.size_extract];omega))).mono ?_;rintro e w1 ⟨rfl,pos,aD⟩;rw[zqr,Hb.o];have aA:Below wr.heap.size wr w1:=by rw[aD];exact zam _ _
  have zL:=zab (zpa HJ.o zM.o aA);have ry:=zab (zF.o.trans (aA.mono hz));have cU:w1.cell? ⟨Bn,0,none⟩=some (.string s):=(aA.cell (p:=⟨Bn,0,none⟩) (zeK hB)).trans hB;have aP:n₀<=w1.heap.size:=zyR hz aA.size;clear aA aD hB zM zF hz
  gi_wp2
  refine ⟨trivial,?_⟩;rw[show ((p:Int)+(b:Int))=(a:Int) by have:=Ha.o;omega,show p+b=a from Ha.o];refine (callsIn_wide.2 (zs7 _ _ (by rw[ByteArray.size_extract];omega))).mono ?_;rintro e w2 ⟨rfl,aw⟩;rw[zqr,Dg.o];have wR:=zab (zpa HJ.o (zpa HJ.o zL.o aw) (zam w2 (.cells #[.int .i64 k,.string ⟨t.toArray⟩,.int .i64 (a:Int)] 135)));have oM:=zab ((ry.o.trans (aw.mono aP)).trans ((zam w2 (.cells #[.int .i64 k,.string ⟨t.toArray⟩,.int .i64 (a:Int)] 135)).mono (zyR aP aw.size)));have jh:w2.cell? ⟨Bn,0,none⟩=some (.string s):=(aw.cell (p:=⟨Bn,0,none⟩) (zeK cU)).trans cU;have bF:n₀<=w2.heap.size:=zyR aP aw.size;have hlen:pre.length<(zay s).length:=by rw[gl.o];simp
  obtain ⟨fn,tmps,assign,body,hy,hR⟩:=HY.o pre ⟨k,t,a⟩ _ wR.o hlen;have HR:=zab hR;simp only[zoK]at hy;clear hR aw cU zL ry
  gi_wp2
  refine HR.o.mono ?_;rintro e w3 (⟨rfl,gP,dG⟩|⟨rfl,rD⟩)
  ·have wP:Blk w3 w2.heap.size [.int .i64 k,.string ⟨t.toArray⟩,.int .i64 a] 135:=dG.2.2 _ _ (heap_alloc_new w2 _) rfl;have c0:=wP.cell 0;have c1:=wP.cell 1;simp at c0 c1;have ia:w3.cell? ⟨Bn,0,none⟩=some (.string s):=(World.cell?_of_block (a:=⟨Bn,0,none⟩) dG.2.1).trans ((((zam w2 (.cells #[.int .i64 k,.string ⟨t.toArray⟩,.int .i64 (a:Int)] 135)).cell (p:=⟨Bn,0,none⟩) (zeK jh))).trans jh);have ym:n₀<=w3.heap.size:=by have:=dG.1.size;simp at this;omega
   have wO:=zab (oM.o.trans dG.1);have iu:=zab gP;clear wP dG gP hy HR wR oM jh bF;by_cases dF:k=0
   ·have rK:Hid (zay s=pre++[⟨k,t,a⟩]):=zab (by have e:=gl.o;rw[if_pos (by omega)]at e;exact e);have xC:((k:Int) == 0)=true:=by simp;omega
    have HK:=zab dF;clear dF
    gi_wp2
    refine bodyPost_ret (results_none rfl _ _ _) rfl ?_;exact ⟨⟨_,rfl⟩,.inl ⟨_,rK.o.symm,iu.o⟩⟩
   ·have xC:((k:Int) == 0)=false:=by simp;omega
    by_cases cK:k=1
    ·have rK:Hid (zay s=pre++[⟨k,t,a⟩]):=zab (by have e:=gl.o;rw[if_pos (by omega)]at e;exact e);have xD:((k:Int) == 1)=true:=by simp;omega
     clear dF cK
     gi_wp2
     refine bodyPost_ret (results_none rfl _ _ _) rfl ?_;exact ⟨⟨_,rfl⟩,.inl ⟨_,rK.o.symm,iu.o⟩⟩
    ·have xD:((k:Int) == 1)=false:=by simp;omega
     have rK:Hid (zay s=(pre++[⟨k,t,a⟩])++Th.zdN f (s.data.toList.drop (a+t.length)) (a+t.length)):=zab (by have e:=gl.o;rw[if_neg (by omega)]at e;rw[e];simp);have sN:=bp.o (by omega);clear dF cK
     gi_wp2
     go_roundw
     case rel=>
      cases f with
      |zero=>omega
      |succ f=>
       refine ⟨pre++[⟨k,t,a⟩],a+t.length,f,?_,by omega,by omega,rK,ia,ym,wO,iu⟩
       first|rfl|(congr 1;simp;omega)|go_num
     case measure=>
      simp[intOf];omega
  ·have Ci:=zab rD;clear rD hy HR wR oM jh
   gi_wp2
   refine bodyPost_ret (results_none rfl _ _ _) rfl ?_;refine ⟨⟨_,rfl⟩,.inr ⟨pre++[⟨k,t,a⟩],?_,Ci.o⟩⟩;rw[gl.o];exact ⟨_,by simp;rfl⟩
theorem zxt:(prog.info? 135).map (fun i=>(i.zero,i.size,i.bytes))=some (some (.agg #[.int .i64 0,.string ⟨#[]⟩,.int .i64 0]),3,32):=by kernel_rfl
theorem zq9{P:Program}(w:World)(base:Nat)(t ty e:TypeId)(i:TypeInfo)(z:Value)(bytes:Nat)(ht:P.underlying t=some (.slice e))(hi:P.info? e=some i)(hz:i.zero=some z)(iO:i.size=3)(uG:i.bytes=bytes)(yq:z.cells.size=3)(v:Value)(n:Nat)(xs:List Value)(ai:w.ownsRow base e 3 v n xs)(ck:v=.slice none 0 0\/1<=n)(a:Addr)(c:Nat)(news:List Value)(hl:news.length=1*3)(jK:∀ j u,news[j]?=some u->w.cell? (a.add j)=some u)(h1:∀ u∈news,u.oneCell'=true)(uC:n+1<=maxLen)(gQ:(n+1)*bytes<=140737488355328)(kO:base<=w.heap.size):
  ∃ v' w',(Builtin.append_ #[t,t] ty #[v,.slice (some a) 1 c]).run P w=.ok v' w'/\w'.ownsRow base e 3 v' (n+1) (xs++news)/\w.grownBy w' v.ownBlock/\(v'=.slice none 0 0↔v=.slice none 0 0/\1=0) /\
   (∀ (b:Nat) (cs:Array Value),w.heap[b]?=some (.cells cs e (0,0))->cs.size=3->w'.heap[b]?=some (.cells cs e (0,0))):=by
 obtain ⟨v',w',hr,h2,h3,h4⟩:=run_append_own (P:=P) w base t ty e i z 3 bytes ht hi hz iO uG yq (by omega) v n xs ai a 1 c news hl jK h1 uC gQ kO;refine ⟨v',w',hr,h2,h3,h4,fun b cs hb aE=>?_⟩;have aj:b<w.heap.size:=(zyY.1 hb).1;by_cases hv:some b=v.ownBlock
 ·rcases ai.2 with ⟨rfl,_⟩|⟨g,cap,cur,rfl,rR,hg,o6,lY,fK,AQ⟩
  ·simp[Value.ownBlock]at hv
  ·simp only[Value.ownBlock,zyP]at hv;subst hv;rw[hg]at hb;simp only[zyP,Obj.cells.injEq]at hb;have kS:cap=1:=by rw[<-hb.1,fK]at aE;omega
   rcases ck with ck|ck
   ·cases ck
   ·have holds:∀ j u,xs[j]?=some u->w.cell? ((⟨b,0,none⟩:Addr).add j)=some u:=ai.cells (g:=b) rfl;have cg:=run_append_grow (P:=P) w t ty e i z ht hi hz ⟨b,0,none⟩ n cap xs (by rw[iO];exact ai.1) holds a 1 c news (by rw[iO];exact hl) jK (by omega) (by unfold maxLen at uC;omega) (growslice_fits (by omega) (by rw[uG];exact gQ));rw[cg]at hr;simp only[Result.ok.injEq]at hr;rw[<-hr.2];exact (Below.heap_alloc w.drew _ b aj).trans (by rw[<-hb.1];exact hg)
 ·rw[h3.block b aj hv];exact hb
theorem zgH{F:Fence}{nF:Nat}{P:Program}(w:World){ops:Array Oper}{rest:List Oper}{o:Oper}{a:Act}{Q:Exit->Act->World->Prop}(oY:o.guard=none)(s x:Operand)(t:TypeId)(ho:o.op=.call { callee:=.builtin .append,args:=#[s,x],argTypes:=#[t,t] })(base:Nat)(e:TypeId)(i:TypeInfo)(z:Value)(bytes:Nat)(ht:P.underlying t=some (.slice e))(hi:P.info? e=some i)(hz:i.zero=some z)(iO:i.size=3)(uG:i.bytes=bytes)(yq:z.cells.size=3)(v:Value)(n:Nat)(xs:List Value)(hs:a.eval s=v)(ai:w.ownsRow base e 3 v n xs)(ck:v=.slice none 0 0\/1<=n)(ad:Addr)(c:Nat)(news:List Value)(hx:a.eval x=.slice (some ad) 1 c)(hl:news.length=1*3)(jK:∀ j u,news[j]?=some u->w.cell? (ad.add j)=some u)(h1:∀ u∈news,u.oneCell'=true)(uC:n+1<=maxLen)(gQ:(n+1)*bytes<=140737488355328)(kO:base<=w.heap.size)(h:∀ v' w',w'.ownsRow base e 3 v' (n+1) (xs++news)->w.grownBy w' v.ownBlock ->
   (∀ (b:Nat) (cs:Array Value),w.heap[b]?=some (.cells cs e (0,0))->cs.size=3->w'.heap[b]?=some (.cells cs e (0,0)))->wpListIn F nF P ops Q rest (a.put o.dst v') w'):
  wpListIn F nF P ops Q (o::rest) a w:=by
 refine wpListIn_plain oY fun K hK=>?_
 obtain ⟨v',w',hr,h2,h3,h4,h5⟩:=zq9 (P:=P) w base t o.type e i z bytes ht hi hz iO uG yq v n xs ai ck ad c news hl jK h1 uC gQ kO;unfold Oper.wpIn;refine ⟨by simp[Oper.about,ho,resolve,Target.leads,Sem.run_pure],?_⟩;rw[Oper.semAt_plain F _ _ (by rw[ho];intro c eV;cases eV)];simp[execOp,ho,resolve,invoke,builtin,hs,hx,hr,Result.andThen];exact hK _ _ (h v' w' h2 h3 h5)
variable {n₀ Bn:Nat}
theorem kp3_t{A B C:World}(h:Kp3 n₀ Bn A B)(k:Kp3 n₀ Bn B C):Kp3 n₀ Bn A C:=⟨h.1.trans k.1,k.2.1.trans h.2.1,fun b cs hb hc=>k.2.2 b cs (h.2.2 b cs hb hc) hc⟩
variable {w:World}
theorem kp3_b(hn:n₀<=w.heap.size)(hB:Bn<w.heap.size)(W:World)(l:Nat)(o o':Obj)(hl:w.heap.size<=l)(h:W.heap[l]?=some o)(hc:o.isCells=false)(hw:o.isWalk=false):Kp3 n₀ Bn W (W.putObj l o'):=by
 refine ⟨belowK_b hn W l o o' hl h hc hw,World.putObj_heap_other (by omega),fun b cs hb _=>?_⟩;have aH:b≠l:=by
  intro e;subst e;rw[h]at hb;cases hb;cases hc
 rw[World.putObj_heap_other aH];exact hb
theorem ztl(W:World)(hn:n₀<=W.heap.size)(hB:Bn<W.heap.size)(o:Obj):Kp3 n₀ Bn W (W.alloc o):=
 ⟨(Below.refl n₀ W).alloc hn o,Below.heap_alloc _ _ _ hB,fun b cs hb _=>by rw[Below.heap_alloc _ _ _ (zyY.1 hb).1];exact hb⟩
theorem Blk.own(Bx:Nat)(vs:List Value)(t:TypeId){X Y:World}{row:Option Nat}(h:Blk X Bx vs t)(hg:X.grownBy Y row)(hr:∀ r,row=some r->∃ o:Obj,X.heap[r]?=some o/\o.isCells=false):Blk Y Bx vs t:=by
 refine h.grown hg (fun e=>?_);obtain ⟨o,ho,hc⟩:=hr Bx e.symm;unfold Blk at h;rw[h]at ho;cases ho;cases hc
theorem zk3(l:List Th.Tok)(t:Th.Tok):za2 (l++[t])=za2 l++zb6 t:=by simp[za2]
theorem zxX(t:Th.Tok):∀ u∈zb6 t,u.oneCell'=true:=by
 intro u hu;simp only[zb6,zzo,zzZ,or_false]at hu;rcases hu with rfl|rfl|rfl <;> rfl
theorem zuG(n:Nat)(s:ByteArray)(w:World):
  CallsIn Fence.wide n prog 114 #[.string s] w fun e w'=>e=.returned (.func (.func 187) #[] #[.pointer (some ⟨w.heap.size,0,none⟩)])/\w'=w.alloc (.cells #[.string s] 9):=by
 refine callsIn_of_wp func114 rfl trivial ?_ rfl;simp only[ntmps114,zzr,zy8,zzm,Nat.reduceAdd,Nat.reduceSub,zzB,zzC,zzH,zzE,zzb,zy7]
 gi_wp2
 go_ret
 exact ⟨rfl,rfl⟩
theorem zfE:∀ (f:Nat) (t:List UInt8) (p:Nat),(Th.zdN f t p).length<=f+1
 |0,_,_=>by simp[Th.zdN]
 |f+1,t,p=>by
  rw[zoN];simp only[zy8];split
  ·simp
  ·have:=zfE f ((t.drop (t.takeWhile Th.zda).length).drop (Th.first (t.drop (t.takeWhile Th.zda).length)).2.length) (p+(t.takeWhile Th.zda).length+(Th.first (t.drop (t.takeWhile Th.zda).length)).2.length);omega
theorem zrh(s:ByteArray)(w:World)(hs:s.size<=600):
  CallsIn Fence.wide 5 prog 66 #[.string s] w fun e w'=>∃ v,e=.returned v/\w'.ownsRow w.heap.size 135 3 v (zay s).length (za2 (zay s))/\Below w.heap.size w w':=by
 have Gt:(zay s).length<=602:=by have:=zfE (s.size+1) s.data.toList 0;unfold zay;omega
 obtain ⟨i0,hi,bq,aP,bF⟩:=info_parts zxt;have HI:=zab hi;clear hi;have HZ:=zab (And.intro bq (And.intro aP bF));clear bq aP bF;refine callsIn_of_wp_marks func66 rfl trivial ?_ rfl;simp only[ntmps66,zzr,zy8,zzm,Nat.reduceAdd,Nat.reduceSub,zzB,zzC,zzH,zzE,zzb,zy7]
 gi_wp2
 refine ⟨trivial,?_⟩;refine (zuG 4 s _).mono ?_;rintro e w1 ⟨rfl,rfl⟩
 gi_wp2
 have bO:=Boxed.new w 129 (.slice none 0 0);have bN:=Boxed.new (w.alloc (.cells #[.slice none 0 0] 129)) 9 (.string s);simp only[World.size_alloc]at bN ⊢;have nH:Below w.heap.size w ((w.alloc (.cells #[.slice none 0 0] 129)).alloc (.cells #[.string s] 9)):=((Below.refl _ w).alloc (zyN _) _).alloc (by simp) _;have zq:=bO.alloc (.cells #[.string s] 9);have cT:((w.alloc (.cells #[.slice none 0 0] 129)).alloc (.cells #[.string s] 9)).heap.size=w.heap.size+2:=by simp
 obtain ⟨W0,rL⟩:∃ W0,(w.alloc (.cells #[.slice none 0 0] 129)).alloc (.cells #[.string s] 9)=W0:=⟨_,rfl⟩;rw[rL]at zq bN nH cT ⊢;clear rL bO;refine wpIn_rangeFunc_ownH rfl (by omega) (gf:=187) (lb:=#[.pointer (some ⟨w.heap.size+1,0,none⟩)]) rfl trivial (enters_of func187 (by kernel_rfl) rfl)
  (encs:=fun x:Th.Tok=>#[zoK x]) (Kp:=Kp3 w.heap.size (w.heap.size+1)) (S:=fun ys=>ys=zay s) (Sp:=fun pre=>pre <+: zay s) (N:=(zay s).length) (w0:=W0)
  (fun l J Jx W hW hJ wS hY h0=>zsc _ (by omega) l (w.heap.size+1) w.heap.size s hs J Jx hY W (by have:=hW.size;omega) hJ ((hW.cell (p:=⟨w.heap.size+1,0,none⟩) (by simp;omega)).trans bN.cell) h0)
  kp3_t (kp3_b (by omega) (by omega)) (Below.refl _ _) (fun _=>rfl)
  (fun pre W=>(∃ v,Boxed W w.heap.size 129 v/\W.ownsRow w.heap.size 135 3 v pre.length (za2 pre)/\(v=.slice none 0 0↔pre=[]))/\(Below w.heap.size w W/\Boxed W (w.heap.size+1) 9 (.string s)))
  (fun _ _ _=>False)
  (OwnFrom.and (Own.from (holdsRow_own w.heap.size w.heap.size 129 135 3 (fun pre:List Th.Tok=>pre.length) (fun pre=>za2 pre) (fun pre v=>v=.slice none 0 0↔pre=[])) _) (OwnFrom.and (ownFrom_below (zyN _) (by omega)) (Own.from (boxed_own _ _ _) _)))
  (fun _ _ _ _ _ hs _ _=>hs)
  ⟨⟨_,zq,World.ownsRow_nil _ _ _ _,by simp⟩,nH,bN⟩
  (fun x a' W=>∃ Bx,w.heap.size+1<Bx/\Blk W Bx (zb6 x) 135/\a'={ tmps:=#[.string s,undef,.slice none 0 0,.pointer (some ⟨w.heap.size,0,none⟩),.pointer (some ⟨Bx,0,none⟩),.string s,.func (.func 187) #[] #[.pointer (some ⟨w.heap.size+1,0,none⟩)],zoK x,undef,undef,undef,undef,undef],defers:=[] })
  (fun x a' _ X Y row hs hg hr=>by obtain ⟨Bx,h1,h2,h3⟩:=hs;exact ⟨Bx,h1,h2.own _ _ _ hg (fun r e=>(hr r e).2),h3⟩)
  ?assign ?body ?done ?stop
 case assign=>
  rintro l pre x W K ⟨⟨v,hv,af,ck⟩,⟨cU,eG⟩⟩ hK;unfold zoK at *
  gi_wp2
  exact hK _ _ ((KeepsOthers.alloc _ _).from _) (ztl W cU.size eG.lt _) ⟨⟨v,hv.alloc _,af.alloc _,ck⟩,cU.alloc cU.size _,eG.alloc _⟩ ⟨W.heap.size,eG.lt,Blk.new W _ _,rfl⟩
 case body=>
  rintro l pre x a' W hl ⟨r,hr⟩ ⟨⟨v,hv,af,ck⟩,⟨cU,eG⟩⟩ ⟨Bx,Gp,bX,rfl⟩ aj;have hc:=hv.cell;have x0:=bX.cell 0;have x1:=bX.cell 1;have x2:=bX.cell 2;simp[zb6]at x0 x1 x2;have gK:pre.length<=602:=by omega
  have cR:v=.slice none 0 0\/1<=pre.length:=by
   by_cases he:pre=[]
   ·exact .inl (ck.2 he)
   ·exact .inr (zzA.2 he)
  gi_wp2_with (gi_at_builtin;refine zgH _ rfl _ _ 129 rfl w.heap.size 135 i0 _ 32 underlying129 HI.o HZ.o.1 HZ.o.2.1 HZ.o.2.2 rfl _ pre.length (za2 pre) rfl (af.alloc _) cR ⟨W.heap.size,0,none⟩ 1 (zb6 x) rfl rfl (World.news_of_block (cs:=#[.int .i64 x.k,.string ⟨x.s.toArray⟩,.int .i64 x.at_]) (t:=135) (fr:=(0,0)) (heap_alloc_new W _)) (zxX x) (by unfold maxLen;omega) (by omega) (by have:=cU.size;simp;omega) ?_;intro v' w1 dR ah h5;obtain ⟨g',dU,rfl⟩:=ownsRow_succ dR;obtain ⟨qg,Fl,cg,aG,aw⟩:=hv.appended (by decide) af cU.size (zyN _) dR ah;have bH:=qg.cell;have l8:=qg.frozen)
  refine ⟨aG.from _,⟨aw,?_,?_⟩,⟨_,Fl,?_,?_⟩,cU.trans aw,?_⟩
  ·rw[Below.heap_setCell _ _ _ _ (by simp),ah.block _ (by simp;have:=eG.lt;omega) (eG.not_row (by decide) af),Below.heap_alloc _ _ _ eG.lt]
  ·intro b cs hb aE;have aH:b≠w.heap.size:=by
    intro e;subst e;rw[show W.heap[w.heap.size]?=_ from hv]at hb;cases hb
   rw[Below.heap_setCell _ _ _ _ aH];exact h5 b cs (by rw[Below.heap_alloc _ _ _ (zyY.1 hb).1];exact hb) aE
  ·rw[zk3,zyT];exact cg
  ·simp
  ·exact ((eG.alloc _).kept ah (eG.not_row (by decide) af)).other (by omega) _
 case done=>
  rintro D ys W hD rfl ⟨⟨v,hv,af,ck⟩,⟨hB,_⟩⟩ hK;have hc:=hv.cell
  gi_wp2
  refine ⟨by simp,.inl ⟨_,_,rfl,run_takeDeferred hK,?_⟩⟩;exact ⟨_,results_tmp rfl _ _ _,v,rfl,ownsRow_putObj af _ hK rfl,hB.trans (belowK_b (w:=w) (zyN _) W D _ _ (by omega) hK rfl rfl)⟩
 case stop=>
  rintro D c pre W _ _ h _;exact h.elim
theorem zri:znl:=fun s w hs=>callsIn_wide.1 (zrh s w hs)
end Go.Proofs.YtgahgkddaljmkaaGreatDoor
