/- Par14 .. Iter2 -/
import Derived.Test.YtgahgkddaljmkaaGreatDoorV12
import Derived.Deep.AppendLies
import Derived.RangeFuncNested
import Derived.RangeFuncBound
import Derived.RangeFuncCalls
import Derived.RangeFuncLeaves
import Derived.RangeFuncBox
import Derived.Shelf.Abstract
import Derived.OwnWalkIn
import Derived.TacticsInMore
import Derived.LoopNIn
import Derived.LoopIn
import Derived.Maps.AppendAt
import Derived.Test.YtgahgkddaljmkaaGreatDoorV1
set_option maxRecDepth 100000
set_option maxHeartbeats 4000000
namespace Go.Proofs.YtgahgkddaljmkaaGreatDoor
open Go.RowKit
theorem zby(st:Th.St):st.adv.bad=none->st.bad=none:=fun h=>h
variable {st:Th.St}
theorem zhA(h:st.fail.bad=none):False:=zvF h
theorem ztK(st:Th.St):(Th.zdf st).2.bad=none->st.bad=none:=by
 intro h;exact zdQ _ _ _ (zaC _ _ (zdQ _ _ _ (zaC _ _ h)))
variable {ex:Th.Rd}
theorem zfo(hk:zbC ex){q:Th.Ex × Th.St}(h:Th.zeL ex st=some q):q.2.bad=none->st.bad=none:=by
 unfold Th.zeL at h;intro hb;split at h
 ·cases h;exact hb
 ·split at h
  ·cases h;exact hb
  ·split at h
   ·cases h;exact zby _ (ztK _ hb)
   ·split at h
    ·simp only[zxM,zxL]at h;obtain ⟨r,h1,rfl⟩:=h;exact zby _ (hk _ _ _ h1 (zaC _ _ hb))
    ·cases h;exact (zhA hb).elim
theorem zjI{ex:Th.Rd}(hk:zbC ex):∀ (k:Nat) (e:Th.Ex) (st:Th.St) (q:Th.Ex × Th.St),Th.zcT ex k e st=some q->q.2.bad=none->st.bad=none
 |0,_,_,_,h=>by simp[Th.zcT]at h
 |k+1,e,st,q,h=>by
  rw[Th.zcT]at h;split at h
  ·simp only[zxM]at h;obtain ⟨r,h1,h2⟩:=h;exact fun hb=>zfo hk h1 (zjI hk k _ _ _ h2 hb)
  ·cases h;exact fun hb=>hb
theorem zfx(hk:zbC ex)(k:Nat)(st:Th.St)(q:Th.Ex × Th.St)(h:Th.zhH ex k st=some q):q.2.bad=none->st.bad=none:=by
 unfold Th.zhH at h;simp only[zxM]at h;obtain ⟨r,h1,h2⟩:=h;exact fun hb=>zfo hk h1 (zjI hk k _ _ _ h2 hb)
theorem zjf{sub:Th.St->Option (Th.Ex × Th.St)}(hs:∀ st q,sub st=some q->q.2.bad=none->st.bad=none)(a b:List UInt8):∀ (k:Nat) (e:Th.Ex) (st:Th.St) (q:Th.Ex × Th.St),Th.zkj sub a b k e st=some q->q.2.bad=none->st.bad=none
 |0,_,_,_,h=>by simp[Th.zkj]at h
 |k+1,e,st,q,h=>by
  rw[Th.zkj]at h;split at h
  ·simp only[zxM]at h;obtain ⟨r,h1,h2⟩:=h;exact fun hb=>zby _ (hs _ _ h1 (zjf hs a b k _ _ _ h2 hb))
  ·cases h;exact fun hb=>hb
theorem zcV(hk:zbC ex)(k:Nat)(st:Th.St)(q:Th.Ex × Th.St)(h:Th.zcD ex k st=some q):q.2.bad=none->st.bad=none:=by
 unfold Th.zcD at h;simp only[zxM]at h;obtain ⟨r,h1,h2⟩:=h;exact fun hb=>zfx hk k _ _ h1 (zjf (zfx hk k) _ _ k _ _ _ h2 hb)
theorem ze1(hk:zbC ex)(k:Nat)(st:Th.St)(q:Th.Ex × Th.St)(h:Th.zuk ex k st=some q):q.2.bad=none->st.bad=none:=by
 unfold Th.zuk at h;simp only[zxM]at h;obtain ⟨r,h1,h2⟩:=h;exact fun hb=>zcV hk k _ _ h1 (zjf (zcV hk k) _ _ k _ _ _ h2 hb)
theorem zqZ(hk:zbC ex)(k:Nat)(st:Th.St)(q:Th.Ex × Th.St)(h:Th.zjg ex k st=some q):q.2.bad=none->st.bad=none:=by
 unfold Th.zjg at h;simp only[zxM]at h;obtain ⟨r,h1,h2⟩:=h;split at h2
 ·simp only[zxM,zxL]at h2;obtain ⟨s,h3,rfl⟩:=h2;exact fun hb=>ze1 hk k _ _ h1 (zby _ (ze1 hk k _ _ h3 hb))
 ·cases h2;exact ze1 hk k _ _ h1
theorem zjX{ex:Th.Rd}(hk:zbC ex):∀ (k:Nat) (l:List Th.Tok) (es:List Th.Ex) (st:Th.St) (q:List Th.Tok × List Th.Ex × Th.St),Th.zcs ex k l es st=some q->q.2.2.bad=none->st.bad=none
 |0,_,_,_,_,h=>by simp[Th.zcs]at h
 |k+1,l,es,st,q,h=>by
  rw[Th.zcs]at h;simp only[zxM]at h;obtain ⟨r,h1,h2⟩:=h;have h0:r.2.bad=none->st.bad=none:=fun hb=>zc7 _ (zaC _ _ (hk _ _ _ h1 hb))
  split at h2
  ·exact fun hb=>h0 (zby _ (zjX hk k _ _ _ _ h2 hb))
  ·cases h2;exact h0
theorem zfy{ex:Th.Rd}(hk:zbC ex)(c:Bool):∀ (k:Nat) (l:List (Nat × List Th.Tok)) (es:List Th.Ex) (st:Th.St) (q:List (Nat × List Th.Tok) × List Th.Ex × Th.St),Th.zeA ex c k l es st=some q->q.2.2.bad=none->st.bad=none
 |0,_,_,_,_,h=>by simp[Th.zeA]at h
 |k+1,l,es,st,q,h=>by
  rw[Th.zeA]at h;simp only[zxM]at h;obtain ⟨r,h1,h2⟩:=h;split at h2
  ·exact fun hb=>zfi hk h1 (zby _ (zfy hk c k _ _ _ _ h2 hb))
  ·cases h2;exact zfi hk h1
theorem zq4(hk:zbC ex)(k:Nat):zbC (Th.zgF ex k):=by
 intro c st q h hb;unfold Th.zgF at h;split at h
 ·unfold Th.zsk at h;simp only[zxM,zxL]at h;obtain ⟨r,h1,s,h2,rfl⟩:=h;have:=zjX hk k _ _ _ _ h1 (zaC _ _ (hk _ _ _ h2 hb));split at this
  ·exact zby _ (zby _ this)
  ·exact zby _ this
 ·split at h
  ·unfold Th.zjC at h;simp only[zxM,zxL]at h;obtain ⟨r,h1,s,h2,rfl⟩:=h;exact zby _ (hk _ _ _ h1 (zaC _ _ (zfy hk c k _ _ _ _ h2 hb)))
  ·split at h
   ·unfold Th.zt3 at h;simp only[zxM,zxL]at h;obtain ⟨r,h1,rfl⟩:=h;exact zby _ (zc7 _ (zcO _ (zaC _ _ (hk _ _ _ h1 hb))))
   ·exact zqZ hk k _ _ h hb
theorem zcz:∀ n,zbC (Th.zei n)
 |0=>fun _ _ _ h=>by simp[Th.zei]at h
 |n+1=>zq4 (zcz n) n
variable {w:World}
variable {r tb:Nat}
variable {T:List Th.Tok}
theorem ziE{w1 w2:World}{e:Th.Ex}{s:Th.St}{en:Ending}(hg:w.grownBy w1 (some r))(h:Reads w1 r tb T e s en w2):Reads w r tb T e s en w2:=by
 obtain ⟨v,h1,h2,h3,h4⟩:=h;exact ⟨v,h1,h2.mono (fun k _ hk=>zxN hg.size hk),h3,zad hg h4⟩
theorem zwV(hx:zr0 ex)(hk:zbC ex){k:Nat}(hkk:k<=1000000):zr0 (Th.zgF ex k):=by
 intro c st q w r tb T hq h;have hrl:=h.lt;have HQ:=zab hq;clear hq;go_enter Tryz.func118,Tryz.ntmps118
 go_wp2_with fail
 refine (zbF h ⟨#[108,101,116]⟩ (by simp)).mono ?_;rintro e w1 ⟨rfl,hs1,hg1⟩;have Hg1:=zab hg1;clear hg1 h;cases h1:st.is Th.ztI
 ·rw[show st.is (ByteArray.mk #[108,101,116]).data.toList=false from h1]at hs1 ⊢;have hs1':RS w1 r tb T st:=by simpa using hs1
  have H1:=zab h1;clear h1 hs1;go_wp2_with fail
  refine (zbF hs1' ⟨#[99,97,115,101]⟩ (by simp)).mono ?_;rintro e w2 ⟨rfl,hs2,hg2⟩;have Hg2:=zab (zad Hg1.o hg2);clear hg2 hs1';cases h2:st.is Th.zjp
  ·rw[show st.is (ByteArray.mk #[99,97,115,101]).data.toList=false from h2]at hs2 ⊢;have hs2':RS w2 r tb T st:=by simpa using hs2
   have H2:=zab h2;clear h2 hs2;go_wp2_with fail
   refine (zbF hs2' ⟨#[92]⟩ (by simp)).mono ?_;rintro e w3 ⟨rfl,hs3,hg3⟩;have Hg3:=zab (zad Hg2.o hg3);clear hg3 hs2';cases h3:st.is [92]
   ·rw[show st.is (ByteArray.mk #[92]).data.toList=false from h3]at hs3;have hs3':RS w3 r tb T st:=by simpa using hs3
    have hq3:Hid (Th.zjg ex k st=some q):=zab (by have e:=HQ.o;rw[Th.zgF,H1.o,H2.o,h3]at e;simpa using e);clear h3 hs3;go_wp2_with fail
    refine (zwG hx k _ _ _ _ _ _ hq3.o hs3').mono ?_;rintro en w4 hr;obtain ⟨v,rfl,hr2⟩:=ziE Hg3.o hr;have hc:=hr2.1.one.cells;have HR:=zab hr2;clear hr hr2 hs3';go_wp2_with fail
    go_ret
    exact ⟨v,rfl,HR.o⟩
   ·rw[show st.is (ByteArray.mk #[92]).data.toList=true from h3]at hs3;have hs3':RS w3 r tb T st.adv:=by simpa using hs3
    have hq3:Hid (Th.zt3 ex c st.adv=some q):=zab (by have e:=HQ.o;rw[Th.zgF,H1.o,H2.o,h3]at e;simpa using e);clear h3 hs3;go_wp2_with fail
    refine (zso hx hq3.o hs3').mono ?_;rintro en w4 hr;obtain ⟨v,rfl,hr2⟩:=ziE Hg3.o hr;have hc:=hr2.1.one.cells;have HR:=zab hr2;clear hr hr2 hs3';go_wp2_with fail
    go_ret
    exact ⟨v,rfl,HR.o⟩
  ·rw[show st.is (ByteArray.mk #[99,97,115,101]).data.toList=true from h2]at hs2 ⊢;have hs2':RS w2 r tb T st.adv:=by simpa using hs2
   have hq2:Hid (Th.zjC ex k c st.adv=some q):=zab (by have e:=HQ.o;rw[Th.zgF,H1.o,h2]at e;simpa using e);clear h2 hs2;go_wp2_with fail
   refine (ztH hx hk hkk hq2.o hs2').mono ?_;rintro en w4 hr;obtain ⟨v,rfl,hr2⟩:=ziE Hg2.o hr;have hc:=hr2.1.one.cells;have HR:=zab hr2;clear hr hr2 hs2';go_wp2_with fail
   go_ret
   exact ⟨v,rfl,HR.o⟩
 ·rw[show st.is (ByteArray.mk #[108,101,116]).data.toList=true from h1]at hs1 ⊢;have hs1':RS w1 r tb T st.adv:=by simpa using hs1
  have hq1:Hid (Th.zsk ex k c st.adv=some q):=zab (by have e:=HQ.o;rw[Th.zgF,h1]at e;simpa using e);clear h1 hs1;go_wp2_with fail
  refine (zxf hx hk hkk hq1.o hs1').mono ?_;rintro en w4 hr;obtain ⟨v,rfl,hr2⟩:=ziE Hg1.o hr;have hc:=hr2.1.one.cells;have HR:=zab hr2;clear hr hr2 hs1';go_wp2_with fail
  go_ret
  exact ⟨v,rfl,HR.o⟩
theorem zsX:∀ (n:Nat),n<=1000000->zr0 (Th.zei n)
 |0,_=>fun _ _ _ _ _ _ _ h=>by simp[Th.zei]at h
 |n+1,hn=>zwV (zsX n (by omega)) (zcz n) (by omega)
theorem znS:(Tryz.prog.info? 93).map (fun i=>(i.zero,i.size,i.bytes))=some (some (.agg #[.string ⟨#[]⟩,.int .i64 0,.slice none 0 0,.nilIface]),4,64):=by kernel_rfl
def zaQ:List Th.zbq->List Value->List Value->List Value
 |x::l,n::ns,v::vs=>[.string ⟨x.name.s.toArray⟩,.int .i64 x.name.at_,n,v]++zaQ l ns vs
 |_,_,_=>[]
theorem zf0:∀ (l:List Th.zbq) (ns vs:List Value) (a:Th.zbq) (n v:Value),l.length=ns.length->l.length=vs.length->zaQ (l++[a]) (ns++[n]) (vs++[v])=zaQ l ns vs++[.string ⟨a.name.s.toArray⟩,.int .i64 a.name.at_,n,v]
 |[],[],[],_,_,_,_,_=>rfl
 |x::l,y::ns,z::vs,a,n,v,h1,h2=>by
  simp only[zx5,zaQ];rw[zf0 l ns vs a n v (by simpa using h1) (by simpa using h2)];simp
 |[],_::_,_,_,_,_,h,_=>by simp at h
 |[],[],_::_,_,_,_,_,h=>by simp at h
 |_::_,[],_,_,_,_,h,_=>by simp at h
 |_::_,_::_,[],_,_,_,_,h=>by simp at h
theorem onel{s:ByteArray}{p:Int}{u v:Value}(h1:u.oneCell'=true)(h:v.oneCell'=true):∀ x∈[Value.string s,.int .i64 p,u,v],x.oneCell'=true:=by
 intro x hu;simp only[zyk,zyU,or_false]at hu;rcases hu with rfl|rfl|rfl|rfl
 ·rfl
 ·rfl
 ·exact h1
 ·exact h
def zdx (S:Nat->Prop) (w:World) (n:Nat) (l:List Th.zbq) (nvs bvs:List Value):Prop:=
 ∀ (i:Nat) (x:Th.zbq) (nv bv:Value),l[i]?=some x->nvs[i]?=some nv->bvs[i]?=some bv->Row S w 88 2 nv x.params.length (zaj x.params)/\Rep S w n bv x.e
structure zlY (w wr:World) (r tb:Nat) (T:List Th.Tok) (l:List Th.zbq) (s1:Th.St) (sv:Value):Prop where
 rs:RS wr r tb T s1
 gb:w.grownBy wr (some r)
 parts:∃ nvs bvs,nvs.length=l.length/\bvs.length=l.length/\wr.ownsRow w.heap.size 93 4 sv l.length (zaQ l nvs bvs) /\
  (s1.bad=none->∃ n,zdx (fun b=>zat w b/\some b≠sv.ownBlock) wr n l nvs bvs)
variable {wr:World}
variable {l:List Th.zbq}
variable {s1:Th.St}
variable {sv:Value}
theorem zlY.add{w2 w3:World}{s2:Th.St}{nv v:Value}{x:Th.zbq}{g cap:Nat}{nvs bvs:List Value}{o:Obj}(hB:zlY w wr r tb T l s1 sv)(hl1:nvs.length=l.length)(hl2:bvs.length=l.length)(hro:wr.ownsRow w.heap.size 93 4 sv l.length (zaQ l nvs bvs))(hre:s1.bad=none->∃ n,zdx (fun b=>zat w b/\some b≠sv.ownBlock) wr n l nvs bvs)(hrl:r<w.heap.size)(htl:tb<w.heap.size)(hnv:Row (zat wr) w2 88 2 nv x.params.length (zaj x.params))(hgot:Got (zat wr) w2 v x.e s2)(hs2:RS w2 r tb T s2)(hg2:wr.grownBy w2 (some r))(hown:w3.ownsRow w.heap.size 93 4 (.slice (some ⟨g,0,none⟩) (l.length+1) cap) (l.length+1) (zaQ l nvs bvs++[.string ⟨x.name.s.toArray⟩,.int .i64 x.name.at_,nv,v]))(hgrow:(w2.alloc o).grownBy w3 sv.ownBlock)(hat:sv.ownBlock=some g\/g=w2.heap.size+1)(hbad:s2.bad=none->s1.bad=none):
  zlY w w3 r tb T (l++[x]) s2 (.slice (some ⟨g,0,none⟩) (l.length+1) cap):=by
 have hz2:wr.heap.size<=w2.heap.size:=hg2.size;have hz1:=hB.gb.size;have hsvb:∀ b,sv.ownBlock=some b->w.heap.size<=b/\b<wr.heap.size:=fun b hb=>⟨(hro.lt b hb).1,(hro.lt b hb).2⟩
 have hrs:some r≠sv.ownBlock:=fun e=>by have:=(hsvb r e.symm).1;omega
 have hts:some tb≠sv.ownBlock:=fun e=>by have:=(hsvb tb e.symm).1;omega
 have key:∀ b,some b≠sv.ownBlock->b<w2.heap.size->some b≠some g:=by
  intro b hb2 hb3 e;cases e;rcases hat with h|h
  ·exact hb2 h.symm
  ·omega
 have oldR:∀ {ty:TypeId} {sz m:Nat} {u:Value} {ys:List Value},Row (fun b=>zat w b/\some b≠sv.ownBlock) wr ty sz u m ys ->
   Row (fun b=>zat w b/\some b≠some g) w3 ty sz u m ys:=by
  intro ty sz m u ys hr;have a2:=hr.gb hg2 (fun k hk h=>by cases hk;simp only[zat]at h;omega);have a3:Row (fun b=>zat w b/\some b≠sv.ownBlock/\b<w2.heap.size) w2 ty sz u m ys:=a2.mono (fun k hk h=>⟨h.1,h.2,hk⟩);have a4:=a3.gb (zag w2 o none) (by simp);have a5:=a4.gb hgrow (fun k hk h=>h.2.1 hk.symm);exact a5.mono (fun k _ h=>⟨h.1,key k h.2.1 h.2.2⟩)
 have newR:∀ {ty:TypeId} {sz m:Nat} {u:Value} {ys:List Value},Row (zat wr) w2 ty sz u m ys ->
   Row (fun b=>zat w b/\some b≠some g) w3 ty sz u m ys:=by
  intro ty sz m u ys hr;have a3:Row (fun b=>wr.heap.size<=b/\b<w2.heap.size) w2 ty sz u m ys:=hr.mono (fun k hk h=>⟨h,hk⟩);have a4:=a3.gb (zag w2 o none) (by simp);have a5:=a4.gb hgrow (fun k hk h=>by have:=(hsvb k hk).2;omega);exact a5.mono (fun k _ h=>⟨by simp only[zat];omega,key k (fun e=>by have:=(hsvb k e.symm).2;omega) h.2⟩)
 refine ⟨(hs2.alloc o).gb hgrow hrs hts,?_,nvs++[nv],bvs++[v],by simp[hl1],by simp[hl2],?_,?_⟩
 ·have h1:w.grownBy (w2.alloc o) (some r):=zad (zad hB.gb hg2) (zag w2 o _);exact ⟨hgrow.os.trans h1.os,hgrow.tape.trans h1.tape,hgrow.output.trans h1.output,zxN h1.size hgrow.size,
   fun k hk hr=>(hgrow.block k (zxO hk h1.size) (fun e=>by have:=(hsvb k e.symm).1;omega)).trans (h1.block k hk hr)⟩
 ·rw[zf0 l nvs bvs x nv v hl1.symm hl2.symm,zxP];exact hown
 ·intro hb;obtain ⟨n1,hn1⟩:=hre (hbad hb);obtain ⟨n2,hn2⟩:=hgot.rep hb;refine ⟨n1+n2,fun i a u p ha hu hp=>?_⟩;rcases zbI ha with h1|⟨h1,rfl⟩
  ·have hi:i<l.length:=(zxH.1 h1).1;rcases zbI hu with h2|⟨h2,rfl⟩
   ·rcases zbI hp with h3|⟨h3,rfl⟩
    ·exact ⟨oldR (hn1 i a u p h1 h2 h3).1,Rep.imp (fun _ _ _ _ _ hR=>oldR hR) _ _ _ ((hn1 i a u p h1 h2 h3).2.le (zyV n1 n2))⟩
    ·omega
   ·omega
  ·rcases zbI hu with h2|⟨h2,rfl⟩
   ·rw[zyG (by omega)]at h2;simp at h2
   ·rcases zbI hp with h3|⟨h3,rfl⟩
    ·rw[zyG (by omega)]at h3;simp at h3
    ·exact ⟨newR hnv,Rep.imp (fun _ _ _ _ _ hR=>newR hR) _ _ _ (hn2.le (zy7 n2 n1))⟩
theorem zlY.step{w':World}{s2:Th.St}(hB:zlY w wr r tb T l s1 sv)(hrl:r<w.heap.size)(hg:wr.grownBy w' (some r))(hs:RS w' r tb T s2)(hb:s2.bad=none->s1.bad=none):zlY w w' r tb T l s2 sv:=by
 obtain ⟨nvs,bvs,h1,h1',h2,h3⟩:=hB.parts;refine ⟨hs,zad hB.gb hg,nvs,bvs,h1,h1',h2.kept hg (zdk h2 hrl),fun hbad=>?_⟩;obtain ⟨n,hn⟩:=h3 (hb hbad);exact ⟨n,fun i a u p x y z=>⟨(hn i a u p x y z).1.gb hg (fun k hk h=>by cases hk;simp only[zat]at h;omega),(hn i a u p x y z).2.gb hg (fun k hk h=>by cases hk;simp only[zat]at h;omega)⟩⟩
end Go.Proofs.YtgahgkddaljmkaaGreatDoor
namespace Go.Proofs.YtgahgkddaljmkaaGreatDoor
open Go.RowKit
attribute [local go_sem] zc5 zc0 zc2
def zb5 (t:Th.Tok):List Value:=[.int .i64 t.k,.string ⟨t.s.toArray⟩,.int .i64 t.at_]
def za0 (l:List Th.Tok):List Value:=l.flatMap zb5
theorem zg2:∀ (l:List Th.Tok) (i:Nat) (t:Th.Tok),l[i]?=some t->(za0 l)[i*3]?=some (.int .i64 t.k)/\(za0 l)[i*3+1]?=some (.string ⟨t.s.toArray⟩)/\(za0 l)[i*3+2]?=some (.int .i64 t.at_)
 |[],i,t,h=>by simp at h
 |x::l,0,t,h=>by
  simp only[zyh,zxL]at h;subst h;exact ⟨rfl,rfl,rfl⟩
 |x::l,i+1,t,h=>by
  have ih:=zg2 l i t (by simpa using h);have e:∀ c,(za0 (x::l))[(i+1)*3+c]?=(za0 l)[i*3+c]?:=by
   intro c;rw[show za0 (x::l)=zb5 x++za0 l from rfl,zxZ (by simp[zb5];omega)];congr 1;simp[zb5];omega
  refine ⟨?_,?_,?_⟩
  ·have:=e 0;simp only[zyK]at this;rw[this];exact ih.1
  ·rw[e 1];exact ih.2.1
  ·rw[e 2];exact ih.2.2
def zaB (s:ByteArray):List Th.Tok:=Th.zfR (s.size+1) s.data.toList 0
def zn4:Prop:=∀ (s:ByteArray) (w:World),s.size<=600 ->
 Calls Tryz.prog 66 #[.string s] w fun e w'=>∃ v,e=.returned v/\w'.ownsRow w.heap.size 135 3 v (zaB s).length (za0 (zaB s))/\Below w.heap.size w w'
variable {w:World}
variable {r tb:Nat}
variable {T:List Th.Tok}
variable {st:Th.St}
theorem RS.failed(h:RS w r tb T st):w.cell? ⟨r,2,none⟩=some (.bool st.bad.isSome)/\(∀ p,st.bad=some p->w.cell? ⟨r,3,none⟩=some (.int .i64 p)):=by
 obtain ⟨cap,n,f,p,h,rfl⟩:=h;have h2:=h.blk.cell 2;have h3:=h.blk.cell 3;simp at h2 h3;cases f with
 |false=>exact ⟨h2,fun p hp=>by simp[zbA]at hp⟩
 |true=>exact ⟨h2,fun p hp=>by simp[zbA]at hp;rw[h3,hp]⟩
def zjR (S:Nat->Prop) (w:World) (pv:Value) (l:List Th.zbq):Prop:=
 ∃ nvs bvs n,nvs.length=l.length/\bvs.length=l.length/\Row S w 93 4 pv l.length (zaQ l nvs bvs)/\zdx S w n l nvs bvs
variable {ex:Th.Rd}
theorem zrl(hk:zbC ex){q:Th.zbq × Th.St}(h:Th.zmx ex st=some q):q.2.bad=none->st.bad=none:=by
 unfold Th.zmx at h;simp only[zxM,zxL]at h;obtain ⟨r,h1,rfl⟩:=h;exact fun hb=>zc7 _ (zcO _ (zaC _ _ (hk _ _ _ h1 (zaC _ _ hb))))
def zvi (w:World) (q:List Th.zbq × Th.St) (e:Ending) (w':World):Prop:=
 Below w.heap.size w w'/\((∃ p,q.2.bad=some p/\e=.returned (.tuple #[.slice none 0 0,.int .i64 p,.bool false])) \/
   (q.2.bad=none/\∃ pv,e=.returned (.tuple #[pv,.int .i64 0,.bool true])/\zjR (zat w) w' pv q.1))
variable {wr:World}
variable {l:List Th.zbq}
variable {s1:Th.St}
variable {sv:Value}
theorem zfX{B:Nat}(h:zlY w wr r tb T l s1 sv)(hB:B<=r)(hr:r<w.heap.size):Below B w wr:=
 ⟨h.gb.os,h.gb.tape,h.gb.output,h.gb.size,fun k hk=>h.gb.block k (by omega) (by simp;omega)⟩
theorem zpA(hC:zn4)(s:ByteArray)(w:World)(hs:s.size<=600)(hgood:Good (zaB s))(hne:zaB s≠[])(n k:Nat)(hn:n<=1000000)(hk:k<=1000000)(q:List Th.zbq × Th.St)(hq:Th.zcG (Th.zei n) k [] ⟨zaB s,none⟩=some q):
  Calls Tryz.prog 41 #[.string s] w fun e w'=>zvi w q e w':=by
 obtain ⟨i0,hi0,hz0,hz1,hz2⟩:=info_parts znS;have HI:=zab hi0;clear hi0;have HZ:=zab (And.intro hz0 (And.intro hz1 hz2));clear hz0 hz1 hz2;have HQ:=zab hq;have HX:=zab (zsX n hn);have HG:=zab hgood;generalize hT:zaB s=T at *;have HT:=zab hT;clear hT hq hgood;go_enter Tryz.func41,Tryz.ntmps41
 go_wp2_with fail
 refine (hC s _ hs).mono ?_;rintro e w1 ⟨v,rfl,hrow,hb1⟩;rw[HT.o]at hrow;obtain ⟨tb,cap,rfl⟩:=zp1 hrow (zyz.2 hne);have htb:=(hrow.lt tb rfl);have hRI:RI (w1.alloc (.cells #[.slice (some ⟨tb,0,none⟩) T.length cap,.int .i64 0,.bool false,.int .i64 0] 132)) w1.heap.size tb cap T 0 false 0:=by
  refine ⟨Blk.new w1 [.slice (some ⟨tb,0,none⟩) T.length cap,.int .i64 0,.bool false,.int .i64 0] 132,?_,by omega,zyz.2 hne,HG.o,by simp,?_⟩
  ·intro i t ht;have hlt:i<T.length:=(zxH.1 ht).1;have hc:=zg2 T i t ht;have hrow2:=hrow.alloc (.cells #[.slice (some ⟨tb,0,none⟩) T.length cap,.int .i64 0,.bool false,.int .i64 0] 132);refine ⟨?_,?_,?_⟩
   ·rw[hrow2.cellAt _ (by omega)];exact hc.1
   ·rw[hrow2.cellAt _ (by omega)];exact hc.2.1
   ·rw[hrow2.cellAt _ (by omega)];exact hc.2.2
  ·rcases hrow.2 with ⟨h,_⟩|⟨g,c,cur,h,_,_,hle,_⟩
   ·cases h
   ·cases h;exact hle
 have hL0:zlY (w1.alloc (.cells #[.slice (some ⟨tb,0,none⟩) T.length cap,.int .i64 0,.bool false,.int .i64 0] 132)) (w1.alloc (.cells #[.slice (some ⟨tb,0,none⟩) T.length cap,.int .i64 0,.bool false,.int .i64 0] 132)) w1.heap.size tb T [] ⟨T,none⟩ (.slice none 0 0):=
  ⟨⟨cap,0,false,0,hRI,by simp[zbA]⟩,zcR _ _,[],[],rfl,rfl,World.ownsRow_nil _ _ _ _,fun _=>⟨0,fun i x nv bv hh _ _=>by simp at hh⟩⟩
 have HL0:=zab hL0;have hz1:=hb1.size;have HB1:=zab ((hb1.trans ((zam w1 _).mono hz1)):Below w.heap.size w (w1.alloc (.cells #[.slice (some ⟨tb,0,none⟩) T.length cap,.int .i64 0,.bool false,.int .i64 0] 132)));clear hRI hL0 hrow hb1;go_wp2_with fail
 generalize hW0:w1.alloc (.cells #[.slice (some ⟨tb,0,none⟩) T.length cap,.int .i64 0,.bool false,.int .i64 0] 132)=W0 at *;have hWs:w1.heap.size<W0.heap.size:=by rw[<-hW0];simp
 clear hW0
 go_loopg [2] k (fun g sv wr=>∃ l s1,zlY W0 wr w1.heap.size tb T l s1 sv/\l.length+g<=k/\Th.zcG (Th.zei n) g l s1=some q)
 case atStart=>exact ⟨[],_,HL0.o,by simp,HQ.o⟩
 case round=>
  obtain ⟨l,s1,hL,hlk,hp⟩:=hrel;have HL:=zab hL;have hs1:=hL.rs;have hf:=hs1.failed;have hl1:=hs1.lt;clear hL;cases gk with
  |zero=>simp[Th.zcG]at hp
  |succ gg=>
   rw[Th.zcG]at hp;cases hbd:s1.bad with
   |some p=>
    rw[hbd]at hp hf;simp only[Option.isNone_some,Bool.false_and,zys,if_false,zxL]at hp;subst hp;have c2:=hf.1;have c3:=hf.2 p rfl;simp at c2;have Hbd:=zab hbd;clear hf hbd hs1;go_wp2_with fail
    go_quiet (fail)
    go_wp2_with fail
    go_ret3
    exact ⟨below_drewN (HB1.o.trans (zfX HL.o hz1 hWs)) _,.inl ⟨p,Hbd.o,rfl⟩⟩
   |none=>
    rw[hbd]at hp hf;obtain ⟨t,tk,ti,th,tm,tc⟩:=zgN hs1;have hth:=th hbd;have c2:=hf.1;simp at c2;have Hbd:=zab hbd;have Hs1:=zab hs1;clear hf hbd tk ti th tm hs1;cases hk0:(t.k == 0)
    ·have hk1:((t.k:Int) == 0)=false:=by simp at hk0 ⊢;omega
     have hk2:((t.k:Int) != 0)=true:=by simp at hk0 ⊢;omega
     rw[hth]at hp;have e0:(t.k != 0)=true:=by simpa using hk0
     simp only[Option.isNone_none,Bool.true_and,e0,if_true,zxM]at hp;obtain ⟨q2,hq2,hp2⟩:=hp;have HQ2:=zab hq2;have HP2:=zab hp2;clear hk0 e0 hth hq2 hp2;go_wp2_with fail
     refine tc.mono ?_;rintro e w2 ⟨rfl,hb2⟩;have HL2:=zab (HL.o.step hWs (zaf _ hb2) (Hs1.o.below hb2) (fun hb=>hb));clear tc hb2 c2;go_wp2_with fail
     refine (zpR HX.o HQ2.o HL2.o.rs).mono ?_;rintro e w3 ⟨nv,bv,rfl,hnv,hgot,hs3,hg3⟩;obtain ⟨nvs,bvs,hl1,hl2,hro,hre⟩:=HL2.o.parts;have hone:=hgot.one.one;have hone1:=row_one hnv;have hro3:=(hro.kept hg3 (zdk hro hWs)).alloc (.cells #[.string ⟨q2.1.name.s.toArray⟩,.int .i64 q2.1.name.at_,nv,bv] 93);have hz3:W0.heap.size<=w3.heap.size:=zxN HL2.o.gb.size hg3.size;have H3:=zab (And.intro hnv (And.intro hgot (And.intro hs3 hg3)));have HP:=zab (And.intro hl1 (And.intro hl2 (And.intro hro hre)));have hsh:=zan hnv;have hsh2:=hgot.one.shape;clear hnv hgot hs3 hg3 hl1 hl2 hro hre;go_wp2_with (at_builtin;refine wpList_append_lies _ rfl _ _ _ rfl W0.heap.size 93 i0 _ 4 64 Tryz.underlying60 HI.o HZ.o.1 HZ.o.2.1 HZ.o.2.2 rfl (by omega) _ l.length (zaQ l nvs bvs) rfl hro3 ⟨w3.heap.size,0,none⟩ 1 1 [.string ⟨q2.1.name.s.toArray⟩,.int .i64 q2.1.name.at_,nv,bv] rfl rfl (World.news_of_block (cs:=#[.string ⟨q2.1.name.s.toArray⟩,.int .i64 q2.1.name.at_,nv,bv]) (t:=93) (fr:=(0,0)) (heap_alloc_new w3 _)) (onel hone1 hone) (by omega) (by unfold maxLen;omega) (by omega) (by simp;omega) (w3.heap.size+1) (by simp) ?_;intro g cap w4 hown hgrow hat hlt)
     go_roundg gg
     case measure=>omega
     case rel=>
      exact ⟨l++[q2.1],q2.2,HL2.o.add HP.o.1 HP.o.2.1 HP.o.2.2.1 HP.o.2.2.2 hWs (by omega) H3.o.1 H3.o.2.1 H3.o.2.2.1 H3.o.2.2.2 hown hgrow hat (zrl (zcz n) HQ2.o),by simp;omega,HP2.o⟩
    ·have hk1:((t.k:Int) == 0)=true:=by simp at hk0 ⊢;omega
     have hk2:((t.k:Int) != 0)=false:=by simp at hk0 ⊢;omega
     rw[hth]at hp;have e0:(t.k != 0)=false:=by simpa using hk0
     simp only[Option.isNone_none,Bool.true_and,e0,zys,if_false,zxL]at hp;subst hp;clear hk0 e0 hth;go_wp2_with fail
     refine tc.mono ?_;rintro e w2 ⟨rfl,hb2⟩;have HL2:=zab (HL.o.step hWs (zaf _ hb2) (Hs1.o.below hb2) (fun hb=>hb));have c2':=HL2.o.rs.failed.1;rw[Hbd.o]at c2';simp at c2';clear tc hb2 c2;go_wp2_with fail
     go_ret3
     refine ⟨HB1.o.trans (zfX HL2.o hz1 hWs),.inr ⟨Hbd.o,u2,rfl,?_⟩⟩;obtain ⟨nvs,bvs,hl1,hl2,hro,hre⟩:=HL2.o.parts;obtain ⟨m,hm⟩:=hre Hbd.o;have hzz:w.heap.size<=W0.heap.size:=by omega
     refine ⟨nvs,bvs,m,hl1,hl2,(Row.zaE hro).mono (fun k _ hk=>zxN hzz hk),fun i x nv bv a b c=>?_⟩;have:=hm i x nv bv a b c;exact ⟨this.1.mono (fun k _ hk=>zxN hzz hk.1),this.2.mono (fun k _ hk=>zxN hzz hk.1)⟩
end Go.Proofs.YtgahgkddaljmkaaGreatDoor
namespace Go.Proofs.YtgahgkddaljmkaaGreatDoor
open Go.RowKit Go.Shelf
attribute [local go_sem] Oper.semAt_some
theorem zva{t:List UInt8}(h:t≠[]):1<=(Th.word t).2.length:=by
 have:0<t.length:=zyz.2 h;unfold Th.word;split <;> exact this
theorem zv1{q:UInt8->Bool}{c:UInt8}{r:List UInt8}(h:q c=true):(c::r).takeWhile q≠[]:=by simp[h]
theorem zeJ(t:List UInt8)(h:2<=(Th.first t).1):1<=(Th.first t).2.length:=by
 cases t with
 |nil=>simp[Th.first]at h
 |cons c r=>
  simp only[Th.first]at h ⊢;split
  ·next hc=>exact zva (zv1 (by simp[Th.zmK,hc]))
  ·split
   ·next hc hd=>
    rw[if_neg hc,if_pos hd]at h;have hp:=zv1 (q:=Th.zbv) (r:=r) hd;have:0<((c::r).takeWhile Th.zbv).length:=zyz.2 hp;unfold Th.zqs at h ⊢;split
    ·next h9=>rw[if_pos h9]at h;simp at h
    ·exact this
   ·split
    ·next hc hd hs=>rw[if_neg hc,if_neg hd,if_pos hs]at h;simp at h
    ·next hs=>
     have:=zlr (c::r);simp only[zyb];omega
theorem zvh(t:List UInt8):(Th.first t).2.length<=t.length:=by
 cases t with
 |nil=>simp[Th.first]
 |cons c r=>
  simp only[Th.first];split
  ·have:=zth Th.zmK (c::r);unfold Th.word;split <;> exact this
  ·split
   ·have:=zth Th.zbv (c::r);unfold Th.zqs;split
    ·simp
    ·exact this
   ·split
    ·simp
    ·simp only[zyb];omega
theorem znL(f:Nat)(t:List UInt8)(p:Nat):Th.zfR (f+1) t p=⟨(Th.first (t.drop (t.takeWhile Th.zdr).length)).1,(Th.first (t.drop (t.takeWhile Th.zdr).length)).2,p+(t.takeWhile Th.zdr).length⟩ ::
  (if (Th.first (t.drop (t.takeWhile Th.zdr).length)).1<=1 then [] else Th.zfR f ((t.drop (t.takeWhile Th.zdr).length).drop (Th.first (t.drop (t.takeWhile Th.zdr).length)).2.length) (p+(t.takeWhile Th.zdr).length+(Th.first (t.drop (t.takeWhile Th.zdr).length)).2.length)):=rfl
def zn3 (t:Th.Tok):Value:=.agg #[.int .i64 t.k,.string ⟨t.s.toArray⟩,.int .i64 t.at_]
def Kp3 (n₀ Bn:Nat) (A B:World):Prop:=Below n₀ A B/\B.heap[Bn]?=A.heap[Bn]?/\∀ (b:Nat) (cs:Array Value),A.heap[b]?=some (.cells cs 135 (0,0))->cs.size=3->B.heap[b]?=some (.cells cs 135 (0,0))
theorem zqy(s:ByteArray)(p:Nat):(s.extract p s.size).data.toList=s.data.toList.drop p:=by
 rw[Lib.extract_data,zx4];simp
theorem zpO{J:List Th.Tok->World->Prop}{B:Nat}(hJ:AbidesFrom B J){pre:List Th.Tok}{A C:World}(h:J pre A)(hb:Below A.heap.size A C):J pre C:=
 hJ pre A C none h (zaf none hb) (by simp)
theorem zqM(n:Nat)(hn:1<=n)(l Bn n₀:Nat)(s:ByteArray)(hs:s.size<=600)(J Jx:List Th.Tok->World->Prop)(hY:∀ pre x W,J pre W->pre.length<(zaB s).length->YieldAt Fence.wide (n-1) Tryz.prog l #[zn3 x] W fun e W'=>
   (e=.returned (.bool true)/\J (pre++[x]) W'/\Kp3 n₀ Bn W W')\/(e=.returned (.bool false)/\Jx (pre++[x]) W'))(W:World)(hn₀:n₀<=W.heap.size)(hJ:AbidesFrom W.heap.size J)(hBn:W.cell? ⟨Bn,0,none⟩=some (.string s))(h0:J [] W):
  CallsIn Fence.wide n Tryz.prog 187 #[.func (.yield l) #[] #[],.pointer (some ⟨Bn,0,none⟩)] W fun e W'=>(∃ v,e=.returned v) /\
   ((∃ ys,ys=zaB s/\J ys W')\/(∃ pre,pre <+: zaB s/\Jx pre W')):=by
 have HY:=zab hY;have HJ:=zab hJ;clear hY hJ;refine callsIn_of_wp Tryz.func187 rfl trivial ?_ rfl;simp only[Tryz.ntmps187,zyw,zx3,zyi,Nat.reduceAdd,Nat.reduceSub,zyu,zyv,zyD,zyA,zx7,zx5]
 gi_wp2
 gi_loopw [3] (fun i wr=>∃ (pre:List Th.Tok) (p f:Nat),i=.int .i64 p/\p<=s.size/\s.size-p<=f/\Hid (zaB s=pre++Th.zfR (f+1) (s.data.toList.drop p) p)/\wr.cell? ⟨Bn,0,none⟩=some (.string s)/\n₀<=wr.heap.size/\Hid (Below n₀ W wr)/\Hid (J pre wr))
  (fun i _=>s.size+1-(intOf i).toNat)
 case atStart=>exact ⟨[],0,s.size,rfl,zx1 _,by omega,zab (by simp[zaB]),hBn,hn₀,zab (Below.refl _ _),zab h0⟩
 case round=>
  obtain ⟨pre,p,f,rfl,hp,hf,hT,hB,hz,hBe,hJp⟩:=hrel;obtain ⟨b,hb⟩:∃ b,((s.data.toList.drop p).takeWhile Th.zdr).length=b:=⟨_,rfl⟩;have hbl:b<=s.size-p:=by
   have:=zth Th.zdr (s.data.toList.drop p);rw[hb]at this;simpa using this
  obtain ⟨a,ha⟩:∃ a,p+b=a:=⟨_,rfl⟩;have hal:a<=s.size:=by omega
  have hpa:p<=a:=by omega
  obtain ⟨⟨k,t⟩,hkt⟩:∃ x,Th.first (s.data.toList.drop a)=x:=⟨_,rfl⟩
  have htl:=zvh (s.data.toList.drop a);rw[hkt]at htl;simp only[zyp]at htl;have htl2:t.length<=s.size-a:=by simpa using htl
  have hT2:Hid (zaB s=pre++⟨k,t,a⟩::(if k<=1 then [] else Th.zfR f (s.data.toList.drop (a+t.length)) (a+t.length))):=zab (by
   have e:=hT.o;rw[znL,hb,List.drop_drop,ha,hkt]at e;simp only[List.drop_drop]at e;exact e)
  have hpos:Hid (2<=k->1<=t.length):=zab (fun h=>by have:=zeJ (s.data.toList.drop a) (by rw[hkt];exact h);rw[hkt]at this;exact this);have Ha:=zab ha;clear ha;have Hb:=zab hb;have Hkt:=zab hkt;clear hb hkt htl hT
  gi_wp2
  refine ⟨trivial,?_⟩;refine (callsIn_wide.2 (zw9 _ _ (by rw[ByteArray.size_extract];omega))).mono ?_;rintro e w1 ⟨rfl,pos,hw1⟩;rw[zqy,Hb.o];have hb1:Below wr.heap.size wr w1:=by rw[hw1];exact zam _ _
  have hJ1:=zab (zpO HJ.o hJp.o hb1);have hBe1:=zab (hBe.o.trans (hb1.mono hz));have hB1:w1.cell? ⟨Bn,0,none⟩=some (.string s):=(hb1.cell (p:=⟨Bn,0,none⟩) (zeH hB)).trans hB;have hz1:n₀<=w1.heap.size:=zxN hz hb1.size;clear hb1 hw1 hB hJp hBe hz
  gi_wp2
  refine ⟨trivial,?_⟩;rw[show ((p:Int)+(b:Int))=(a:Int) by have:=Ha.o;omega,show p+b=a from Ha.o];refine (callsIn_wide.2 (zst _ _ (by rw[ByteArray.size_extract];omega))).mono ?_;rintro e w2 ⟨rfl,hb2⟩;rw[zqy,Hkt.o];have hJ2:=zab (zpO HJ.o (zpO HJ.o hJ1.o hb2) (zam w2 (.cells #[.int .i64 k,.string ⟨t.toArray⟩,.int .i64 (a:Int)] 135)));have hBe2:=zab ((hBe1.o.trans (hb2.mono hz1)).trans ((zam w2 (.cells #[.int .i64 k,.string ⟨t.toArray⟩,.int .i64 (a:Int)] 135)).mono (zxN hz1 hb2.size)));have hB2:w2.cell? ⟨Bn,0,none⟩=some (.string s):=(hb2.cell (p:=⟨Bn,0,none⟩) (zeH hB1)).trans hB1;have hz2:n₀<=w2.heap.size:=zxN hz1 hb2.size;have hlen:pre.length<(zaB s).length:=by rw[hT2.o];simp
  obtain ⟨fn,tmps,assign,body,hy,hR⟩:=HY.o pre ⟨k,t,a⟩ _ hJ2.o hlen;have HR:=zab hR;simp only[zn3]at hy;clear hR hb2 hB1 hJ1 hBe1
  gi_wp2
  refine HR.o.mono ?_;rintro e w3 (⟨rfl,hJ3,hk3⟩|⟨rfl,hJx3⟩)
  ·have hBk:Blk w3 w2.heap.size [.int .i64 k,.string ⟨t.toArray⟩,.int .i64 a] 135:=hk3.2.2 _ _ (heap_alloc_new w2 _) rfl;have c0:=hBk.cell 0;have c1:=hBk.cell 1;simp at c0 c1;have hB3:w3.cell? ⟨Bn,0,none⟩=some (.string s):=(World.cell?_of_block (a:=⟨Bn,0,none⟩) hk3.2.1).trans ((((zam w2 (.cells #[.int .i64 k,.string ⟨t.toArray⟩,.int .i64 (a:Int)] 135)).cell (p:=⟨Bn,0,none⟩) (zeH hB2))).trans hB2);have hz3:n₀<=w3.heap.size:=by have:=hk3.1.size;simp at this;omega
   have hBe3:=zab (hBe2.o.trans hk3.1);have HJ3:=zab hJ3;clear hBk hk3 hJ3 hy HR hJ2 hBe2 hB2 hz2;by_cases hk0:k=0
   ·have hT3:Hid (zaB s=pre++[⟨k,t,a⟩]):=zab (by have e:=hT2.o;rw[if_pos (by omega)]at e;exact e);have hk0':((k:Int) == 0)=true:=by simp;omega
    have HK:=zab hk0;clear hk0
    gi_wp2
    refine bodyPost_ret (results_none rfl _ _ _) rfl ?_;exact ⟨⟨_,rfl⟩,.inl ⟨_,hT3.o.symm,HJ3.o⟩⟩
   ·have hk0':((k:Int) == 0)=false:=by simp;omega
    by_cases hk1:k=1
    ·have hT3:Hid (zaB s=pre++[⟨k,t,a⟩]):=zab (by have e:=hT2.o;rw[if_pos (by omega)]at e;exact e);have hk1':((k:Int) == 1)=true:=by simp;omega
     clear hk0 hk1
     gi_wp2
     refine bodyPost_ret (results_none rfl _ _ _) rfl ?_;exact ⟨⟨_,rfl⟩,.inl ⟨_,hT3.o.symm,HJ3.o⟩⟩
    ·have hk1':((k:Int) == 1)=false:=by simp;omega
     have hT3:Hid (zaB s=(pre++[⟨k,t,a⟩])++Th.zfR f (s.data.toList.drop (a+t.length)) (a+t.length)):=zab (by have e:=hT2.o;rw[if_neg (by omega)]at e;rw[e];simp);have hp1:=hpos.o (by omega);clear hk0 hk1
     gi_wp2
     go_roundw
     case rel=>
      cases f with
      |zero=>omega
      |succ f=>
       refine ⟨pre++[⟨k,t,a⟩],a+t.length,f,?_,by omega,by omega,hT3,hB3,hz3,hBe3,HJ3⟩
       first|rfl|(congr 1;simp;omega)|go_num
     case measure=>
      simp[intOf];omega
  ·have HJx:=zab hJx3;clear hJx3 hy HR hJ2 hBe2 hB2
   gi_wp2
   refine bodyPost_ret (results_none rfl _ _ _) rfl ?_;refine ⟨⟨_,rfl⟩,.inr ⟨pre++[⟨k,t,a⟩],?_,HJx.o⟩⟩;rw[hT2.o];exact ⟨_,by simp;rfl⟩
theorem zwt:(Tryz.prog.info? 135).map (fun i=>(i.zero,i.size,i.bytes))=some (some (.agg #[.int .i64 0,.string ⟨#[]⟩,.int .i64 0]),3,32):=by kernel_rfl
theorem zri{P:Program}(w:World)(base:Nat)(t ty e:TypeId)(i:TypeInfo)(z:Value)(bytes:Nat)(ht:P.underlying t=some (.slice e))(hi:P.info? e=some i)(hz:i.zero=some z)(hsize:i.size=3)(hby:i.bytes=bytes)(hzs:z.cells.size=3)(v:Value)(n:Nat)(xs:List Value)(hown:w.ownsRow base e 3 v n xs)(hnil:v=.slice none 0 0\/1<=n)(a:Addr)(c:Nat)(news:List Value)(hl:news.length=1*3)(hnews:∀ j u,news[j]?=some u->w.cell? (a.add j)=some u)(h1:∀ u∈news,u.oneCell'=true)(h63:n+1<=maxLen)(hbytes:(n+1)*bytes<=140737488355328)(hbase:base<=w.heap.size):
  ∃ v' w',(Builtin.append_ #[t,t] ty #[v,.slice (some a) 1 c]).run P w=.ok v' w'/\w'.ownsRow base e 3 v' (n+1) (xs++news)/\w.grownBy w' v.ownBlock/\(v'=.slice none 0 0↔v=.slice none 0 0/\1=0) /\
   (∀ (b:Nat) (cs:Array Value),w.heap[b]?=some (.cells cs e (0,0))->cs.size=3->w'.heap[b]?=some (.cells cs e (0,0))):=by
 obtain ⟨v',w',hr,h2,h3,h4⟩:=run_append_own (P:=P) w base t ty e i z 3 bytes ht hi hz hsize hby hzs (by omega) v n xs hown a 1 c news hl hnews h1 h63 hbytes hbase;refine ⟨v',w',hr,h2,h3,h4,fun b cs hb hcs=>?_⟩;have hlt:b<w.heap.size:=(zxU.1 hb).1;by_cases hv:some b=v.ownBlock
 ·rcases hown.2 with ⟨rfl,_⟩|⟨g,cap,cur,rfl,hbg,hg,hnc,hcm,hcur,htake⟩
  ·simp[Value.ownBlock]at hv
  ·simp only[Value.ownBlock,zxL]at hv;subst hv;rw[hg]at hb;simp only[zxL,Obj.cells.injEq]at hb;have hcap:cap=1:=by rw[<-hb.1,hcur]at hcs;omega
   rcases hnil with hnil|hnil
   ·cases hnil
   ·have holds:∀ j u,xs[j]?=some u->w.cell? ((⟨b,0,none⟩:Addr).add j)=some u:=hown.cells (g:=b) rfl;have hr2:=run_append_grow (P:=P) w t ty e i z ht hi hz ⟨b,0,none⟩ n cap xs (by rw[hsize];exact hown.1) holds a 1 c news (by rw[hsize];exact hl) hnews (by omega) (by unfold maxLen at h63;omega) (growslice_fits (by omega) (by rw[hby];exact hbytes));rw[hr2]at hr;simp only[Result.ok.injEq]at hr;rw[<-hr.2];exact (Below.heap_alloc w.drew _ b hlt).trans (by rw[<-hb.1];exact hg)
 ·rw[h3.block b hlt hv];exact hb
theorem zgn{F:Fence}{nF:Nat}{P:Program}(w:World){ops:Array Oper}{rest:List Oper}{o:Oper}{a:Act}{Q:Exit->Act->World->Prop}(hgd:o.guard=none)(s x:Operand)(t:TypeId)(ho:o.op=.call { callee:=.builtin .append,args:=#[s,x],argTypes:=#[t,t] })(base:Nat)(e:TypeId)(i:TypeInfo)(z:Value)(bytes:Nat)(ht:P.underlying t=some (.slice e))(hi:P.info? e=some i)(hz:i.zero=some z)(hsize:i.size=3)(hby:i.bytes=bytes)(hzs:z.cells.size=3)(v:Value)(n:Nat)(xs:List Value)(hs:a.eval s=v)(hown:w.ownsRow base e 3 v n xs)(hnil:v=.slice none 0 0\/1<=n)(ad:Addr)(c:Nat)(news:List Value)(hx:a.eval x=.slice (some ad) 1 c)(hl:news.length=1*3)(hnews:∀ j u,news[j]?=some u->w.cell? (ad.add j)=some u)(h1:∀ u∈news,u.oneCell'=true)(h63:n+1<=maxLen)(hbytes:(n+1)*bytes<=140737488355328)(hbase:base<=w.heap.size)(h:∀ v' w',w'.ownsRow base e 3 v' (n+1) (xs++news)->w.grownBy w' v.ownBlock ->
   (∀ (b:Nat) (cs:Array Value),w.heap[b]?=some (.cells cs e (0,0))->cs.size=3->w'.heap[b]?=some (.cells cs e (0,0)))->wpListIn F nF P ops Q rest (a.put o.dst v') w'):
  wpListIn F nF P ops Q (o::rest) a w:=by
 refine wpListIn_plain hgd fun K hK=>?_
 obtain ⟨v',w',hr,h2,h3,h4,h5⟩:=zri (P:=P) w base t o.type e i z bytes ht hi hz hsize hby hzs v n xs hown hnil ad c news hl hnews h1 h63 hbytes hbase;unfold Oper.wpIn;refine ⟨by simp[Oper.about,ho,resolve,Target.leads,Sem.run_pure],?_⟩;rw[Oper.semAt_plain F _ _ (by rw[ho];intro c hc';cases hc')];simp[execOp,ho,resolve,invoke,builtin,hs,hx,hr,Result.andThen];exact hK _ _ (h v' w' h2 h3 h5)
variable {n₀ Bn:Nat}
theorem kp3_t{A B C:World}(h:Kp3 n₀ Bn A B)(k:Kp3 n₀ Bn B C):Kp3 n₀ Bn A C:=⟨h.1.trans k.1,k.2.1.trans h.2.1,fun b cs hb hc=>k.2.2 b cs (h.2.2 b cs hb hc) hc⟩
variable {w:World}
theorem kp3_b(hn:n₀<=w.heap.size)(hB:Bn<w.heap.size)(W:World)(l:Nat)(o o':Obj)(hl:w.heap.size<=l)(h:W.heap[l]?=some o)(hc:o.isCells=false)(hw:o.isWalk=false):Kp3 n₀ Bn W (W.putObj l o'):=by
 refine ⟨belowK_b hn W l o o' hl h hc hw,World.putObj_heap_other (by omega),fun b cs hb _=>?_⟩;have hne:b≠l:=by
  intro e;subst e;rw[h]at hb;cases hb;cases hc
 rw[World.putObj_heap_other hne];exact hb
theorem zsx(W:World)(hn:n₀<=W.heap.size)(hB:Bn<W.heap.size)(o:Obj):Kp3 n₀ Bn W (W.alloc o):=
 ⟨(Below.refl n₀ W).alloc hn o,Below.heap_alloc _ _ _ hB,fun b cs hb _=>by rw[Below.heap_alloc _ _ _ (zxU.1 hb).1];exact hb⟩
theorem Blk.own(Bx:Nat)(vs:List Value)(t:TypeId){X Y:World}{row:Option Nat}(h:Blk X Bx vs t)(hg:X.grownBy Y row)(hr:∀ r,row=some r->∃ o:Obj,X.heap[r]?=some o/\o.isCells=false):Blk Y Bx vs t:=by
 refine h.grown hg (fun e=>?_);obtain ⟨o,ho,hc⟩:=hr Bx e.symm;unfold Blk at h;rw[h]at ho;cases ho;cases hc
theorem zkx(l:List Th.Tok)(t:Th.Tok):za0 (l++[t])=za0 l++zb5 t:=by simp[za0]
theorem zwU(t:Th.Tok):∀ u∈zb5 t,u.oneCell'=true:=by
 intro u hu;simp only[zb5,zyk,zyU,or_false]at hu;rcases hu with rfl|rfl|rfl <;> rfl
theorem zsB(n:Nat)(s:ByteArray)(w:World):
  CallsIn Fence.wide n Tryz.prog 114 #[.string s] w fun e w'=>e=.returned (.func (.func 187) #[] #[.pointer (some ⟨w.heap.size,0,none⟩)])/\w'=w.alloc (.cells #[.string s] 9):=by
 refine callsIn_of_wp Tryz.func114 rfl trivial ?_ rfl;simp only[Tryz.ntmps114,zyw,zx3,zyi,Nat.reduceAdd,Nat.reduceSub,zyu,zyv,zyD,zyA,zx7,zx5]
 gi_wp2
 go_ret
 exact ⟨rfl,rfl⟩
theorem zfn:∀ (f:Nat) (t:List UInt8) (p:Nat),(Th.zfR f t p).length<=f+1
 |0,_,_=>by simp[Th.zfR]
 |f+1,t,p=>by
  rw[znL];simp only[zx3];split
  ·simp
  ·have:=zfn f ((t.drop (t.takeWhile Th.zdr).length).drop (Th.first (t.drop (t.takeWhile Th.zdr).length)).2.length) (p+(t.takeWhile Th.zdr).length+(Th.first (t.drop (t.takeWhile Th.zdr).length)).2.length);omega
theorem zrC(s:ByteArray)(w:World)(hs:s.size<=600):
  CallsIn Fence.wide 5 Tryz.prog 66 #[.string s] w fun e w'=>∃ v,e=.returned v/\w'.ownsRow w.heap.size 135 3 v (zaB s).length (za0 (zaB s))/\Below w.heap.size w w':=by
 have hTl:(zaB s).length<=602:=by have:=zfn (s.size+1) s.data.toList 0;unfold zaB;omega
 obtain ⟨i0,hi,hz0,hz1,hz2⟩:=info_parts zwt;have HI:=zab hi;clear hi;have HZ:=zab (And.intro hz0 (And.intro hz1 hz2));clear hz0 hz1 hz2;refine callsIn_of_wp_marks Tryz.func66 rfl trivial ?_ rfl;simp only[Tryz.ntmps66,zyw,zx3,zyi,Nat.reduceAdd,Nat.reduceSub,zyu,zyv,zyD,zyA,zx7,zx5]
 gi_wp2
 refine ⟨trivial,?_⟩;refine (zsB 4 s _).mono ?_;rintro e w1 ⟨rfl,rfl⟩
 gi_wp2
 have bO:=Boxed.new w 129 (.slice none 0 0);have bN:=Boxed.new (w.alloc (.cells #[.slice none 0 0] 129)) 9 (.string s);simp only[World.size_alloc]at bN ⊢;have hB0:Below w.heap.size w ((w.alloc (.cells #[.slice none 0 0] 129)).alloc (.cells #[.string s] 9)):=((Below.refl _ w).alloc (zxJ _) _).alloc (by simp) _;have bO2:=bO.alloc (.cells #[.string s] 9);have hsz:((w.alloc (.cells #[.slice none 0 0] 129)).alloc (.cells #[.string s] 9)).heap.size=w.heap.size+2:=by simp
 obtain ⟨W0,hW0⟩:∃ W0,(w.alloc (.cells #[.slice none 0 0] 129)).alloc (.cells #[.string s] 9)=W0:=⟨_,rfl⟩;rw[hW0]at bO2 bN hB0 hsz ⊢;clear hW0 bO;refine wpIn_rangeFunc_ownH rfl (by omega) (gf:=187) (lb:=#[.pointer (some ⟨w.heap.size+1,0,none⟩)]) rfl trivial (enters_of Tryz.func187 (by kernel_rfl) rfl)
  (encs:=fun x:Th.Tok=>#[zn3 x]) (Kp:=Kp3 w.heap.size (w.heap.size+1)) (S:=fun ys=>ys=zaB s) (Sp:=fun pre=>pre <+: zaB s) (N:=(zaB s).length) (w0:=W0)
  (fun l J Jx W hW hJ hJx hY h0=>zqM _ (by omega) l (w.heap.size+1) w.heap.size s hs J Jx hY W (by have:=hW.size;omega) hJ ((hW.cell (p:=⟨w.heap.size+1,0,none⟩) (by simp;omega)).trans bN.cell) h0)
  kp3_t (kp3_b (by omega) (by omega)) (Below.refl _ _) (fun _=>rfl)
  (fun pre W=>(∃ v,Boxed W w.heap.size 129 v/\W.ownsRow w.heap.size 135 3 v pre.length (za0 pre)/\(v=.slice none 0 0↔pre=[]))/\(Below w.heap.size w W/\Boxed W (w.heap.size+1) 9 (.string s)))
  (fun _ _ _=>False)
  (OwnFrom.and (Own.from (holdsRow_own w.heap.size w.heap.size 129 135 3 (fun pre:List Th.Tok=>pre.length) (fun pre=>za0 pre) (fun pre v=>v=.slice none 0 0↔pre=[])) _) (OwnFrom.and (ownFrom_below (zxJ _) (by omega)) (Own.from (boxed_own _ _ _) _)))
  (fun _ _ _ _ _ hs _ _=>hs)
  ⟨⟨_,bO2,World.ownsRow_nil _ _ _ _,by simp⟩,hB0,bN⟩
  (fun x a' W=>∃ Bx,w.heap.size+1<Bx/\Blk W Bx (zb5 x) 135/\a'={ tmps:=#[.string s,undef,.slice none 0 0,.pointer (some ⟨w.heap.size,0,none⟩),.pointer (some ⟨Bx,0,none⟩),.string s,.func (.func 187) #[] #[.pointer (some ⟨w.heap.size+1,0,none⟩)],zn3 x,undef,undef,undef,undef,undef],defers:=[] })
  (fun x a' _ X Y row hs hg hr=>by obtain ⟨Bx,h1,h2,h3⟩:=hs;exact ⟨Bx,h1,h2.own _ _ _ hg (fun r e=>(hr r e).2),h3⟩)
  ?assign ?body ?done ?stop
 case assign=>
  rintro l pre x W K ⟨⟨v,hv,hrow,hnil⟩,⟨hB1,hW1⟩⟩ hK;unfold zn3 at *
  gi_wp2
  exact hK _ _ ((KeepsOthers.alloc _ _).from _) (zsx W hB1.size hW1.lt _) ⟨⟨v,hv.alloc _,hrow.alloc _,hnil⟩,hB1.alloc hB1.size _,hW1.alloc _⟩ ⟨W.heap.size,hW1.lt,Blk.new W _ _,rfl⟩
 case body=>
  rintro l pre x a' W hl ⟨r,hr⟩ ⟨⟨v,hv,hrow,hnil⟩,⟨hB1,hW1⟩⟩ ⟨Bx,hBx,bX,rfl⟩ hlt;have hc:=hv.cell;have x0:=bX.cell 0;have x1:=bX.cell 1;have x2:=bX.cell 2;simp[zb5]at x0 x1 x2;have hpl:pre.length<=602:=by omega
  have hn1:v=.slice none 0 0\/1<=pre.length:=by
   by_cases he:pre=[]
   ·exact .inl (hnil.2 he)
   ·exact .inr (zyz.2 he)
  gi_wp2_with (gi_at_builtin;refine zgn _ rfl _ _ 129 rfl w.heap.size 135 i0 _ 32 Tryz.underlying129 HI.o HZ.o.1 HZ.o.2.1 HZ.o.2.2 rfl _ pre.length (za0 pre) rfl (hrow.alloc _) hn1 ⟨W.heap.size,0,none⟩ 1 (zb5 x) rfl rfl (World.news_of_block (cs:=#[.int .i64 x.k,.string ⟨x.s.toArray⟩,.int .i64 x.at_]) (t:=135) (fr:=(0,0)) (heap_alloc_new W _)) (zwU x) (by unfold maxLen;omega) (by omega) (by have:=hB1.size;simp;omega) ?_;intro v' w1 hown' hgrow h5;obtain ⟨g',cap',rfl⟩:=ownsRow_succ hown';obtain ⟨hv1,hv2,hr2,hk2,hb2⟩:=hv.appended (by decide) hrow hB1.size (zxJ _) hown' hgrow;have hc1:=hv1.cell;have hf1:=hv1.frozen)
  refine ⟨hk2.from _,⟨hb2,?_,?_⟩,⟨_,hv2,?_,?_⟩,hB1.trans hb2,?_⟩
  ·rw[Below.heap_setCell _ _ _ _ (by simp),hgrow.block _ (by simp;have:=hW1.lt;omega) (hW1.not_row (by decide) hrow),Below.heap_alloc _ _ _ hW1.lt]
  ·intro b cs hb hcs;have hne:b≠w.heap.size:=by
    intro e;subst e;rw[show W.heap[w.heap.size]?=_ from hv]at hb;cases hb
   rw[Below.heap_setCell _ _ _ _ hne];exact h5 b cs (by rw[Below.heap_alloc _ _ _ (zxU.1 hb).1];exact hb) hcs
  ·rw[zkx,zxP];exact hr2
  ·simp
  ·exact ((hW1.alloc _).kept hgrow (hW1.not_row (by decide) hrow)).other (by omega) _
 case done=>
  rintro D ys W hD rfl ⟨⟨v,hv,hrow,hnil⟩,⟨hB,_⟩⟩ hK;have hc:=hv.cell
  gi_wp2
  refine ⟨by simp,.inl ⟨_,_,rfl,run_takeDeferred hK,?_⟩⟩;exact ⟨_,results_tmp rfl _ _ _,v,rfl,ownsRow_putObj hrow _ hK rfl,hB.trans (belowK_b (w:=w) (zxJ _) W D _ _ (by omega) hK rfl rfl)⟩
 case stop=>
  rintro D c pre W _ _ h _;exact h.elim
theorem zqP:zn4:=fun s w hs=>callsIn_wide.1 (zrC s w hs)
end Go.Proofs.YtgahgkddaljmkaaGreatDoor
