/- SmA .. Lp1 -/
import Derived.Test.YtgahgkddaljmkaaGreatDoorQ18
set_option maxRecDepth 100000
set_option maxHeartbeats 4000000
namespace Go.Proofs.YtgahgkddaljmkaaGreatDoor
open Tryz
open Go.RowKit
attribute [local go_sem ↓] Go.wp_at_zero Go.wp_at_succ
def zB9 (w:World) (sb:Nat) (a:Option Addr) (len cap:Nat) (g:Nat->Int) (i left:Nat):Prop:=
 Blk w sb [.slice a len cap,.int .i64 i,.int .i64 left] 29/\∀ j,j<len->∃ A:Addr,a=some A/\A.block≠sb/\w.cell? (A.add j)=some (.int .i64 (g j))
def zB5 (g:Nat->Int) (len i:Nat) (n:Int):Int:=if i<len then zmD (g i) n else 0
def zBZ (len i:Nat):Nat:=if i<len then i+1 else i
theorem zCt{w:World}{sb len cap i left:Nat}{a:Option Addr}{g:Nat->Int}{n:Int}(h:zB9 w sb a len cap g i left)(hg:∀ j,-9223372036854775808<=g j/\g j<=9223372036854775807)(hlen:len<=9223372036854775807)(hi:i<=len)(hn:0<n)(eY:n<=1000):
  Calls prog 32 #[.pointer (some ⟨sb,0,none⟩),.int .i64 n] w fun e w'=>e=.returned (.int .i64 (zB5 g len i n))/\Fr (fun b=>b=sb) w w'/\Blk w' sb [.slice a len cap,.int .i64 (zBZ len i),.int .i64 left] 29:=by
 obtain ⟨hb,hc⟩:=h;have c0:=hb.cell 0;have c1:=hb.cell 1;simp at c0 c1;have z1:=hb.frozen 1;by_cases aj:i<len
 ·obtain ⟨A,rfl,aH,cA⟩:=hc i aj;have PK:=zab (zfB (hg i).1 (hg i).2 (n:=n) hn (by omega));have Iw:(⟨sb,1,none⟩:Addr).block≠(A.add i).block:=by
   unfold Addr.add;split
   ·exact fun e=>aH e.symm
   ·exact fun e=>aH e.symm
  rw[zB5,if_pos aj,zBZ,if_pos aj];have HB:=zab hb;have HC:=zab cA;have HF:=zab Iw;clear hc hg Iw hb cA;go_enter func32,ntmps32
  go_wp2_with fail
  go_quiet (fail)
  have b2:=Blk.set (w:=w.drewN nq) HB.o 1 (.int .i64 ((i:Int)+1));simp only[zyW,zyZ]at b2;have d0:=b2.cell 0;have d1:=b2.cell 1;simp at d0 d1;have dA:((w.drewN nq).setCell ⟨sb,1,none⟩ (.int .i64 ((i:Int)+1))).cell? (A.add i)=some (.int .i64 (g i)):=(World.cell?_setCell_far _ _ _ _ HF.o).trans HC.o;have B2:=zab b2;clear b2;go_wp2_with fail
  go_quiet ((go_at_call 23;exact Calls.quiet_of_same (PK.o _)))
  go_wp2_with fail
  go_ret
  exact ⟨rfl,(((Fr.refl (fun b=>b=sb) w).drewN _).set ⟨sb,1,none⟩ _ (.inl rfl)).drewN _,B2.o⟩
 ·rw[zB5,if_neg aj,zBZ,if_neg aj];have HB:=zab hb;clear hc hg hb;go_enter func32,ntmps32
  go_wp2_with fail
  go_quiet (fail)
  go_wp2_with fail
  go_ret
  exact ⟨rfl,(Fr.refl _ _).drewN _,HB.o⟩
end Go.Proofs.YtgahgkddaljmkaaGreatDoor
namespace Go.Proofs.YtgahgkddaljmkaaGreatDoor
open Tryz
namespace Ab
def tot (A:Ma):Nat:=(A.h.map sz).sum+A.st.length
def inW (n:Nat):Wd->Bool
 |.ad a=>decide (a<n)
 |.mk _ _=>true
def inN (n:Nat):Nd->Bool
 |.fwd b=>decide (b<n)
 |nd=>(zdd nd).all fun f=>decide (f<n)
def shut (A:Ma):Bool:=A.st.all (inW A.h.length) && A.fns.all (fun a=>decide (a<A.h.length)) && A.h.all (inN A.h.length)
variable {A:Ma}
theorem zBp(hs:shut A=true){a:Nat}(ha:a<A.h.length):can A.h a<A.h.length:=by
 simp only[shut,zzv,List.all_eq_true]at hs;cases hn:A.h[a]? with
 |none=>simp[can,hn];exact ha
 |some nd=>
  cases nd with
  |fwd b=>
   rw[zgl hn];have:=hs.2 _ (zy1 hn);simpa [inN] using this
  |_=>rw[zdc hn rfl];exact ha
theorem zBy(hs:shut A=true){c:Nat}(h:Reach A.h A.st A.fns c):c<A.h.length:=by
 have Il:=hs;simp only[shut,zzv,List.all_eq_true]at Il
 induction h with
 |stk hi=>exact zBp hs (by have:=Il.1.1 _ (zy1 hi);simpa [inW] using this)
 |fn ha=>exact zBp hs (by simpa using Il.1.2 _ ha)
 |@fld c n f _ hn hf ih=>
  refine zBp hs ?_;have:=Il.2 _ (zy1 hn);cases n with
  |data t fs=>simp only[inN,List.all_eq_true]at this;simpa using this f hf
  |clo t fs=>simp only[inN,List.all_eq_true]at this;simpa using this f hf
  |_=>simp[zdd]at hf
theorem zBu(f:Nat->Nat):∀ (C L:List Nat),C.Nodup->(∀ c∈C,c∈L)->(C.map f).sum<=(L.map f).sum
 |[],_,_,_=>zy5 _
 |c::C,L,hn,hc=>by
  obtain ⟨n1,n2⟩:=zAA.1 hn;have hp:=(List.perm_cons_erase (hc c (by simp))).map f;have:=zBu f C (L.erase c) n2 (fun d hd=>(List.mem_erase_of_ne (fun e=>n1 (by rw[<-e];exact hd))).2 (hc d (by simp[hd])));rw[hp.sum_nat,zza,zzd,zza,zzd];omega
theorem zBY(h:List Nd):(List.range h.length).map (zkL h)=h.map sz:=by
 refine List.ext_getElem (by simp) (fun i h1 h2=>?_);simp at h1;simp[zkL,h1]
theorem zAR{hf k:Nat}(hs:shut A=true)(h:tot A+k<=hf):Fits hf A k:=fun C c1 c2=>by
 have:=zBu (zkL A.h) C (List.range A.h.length) c1 (fun c hc=>List.mem_range.2 (zBy hs (c2 c hc)));rw[zBY]at this;unfold tot at h;omega
variable {fh hf:Nat} {sl:List Nat} {A:Ma}
end Ab
end Go.Proofs.YtgahgkddaljmkaaGreatDoor
