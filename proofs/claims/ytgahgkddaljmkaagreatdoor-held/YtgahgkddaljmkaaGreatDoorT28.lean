/- ShB .. ShB -/
import Derived.Test.YtgahgkddaljmkaaGreatDoorT27
set_option maxRecDepth 100000
set_option maxHeartbeats 4000000
namespace Go.Proofs.YtgahgkddaljmkaaGreatDoor
open Tryz
open Th
theorem zi0{α:Type}{f g:Nat->α}{m:Nat}(h:(List.range m).map f=(List.range m).map g){n:Nat}(hn:n<m):f n=g n:=List.map_inj_left.1 h n (List.mem_range.2 hn)
theorem zxh{f:Nat}(hf:f<1000):∃ c more,zrn 3 f=c::more/\(∀ d∈c::more,zba d=true)/\(c::more).length<=3/\val (c::more)=f:=by
 have h:=zi0 (m:=1000) (f:=fun f=>match zrn 3 f with|[]=>false|c::more=>(c::more).all zba && decide ((c::more).length<=3) && (val (c::more) == f)) (g:=fun _=>true) (by kernel_rfl) hf;split at h
 ·cases h
 ·next c more e=>
  simp only[zzv,List.all_eq_true,decide_eq_true_eq,beq_iff_eq]at h;exact ⟨c,more,e,h.1.1,h.1.2,h.2⟩
end Go.Proofs.YtgahgkddaljmkaaGreatDoor
