/- A part of what the last text proves: PoN3. -/
import Derived.Test.YtinkkmlbhkfmnaaGreatQGp
set_option maxRecDepth 100000
set_option maxHeartbeats 8000000
namespace Go.Proofs.YtinkkmlbhkfmnaaGreat
open Go.ChangeShapes Go.WideShapes Go.ChangeAt Go.RowKit Go.ChangeMaps
theorem zTw {H:Type} {enc:TypeId × Value->H} {W:World} {r:Reach} {b0:Nat} {v:Value} {d:DataW H} {p:List MemPlace} (hv:Value.okWide Tryz.prog W r b0 34 v) (h:DataW.Trod enc Tryz.prog W 0 (λ_=>true) true 34 v d p) :
 ∃(l:List UInt8) (A:Option Addr) (c:Nat),v=.slice A l.length c/\RB W W.heap.size A l/\l.length<=c/\l.length<=maxLen/\(A=none->l.length=0/\c=0):=by
 obtain ⟨a0,len,cap,rfl⟩:=okWide_slice Tryz.underlying34 hv
 obtain ⟨fuel,hf⟩:=h
 rcases open_ints Tryz.underlying34 Tryz.underlying5 zIv hf with ⟨hcs,_⟩ | ⟨a,len',cap',zs,hcs,_,hl,hm,hz,_,hcell,hw⟩
 . refine ⟨[],none,0,by simpa[Value.cells] using hcs,.nil,Nat.le_refl _,Nat.zero_le _,λ_=>⟨rfl,rfl⟩⟩
 . simp[Value.cells] at hcs
   obtain ⟨rfl,rfl,rfl⟩:=hcs
   have hzl:zs.length=cap:=by simpa using hz
   have hlen:((zs.take len).map λz=>UInt8.ofNat z.toNat).length=len:=by simp;omega
   refine ⟨_,some a,cap,by rw[hlen],rb_of (by omega) hw (λa' e=>by cases e;exact hcell) (λe=>by cases e),by rw[hlen];omega,by rw[hlen];omega,λe=>by cases e⟩
end Go.Proofs.YtinkkmlbhkfmnaaGreat
