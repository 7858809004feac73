/- A part of what the last text proves: Gx. -/
import Derived.Laws.AppendOwn
import Derived.Deep.DeepCutAuto
import Derived.Test.YtinkkmlbhkfmnaaGreatQGk
set_option maxRecDepth 100000
set_option maxHeartbeats 8000000
namespace Go.Proofs.YtinkkmlbhkfmnaaGreat
section
open Go.RowKit
def c4 (L:List (Bk × Value)):List Value:=L.flatMap λx=>[.bool x.1.bad,.int .i64 x.1.next,.int .i64 x.1.count,x.2]
theorem c4_cons (x:Bk × Value) (L:List (Bk × Value)):c4 (x::L)=.bool x.1.bad::.int .i64 x.1.next::.int .i64 x.1.count::x.2::c4 L:=by simp[c4]
theorem c4_get (L:List (Bk × Value)) (j:Nat) (h:j<L.length):(c4 L)[j * 4]? = some (.bool L[j].1.bad)/\(c4 L)[j * 4+1]? = some (.int .i64 L[j].1.next)/\(c4 L)[j * 4+2]? = some (.int .i64 L[j].1.count)/\(c4 L)[j * 4+3]? = some L[j].2:=by
 induction L generalizing j with
 | nil=>simp at h
 | cons x L ih =>
  rw[c4_cons]
  cases j with
  | zero=>simp
  | succ j =>
   have:=ih j (by simpa using h)
   rw[show (j+1) * 4=j * 4+1+1+1+1 by omega]
   simpa using this
theorem zRn {W:World} {B g n cap:Nat} {L:List (Bk × Value)} (hn:n=L.length) (h:W.ownsRow B 101 4 (.slice (some ⟨g,0,none⟩) n cap) n (c4 L)) (hp:∀x∈L,∃A n c,x.2=.slice A n c):BLies W (some ⟨g,0,none⟩) (L.map (·.1)):=λ_=>by
 subst hn
 refine ⟨g,0,rfl,(h.lt g rfl).2,λj hj=>?_⟩
 have hj':j<L.length:=by simpa using hj
 obtain ⟨g0,g1,g2,g3⟩:=c4_get L j hj'
 obtain ⟨A,n,c,hv⟩:=hp L[j] (List.getElem_mem hj')
 have k:=λi (hi:i<4)=>World.ownsRow.cellAt h (j * 4+i) (by omega)
 have k0:=k 0 (by omega)
 have k1:=k 1 (by omega)
 have k2:=k 2 (by omega)
 have k3:=k 3 (by omega)
 rw[Nat.add_zero,g0] at k0
 rw[g1] at k1
 rw[g2] at k2
 rw[g3,hv] at k3
 rw[Nat.zero_add]
 exact ⟨by simpa using k0,by simpa using k1,by simpa using k2,A,n,c,k3⟩
instance:Inhabited Value:=⟨.slice none 0 0⟩
end
section
open Go.RowKit
section
variable {S:LS} {np:Nat} {U:List Nat}
end
theorem vR {w:World} {p:Nat} {x:Nat->Prop} {S:LS} (h:Held w p x S) (h1:1<=S.bl.length):Calls Tryz.prog 21 #[.pointer (some ⟨p,0,none⟩)] w λe w'=>∃g cap,e=.returned (.slice (some ⟨g,0,none⟩) S.bl.length cap)/\BLies w' (some ⟨g,0,none⟩) S.bl/\Below w.heap.size w w':=by
 obtain ⟨q,cap,g,C,h2,_⟩:=h
 refine (zIx h2 h1).mono ?_
 rintro e w' ⟨v,rfl,⟨L,hL,hown,hp⟩,hb⟩
 have hl:L.length=S.bl.length:=by rw[<- hL];simp
 rcases hown.2 with ⟨_,h0⟩ | ⟨g',cap',cur,rfl,_⟩
 . omega
 . refine ⟨g',cap',rfl,?_,hb⟩
   have:=zRn (L:=L) hl.symm hown (λy hy=>by
    obtain ⟨A9,c9,e9,_⟩:=hp y hy
    exact ⟨A9,_,c9,e9⟩)
   rwa [hL] at this
theorem zQf {w:World} {p:Nat} {x:Nat->Prop} {S:LS} (A:Option Addr) (m c:Nat) (l:List UInt8) (b pg:Int) (hm:m=l.length) (h:Held w p x S) (hl:CB w x A l) :
 Calls Tryz.prog 119 #[.pointer (some ⟨p,0,none⟩),.agg #[.int .i64 b,.int .i64 pg],.slice A m c] w λe w'=>e=.returned (.int .i64 (qU S b pg l).1)/\Held w' p x (qU S b pg l).2/\Safe x w w':=by
 subst hm
 exact zZo A c l b pg h hl
end
end Go.Proofs.YtinkkmlbhkfmnaaGreat
