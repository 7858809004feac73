/- A part of what the last text proves: PoC0, PoC1, PoC2, PoC3, PoC5. -/
import Derived.Test.YtinkkmlbhkfmnaaGreatQPa
import Derived.Test.YtinkkmlbhkfmnaaGreatQGu
import Derived.Test.YtinkkmlbhkfmnaaGreatQGv
import Derived.Test.YtinkkmlbhkfmnaaGreatQGx
set_option maxRecDepth 100000
set_option maxHeartbeats 8000000
namespace Go.Proofs.YtinkkmlbhkfmnaaGreat
section
open Go.RowKit
section
variable {w w':World} {p c:Nat} {x:Nat->Prop} {Q:PS}
theorem cells12 {w:World} {p:Nat} {a b c d e f g h i j k l:Value} {t:TypeId} (hh:w.heap[p]? = some (.cells #[a,b,c,d,e,f,g,h,i,j,k,l] t (0,0))) :
 w.cell? ⟨p,0,none⟩=some a/\w.cell? ⟨p,1,none⟩=some b/\w.cell? ⟨p,2,none⟩=some c/\w.cell? ⟨p,3,none⟩=some d/\w.cell? ⟨p,4,none⟩=some e/\w.cell? ⟨p,5,none⟩=some f/\w.cell? ⟨p,6,none⟩=some g/\w.cell? ⟨p,7,none⟩=some h/\w.cell? ⟨p,8,none⟩=some i/\w.cell? ⟨p,9,none⟩=some j/\w.cell? ⟨p,10,none⟩=some k/\w.cell? ⟨p,11,none⟩=some l:=by
 simp[World.cell?,hh]
structure Parts (w:World) (p c l f:Nat) (Q:PS):Prop where
 lt:p<w.heap.size
 chip:Held w c (λ_=>False) Q.S
 live:Tab w l (λ_=>False) Q.L
 fresh:Tab w f (λ_=>False) Q.F
 c0:w.cell? ⟨p,0,none⟩=some (.pointer (some ⟨c,0,none⟩))
 c1:w.cell? ⟨p,1,none⟩=some (.int .i64 Q.B)
 c2:w.cell? ⟨p,2,none⟩=some (.int .i64 Q.P)
 c3:w.cell? ⟨p,3,none⟩=some (.int .i64 Q.Sp)
 c4:w.cell? ⟨p,4,none⟩=some (.int .i64 Q.K)
 c5:w.cell? ⟨p,5,none⟩=some (.int .i64 Q.U)
 c6:w.cell? ⟨p,6,none⟩=some (.int .i64 Q.bad)
 c7:w.cell? ⟨p,7,none⟩=some (.pointer (some ⟨l,0,none⟩))
 c8:w.cell? ⟨p,8,none⟩=some (.pointer (some ⟨f,0,none⟩))
 c9:w.cell? ⟨p,9,none⟩=some (.int .i64 Q.seq)
 c10:w.cell? ⟨p,10,none⟩=some (.int .i64 Q.op)
 c11:w.cell? ⟨p,11,none⟩=some (.bool Q.down)
 fr:∀j,w.frozen? ⟨p,j,none⟩=false
theorem PoolAt.parts {l f:Nat} {X Y Z:Nat->Prop} (h1:PoolAt w p c l f X Y Z Q):Parts w p c l f Q:=by
 obtain ⟨a0,a1,a2,a3,a4,a5,a6,a7,a8,a9,a10,a11⟩:=cells12 h1.self
 exact ⟨qD h1.self,h1.chip.less λ_ k=>k.elim,h1.live.less λ_ k=>k.elim,h1.fresh.less λ_ k=>k.elim,a0,a1,a2,a3,a4,a5,a6,a7,a8,a9,a10,a11,λj=>by simp[World.frozen?,h1.self]⟩
theorem Pool.parts (h:Pool w p c x Q):∃l f,Parts w p c l f Q:=by
 obtain ⟨l,f,X,Y,Z,h1,-⟩:=h
 exact ⟨l,f,h1.parts⟩
theorem Parts.below {l f:Nat} (h:Parts w p c l f Q) (hb:Below w.heap.size w w'):Parts w' p c l f Q:=by
 have hc:∀j v,w.cell? ⟨p,j,none⟩=some v->w'.cell? ⟨p,j,none⟩=some v:=λj v e=>(hb.cell (p:=⟨p,j,none⟩) h.lt).trans e
 have hp:=hb.block p h.lt
 exact ⟨Nat.lt_of_lt_of_le h.lt hb.size,h.chip.below hb,h.live.below hb,h.fresh.below hb,hc _ _ h.c0,hc _ _ h.c1,hc _ _ h.c2,hc _ _ h.c3,hc _ _ h.c4,hc _ _ h.c5,hc _ _ h.c6,hc _ _ h.c7,hc _ _ h.c8,hc _ _ h.c9,hc _ _ h.c10,hc _ _ h.c11,λj=>by have:=h.fr j;simp only[World.frozen?] at this ⊢;rw[hp];exact this⟩
theorem qp (n:Int) (h : -9223372036854775808<=n/\n<=9223372036854775807):IntKind.i64.wrap n=n:=by rw[IntKind.wrap_i64];omega
theorem q_is {l f:Nat} (h:Parts w p c l f Q):Calls Tryz.prog 52 #[.pointer (some ⟨p,0,none⟩)] w λe w'=>e=.returned (.bool true)/\w=w':=by
 have c0:=h.c0
 clear h
 go_enter Tryz.func52,Tryz.ntmps52
 go_wp2_with fail
 go_ret
 exact ⟨rfl,rfl⟩
end
end
section
open Go.RowKit
section
variable {w w':World} {p c l f:Nat} {x:Nat->Prop} {Q:PS}
theorem yw (i:Int) (h:Parts w p c l f Q) (ok:Ok Q) (hi:(Lit.int .i64 i).wf=true):Calls Tryz.prog 164 #[.pointer (some ⟨p,0,none⟩),.int .i64 i] w λe w'=>e=.returned (.int .i64 (Q.held i:Int))/\Below w.heap.size w w':=by
 have HP:=hI h
 have HI:=hI hi
 have HL:Hid (Q.L.length<=1000/\Q.F.length<=1000):=hI (by have:=ok.tabs;omega)
 have HW:Hid (IntKind.i64.wrap ((vU Q.L i:Int)+(vU Q.F i:Int))=(Q.held i:Int)):=hI (by
  have h1:vU Q.L i<=Q.L.length:=List.countP_le_length
  have h2:vU Q.F i<=Q.F.length:=List.countP_le_length
  have h3:=ok.tabs
  rw[show IntKind.i64.wrap ((vU Q.L i:Int)+(vU Q.F i:Int))=(vU Q.L i:Int)+(vU Q.F i:Int) from qp _ (by omega)]
  unfold PS.held;omega)
 clear h ok hi
 go_enter Tryz.func164,Tryz.ntmps164
 go_upto_region 1 with fail
 refine qR (λj v w'=>match j with | 0=>v=.pointer (some ⟨p,0,none⟩) | 1=>v=.pointer (some ⟨p,0,none⟩) | 2=>v=.pointer (some ⟨p,7,none⟩) | 3=>v=.pointer (some ⟨l,0,none⟩) | 4=>v=.int .i64 i | 5=>v=.int .i64 (vU Q.L i:Int) | 6=>v=.pointer (some ⟨p,0,none⟩) | 7=>v=.pointer (some ⟨p,0,none⟩) | 8=>v=.pointer (some ⟨p,8,none⟩) | 9=>v=.pointer (some ⟨f,0,none⟩) | 10=>v=.int .i64 i | 11=>v=.int .i64 (vU Q.F i:Int) | 12=>v=.int .i64 (Q.held i:Int) | 13=>v=.int .i64 (Q.held i:Int) | _=>True) (λ_ w'=>Below w.heap.size w w') (λw1 w2=>Below w1.heap.size w1 w2) (by kernel_rfl) (by kernel_rfl) (by kernel_rfl) ?hR ?hG ?hops ?hend
 case hR =>
  intro j v w1 w2 hv hb
  match j,hv with
  | 0,hv | 1,hv | 2,hv | 3,hv | 4,hv | 5,hv | 6,hv | 7,hv | 8,hv | 9,hv | 10,hv | 11,hv | 12,hv | 13,hv=>exact hv
  | _+14,_=>exact trivial
 case hG=>exact bR.drew
 case hops =>
  refine oC ?_ (oC ?_ (oC ?_ (oC ?_ (oC ?_ (oC ?_ (oC ?_ (oC ?_ (oC ?_ (oC ?_ (oC ?_ (oC ?_ (oC ?_ (oC ?_ OpsOkS.nil)))))))))))))
  . intro a w1 ξ γ ν ω ζ ψ κ
    have e0:=og (v:=.pointer (some ⟨p,0,none⟩)) (ω 0 (by kernel_rfl))
    refine qB (v:=.pointer (some ⟨p,0,none⟩)) (qA rfl) ?_ (κ _ w1 rfl γ bR)
    simp[execOp,go_sem,e0]
  . intro a w1 ξ γ ν ω ζ ψ κ
    have e0:=og (v:=.pointer (some ⟨p,0,none⟩)) (ν 0 (by kernel_rfl) (by kernel_rfl))
    refine qB (v:=.pointer (some ⟨p,0,none⟩)) (qA rfl) ?_ (κ _ w1 rfl γ bR)
    simp[execOp,go_sem,e0]
  . intro a w1 ξ γ ν ω ζ ψ κ
    have e0:=og (v:=.pointer (some ⟨p,0,none⟩)) (ν 1 (by kernel_rfl) (by kernel_rfl))
    refine qB (v:=.pointer (some ⟨p,7,none⟩)) (qA rfl) ?_ (κ _ w1 rfl γ bR)
    simp[execOp,go_sem,e0]
  . intro a w1 ξ γ ν ω ζ ψ κ
    have e0:=og (v:=.pointer (some ⟨p,7,none⟩)) (ν 2 (by kernel_rfl) (by kernel_rfl))
    have k0:=(γ.cell (p:=⟨p,7,none⟩) HP.out.lt).trans HP.out.c7
    refine qB (v:=.pointer (some ⟨l,0,none⟩)) (qA rfl) ?_ (κ _ w1 rfl γ bR)
    simp[execOp,go_sem,e0,k0]
  . intro a w1 ξ γ ν ω ζ ψ κ
    have e0:=og (v:=.int .i64 i) (ω 1 (by kernel_rfl))
    refine qB (v:=.int .i64 i) (qA rfl) ?_ (κ _ w1 rfl γ bR)
    simp[execOp,go_sem,e0]
  . intro a w1 ξ γ ν ω ζ ψ κ
    have e0:=og (v:=.pointer (some ⟨l,0,none⟩)) (ν 3 (by kernel_rfl) (by kernel_rfl))
    have e1:=og (v:=.int .i64 i) (ν 4 (by kernel_rfl) (by kernel_rfl))
    refine qM (qA rfl) (f:=180) (args:=#[.pointer (some ⟨l,0,none⟩),.int .i64 i]) ?run ((zNk i (HP.out.live.below γ) HL.out.1 HI.out).mono ?post)
    case run=>simp[go_sem,e0,e1]
    case post =>
     rintro e w2 ⟨rfl,hb2⟩
     exact ⟨_,rfl,κ _ w2 rfl (γ.trans (hb2.mono γ.size)) hb2⟩
  . intro a w1 ξ γ ν ω ζ ψ κ
    have e0:=og (v:=.pointer (some ⟨p,0,none⟩)) (ω 0 (by kernel_rfl))
    refine qB (v:=.pointer (some ⟨p,0,none⟩)) (qA rfl) ?_ (κ _ w1 rfl γ bR)
    simp[execOp,go_sem,e0]
  . intro a w1 ξ γ ν ω ζ ψ κ
    have e0:=og (v:=.pointer (some ⟨p,0,none⟩)) (ν 6 (by kernel_rfl) (by kernel_rfl))
    refine qB (v:=.pointer (some ⟨p,0,none⟩)) (qA rfl) ?_ (κ _ w1 rfl γ bR)
    simp[execOp,go_sem,e0]
  . intro a w1 ξ γ ν ω ζ ψ κ
    have e0:=og (v:=.pointer (some ⟨p,0,none⟩)) (ν 7 (by kernel_rfl) (by kernel_rfl))
    refine qB (v:=.pointer (some ⟨p,8,none⟩)) (qA rfl) ?_ (κ _ w1 rfl γ bR)
    simp[execOp,go_sem,e0]
  . intro a w1 ξ γ ν ω ζ ψ κ
    have e0:=og (v:=.pointer (some ⟨p,8,none⟩)) (ν 8 (by kernel_rfl) (by kernel_rfl))
    have k0:=(γ.cell (p:=⟨p,8,none⟩) HP.out.lt).trans HP.out.c8
    refine qB (v:=.pointer (some ⟨f,0,none⟩)) (qA rfl) ?_ (κ _ w1 rfl γ bR)
    simp[execOp,go_sem,e0,k0]
  . intro a w1 ξ γ ν ω ζ ψ κ
    have e0:=og (v:=.int .i64 i) (ω 1 (by kernel_rfl))
    refine qB (v:=.int .i64 i) (qA rfl) ?_ (κ _ w1 rfl γ bR)
    simp[execOp,go_sem,e0]
  . intro a w1 ξ γ ν ω ζ ψ κ
    have e0:=og (v:=.pointer (some ⟨f,0,none⟩)) (ν 9 (by kernel_rfl) (by kernel_rfl))
    have e1:=og (v:=.int .i64 i) (ν 10 (by kernel_rfl) (by kernel_rfl))
    refine qM (qA rfl) (f:=180) (args:=#[.pointer (some ⟨f,0,none⟩),.int .i64 i]) ?run ((zNk i (HP.out.fresh.below γ) HL.out.2 HI.out).mono ?post)
    case run=>simp[go_sem,e0,e1]
    case post =>
     rintro e w2 ⟨rfl,hb2⟩
     exact ⟨_,rfl,κ _ w2 rfl (γ.trans (hb2.mono γ.size)) hb2⟩
  . intro a w1 ξ γ ν ω ζ ψ κ
    have e0:=og (v:=.int .i64 (vU Q.L i:Int)) (ν 5 (by kernel_rfl) (by kernel_rfl))
    have e1:=og (v:=.int .i64 (vU Q.F i:Int)) (ν 11 (by kernel_rfl) (by kernel_rfl))
    refine qB (v:=.int .i64 (Q.held i:Int)) (qA rfl) ?_ (κ _ w1 rfl γ bR)
    simp[execOp,go_sem,e0,e1,HW.out]
  . intro a w1 ξ γ ν ω ζ ψ κ
    have e0:=og (v:=.int .i64 (Q.held i:Int)) (ν 12 (by kernel_rfl) (by kernel_rfl))
    refine qB (v:=.int .i64 (Q.held i:Int)) (qA rfl) ?_ (κ _ w1 rfl γ bR)
    simp[execOp,go_sem,e0]
 case hend =>
  intro a w6 hG hde hsz hφ hold
  obtain rfl:=qy [(5,.pointer (some ⟨p,0,none⟩)),(6,.pointer (some ⟨p,0,none⟩)),(7,.pointer (some ⟨p,7,none⟩)),(8,.pointer (some ⟨l,0,none⟩)),(9,.int .i64 i),(10,.int .i64 (vU Q.L i:Int)),(11,.pointer (some ⟨p,0,none⟩)),(12,.pointer (some ⟨p,0,none⟩)),(13,.pointer (some ⟨p,8,none⟩)),(14,.pointer (some ⟨f,0,none⟩)),(15,.int .i64 i),(16,.int .i64 (vU Q.F i:Int)),(17,.int .i64 (Q.held i:Int)),(4,.int .i64 (Q.held i:Int))] [5,6,7,8,9,10,11,12,13,14,15,16,17,4] rfl (by kernel_rfl) (by kernel_rfl) hde hsz (fC ⟨(hφ 0 (by kernel_rfl)),(fC ⟨(hφ 1 (by kernel_rfl)),(fC ⟨(hφ 2 (by kernel_rfl)),(fC ⟨(hφ 3 (by kernel_rfl)),(fC ⟨(hφ 4 (by kernel_rfl)),(fC ⟨(hφ 5 (by kernel_rfl)),(fC ⟨(hφ 6 (by kernel_rfl)),(fC ⟨(hφ 7 (by kernel_rfl)),(fC ⟨(hφ 8 (by kernel_rfl)),(fC ⟨(hφ 9 (by kernel_rfl)),(fC ⟨(hφ 10 (by kernel_rfl)),(fC ⟨(hφ 11 (by kernel_rfl)),(fC ⟨(hφ 12 (by kernel_rfl)),(fC ⟨(hφ 13 (by kernel_rfl)),(λ_ h=>absurd h (by simp))⟩)⟩)⟩)⟩)⟩)⟩)⟩)⟩)⟩)⟩)⟩)⟩)⟩)⟩) hold
  clear hφ hold hsz hde
  simp only[qd]
  go_frame
  go_wp2_with fail
  go_ret
  exact ⟨rfl,hG⟩
theorem zMm (h:Parts w p c l f Q) (ok:Ok Q):Calls Tryz.prog 32 #[.pointer (some ⟨p,0,none⟩)] w λe w'=>e=.returned (.int .i64 Q.bads)/\Below w.heap.size w w':=by
 have HP:=hI h
 have HL:Hid (Q.S.bl.length<=1000):=hI (by have:=ok.lenN;omega)
 have HB1:Hid (1<=Q.S.bl.length):=hI (by have:=ok.lenN;omega)
 have HW:Hid (IntKind.i64.wrap ((qx Q.S.bl:Int) - Q.bad)=Q.bads):=hI (by
  have h3:=ok.bads
  exact qp _ (by unfold PS.bads at h3;omega))
 clear h ok
 go_enter Tryz.func32,Tryz.ntmps32
 go_upto_region 3 with (go_at_call 52;refine (q_is HP.out).mono ?_;rintro e w1 ⟨rfl,rfl⟩)
 refine qR (λj v w'=>match j with | 0=>v=.pointer (some ⟨p,0,none⟩) | 1=>v=.pointer (some ⟨p,0,none⟩) | 2=>v=.pointer (some ⟨p,0,none⟩) | 3=>v=.pointer (some ⟨c,0,none⟩) | 4=>∃g cap,v=.slice (some ⟨g,0,none⟩) Q.S.bl.length cap/\BLies w' (some ⟨g,0,none⟩) Q.S.bl | 5=>v=.int .i64 (qx Q.S.bl:Int) | 6=>v=.pointer (some ⟨p,0,none⟩) | 7=>v=.pointer (some ⟨p,0,none⟩) | 8=>v=.pointer (some ⟨p,6,none⟩) | 9=>v=.int .i64 Q.bad | 10=>v=.int .i64 Q.bads | 11=>v=.int .i64 Q.bads | _=>True) (λ_ w'=>Below w.heap.size w w') (λw1 w2=>Below w1.heap.size w1 w2) (by kernel_rfl) (by kernel_rfl) (by kernel_rfl) ?hR ?hG ?hops ?hend
 case hR =>
  intro j v w1 w2 hv hb
  match j,hv with
  | 0,hv | 1,hv | 2,hv | 3,hv=>exact hv
  | 4,⟨g,cap,e,h⟩=>exact ⟨g,cap,e,h.below hb⟩
  | 5,hv | 6,hv | 7,hv | 8,hv | 9,hv | 10,hv | 11,hv=>exact hv
  | _+12,_=>exact trivial
 case hG=>exact bR.drew
 case hops =>
  refine oC ?_ (oC ?_ (oC ?_ (oC ?_ (oC ?_ (oC ?_ (oC ?_ (oC ?_ (oC ?_ (oC ?_ (oC ?_ (oC ?_ OpsOkS.nil)))))))))))
  . intro a w1 ξ γ ν ω ζ ψ κ
    have e0:=og (v:=.pointer (some ⟨p,0,none⟩)) (ω 0 (by kernel_rfl))
    refine qB (v:=.pointer (some ⟨p,0,none⟩)) (qA rfl) ?_ (κ _ w1 rfl γ bR)
    simp[execOp,go_sem,e0]
  . intro a w1 ξ γ ν ω ζ ψ κ
    have e0:=og (v:=.pointer (some ⟨p,0,none⟩)) (ν 0 (by kernel_rfl) (by kernel_rfl))
    refine qB (v:=.pointer (some ⟨p,0,none⟩)) (qA rfl) ?_ (κ _ w1 rfl γ bR)
    simp[execOp,go_sem,e0]
  . intro a w1 ξ γ ν ω ζ ψ κ
    have e0:=og (v:=.pointer (some ⟨p,0,none⟩)) (ν 1 (by kernel_rfl) (by kernel_rfl))
    refine qB (v:=.pointer (some ⟨p,0,none⟩)) (qA rfl) ?_ (κ _ w1 rfl γ bR)
    simp[execOp,go_sem,e0]
  . intro a w1 ξ γ ν ω ζ ψ κ
    have e0:=og (v:=.pointer (some ⟨p,0,none⟩)) (ν 2 (by kernel_rfl) (by kernel_rfl))
    have k0:=(γ.cell (p:=⟨p,0,none⟩) HP.out.lt).trans HP.out.c0
    refine qB (v:=.pointer (some ⟨c,0,none⟩)) (qA rfl) ?_ (κ _ w1 rfl γ bR)
    simp[execOp,go_sem,e0,k0]
  . intro a w1 ξ γ ν ω ζ ψ κ
    have e0:=og (v:=.pointer (some ⟨c,0,none⟩)) (ν 3 (by kernel_rfl) (by kernel_rfl))
    refine qM (qA rfl) (f:=21) (args:=#[.pointer (some ⟨c,0,none⟩)]) ?run ((vR (HP.out.chip.below γ) HB1.out).mono ?post)
    case run=>simp[go_sem,e0]
    case post =>
     rintro e w2 ⟨g,cap,rfl,hl,hb2⟩
     exact ⟨_,rfl,κ _ w2 ⟨g,cap,rfl,hl⟩ (γ.trans (hb2.mono γ.size)) hb2⟩
  . intro a w1 ξ γ ν ω ζ ψ κ
    obtain ⟨g,cap,qe0,he0⟩ := ν 4 (by kernel_rfl) (by kernel_rfl)
    have e0:a.tmps[10]?.getD undef=.slice (some ⟨g,0,none⟩) Q.S.bl.length cap:=by rw[<- Array.getD_eq_getD_getElem?];exact qe0
    refine qM (qA rfl) (f:=36) (args:=#[.slice (some ⟨g,0,none⟩) Q.S.bl.length cap]) ?run ((zQw (some ⟨g,0,none⟩) cap Q.S.bl w1 HL.out he0).mono ?post)
    case run=>simp[go_sem,e0]
    case post =>
     rintro e w2 ⟨rfl,hb2⟩
     exact ⟨_,rfl,κ _ w2 rfl (γ.trans (hb2.mono γ.size)) hb2⟩
  . intro a w1 ξ γ ν ω ζ ψ κ
    have e0:=og (v:=.pointer (some ⟨p,0,none⟩)) (ω 0 (by kernel_rfl))
    refine qB (v:=.pointer (some ⟨p,0,none⟩)) (qA rfl) ?_ (κ _ w1 rfl γ bR)
    simp[execOp,go_sem,e0]
  . intro a w1 ξ γ ν ω ζ ψ κ
    have e0:=og (v:=.pointer (some ⟨p,0,none⟩)) (ν 6 (by kernel_rfl) (by kernel_rfl))
    refine qB (v:=.pointer (some ⟨p,0,none⟩)) (qA rfl) ?_ (κ _ w1 rfl γ bR)
    simp[execOp,go_sem,e0]
  . intro a w1 ξ γ ν ω ζ ψ κ
    have e0:=og (v:=.pointer (some ⟨p,0,none⟩)) (ν 7 (by kernel_rfl) (by kernel_rfl))
    refine qB (v:=.pointer (some ⟨p,6,none⟩)) (qA rfl) ?_ (κ _ w1 rfl γ bR)
    simp[execOp,go_sem,e0]
  . intro a w1 ξ γ ν ω ζ ψ κ
    have e0:=og (v:=.pointer (some ⟨p,6,none⟩)) (ν 8 (by kernel_rfl) (by kernel_rfl))
    have k0:=(γ.cell (p:=⟨p,6,none⟩) HP.out.lt).trans HP.out.c6
    refine qB (v:=.int .i64 Q.bad) (qA rfl) ?_ (κ _ w1 rfl γ bR)
    simp[execOp,go_sem,e0,k0]
  . intro a w1 ξ γ ν ω ζ ψ κ
    have e0:=og (v:=.int .i64 (qx Q.S.bl:Int)) (ν 5 (by kernel_rfl) (by kernel_rfl))
    have e1:=og (v:=.int .i64 Q.bad) (ν 9 (by kernel_rfl) (by kernel_rfl))
    refine qB (v:=.int .i64 Q.bads) (qA rfl) ?_ (κ _ w1 rfl γ bR)
    simp[execOp,go_sem,e0,e1,HW.out]
  . intro a w1 ξ γ ν ω ζ ψ κ
    have e0:=og (v:=.int .i64 Q.bads) (ν 10 (by kernel_rfl) (by kernel_rfl))
    refine qB (v:=.int .i64 Q.bads) (qA rfl) ?_ (κ _ w1 rfl γ bR)
    simp[execOp,go_sem,e0]
 case hend =>
  intro a w6 hG hde hsz hφ hold
  obtain ⟨g_4,cap_4,hv_4,hp_4⟩:=hφ 4 (by kernel_rfl)
  obtain rfl:=qy [(6,.pointer (some ⟨p,0,none⟩)),(7,.pointer (some ⟨p,0,none⟩)),(8,.pointer (some ⟨p,0,none⟩)),(9,.pointer (some ⟨c,0,none⟩)),(10,.slice (some ⟨g_4,0,none⟩) Q.S.bl.length cap_4),(11,.int .i64 (qx Q.S.bl:Int)),(12,.pointer (some ⟨p,0,none⟩)),(13,.pointer (some ⟨p,0,none⟩)),(14,.pointer (some ⟨p,6,none⟩)),(15,.int .i64 Q.bad),(16,.int .i64 Q.bads),(2,.int .i64 Q.bads)] [6,7,8,9,10,11,12,13,14,15,16,2] rfl (by kernel_rfl) (by kernel_rfl) hde hsz (fC ⟨(hφ 0 (by kernel_rfl)),(fC ⟨(hφ 1 (by kernel_rfl)),(fC ⟨(hφ 2 (by kernel_rfl)),(fC ⟨(hφ 3 (by kernel_rfl)),(fC ⟨(show a.tmps.getD 10 undef=.slice (some ⟨g_4,0,none⟩) Q.S.bl.length cap_4 from hv_4),(fC ⟨(hφ 5 (by kernel_rfl)),(fC ⟨(hφ 6 (by kernel_rfl)),(fC ⟨(hφ 7 (by kernel_rfl)),(fC ⟨(hφ 8 (by kernel_rfl)),(fC ⟨(hφ 9 (by kernel_rfl)),(fC ⟨(hφ 10 (by kernel_rfl)),(fC ⟨(hφ 11 (by kernel_rfl)),(λ_ h=>absurd h (by simp))⟩)⟩)⟩)⟩)⟩)⟩)⟩)⟩)⟩)⟩)⟩)⟩) hold
  clear hφ hold hsz hde
  simp only[qd]
  go_frame
  go_wp2_with fail
  go_ret
  exact ⟨rfl,hG⟩
theorem zAb (h:Parts w p c l f Q) (ok:Ok Q):Calls Tryz.prog 33 #[.pointer (some ⟨p,0,none⟩)] w λe w'=>e=.returned (.bool Q.over)/\Below w.heap.size w w':=by
 have HP:=hI h
 have HO:=hI ok
 clear h ok
 go_enter Tryz.func33,Tryz.ntmps33
 go_upto_region 1 with fail
 refine qR (λj v w'=>match j with | 0=>v=.pointer (some ⟨p,0,none⟩) | 1=>v=.bool true | 2=>v=.bool true | 3=>v=.pointer (some ⟨p,0,none⟩) | 4=>v=.int .i64 Q.bads | 5=>v=.pointer (some ⟨p,0,none⟩) | 6=>v=.pointer (some ⟨p,0,none⟩) | 7=>v=.pointer (some ⟨p,1,none⟩) | 8=>v=.pointer (some ⟨p,3,none⟩) | 9=>v=.int .i64 Q.Sp | 10=>v=.bool Q.over | 11=>v=.bool Q.over | 12=>v=.bool Q.over | _=>True) (λ_ w'=>Below w.heap.size w w') (λw1 w2=>Below w1.heap.size w1 w2) (by kernel_rfl) (by kernel_rfl) (by kernel_rfl) ?hR ?hG ?hops ?hend
 case hR =>
  intro j v w1 w2 hv hb
  match j,hv with
  | 0,hv | 1,hv | 2,hv | 3,hv | 4,hv | 5,hv | 6,hv | 7,hv | 8,hv | 9,hv | 10,hv | 11,hv | 12,hv=>exact hv
  | _+13,_=>exact trivial
 case hG=>exact bR.drew
 case hops =>
  refine oC ?_ (oC ?_ (oC ?_ (oC ?_ (oC ?_ (oC ?_ (oC ?_ (oC ?_ (oC ?_ (oC ?_ (oC ?_ (oC ?_ (oC ?_ OpsOkS.nil))))))))))))
  . intro a w1 ξ γ ν ω ζ ψ κ
    have e0:=og (v:=.pointer (some ⟨p,0,none⟩)) (ω 0 (by kernel_rfl))
    refine qB (v:=.pointer (some ⟨p,0,none⟩)) (qA rfl) ?_ (κ _ w1 rfl γ bR)
    simp[execOp,go_sem,e0]
  . intro a w1 ξ γ ν ω ζ ψ κ
    have e0:=og (v:=.pointer (some ⟨p,0,none⟩)) (ν 0 (by kernel_rfl) (by kernel_rfl))
    refine qM (qA rfl) (f:=52) (args:=#[.pointer (some ⟨p,0,none⟩)]) ?run ((q_is (HP.out.below γ)).mono ?post)
    case run=>simp[go_sem,e0]
    case post =>
     rintro e w2 ⟨rfl,hw2⟩
     have hb2:Below w1.heap.size w1 w2:=by subst hw2;exact bR
     exact ⟨_,rfl,κ _ w2 rfl (γ.trans (hb2.mono γ.size)) hb2⟩
  . intro a w1 ξ γ ν ω ζ ψ κ
    have e0:=og (v:=.bool true) (ν 1 (by kernel_rfl) (by kernel_rfl))
    refine qB (v:=.bool true) (qA rfl) ?_ (κ _ w1 rfl γ bR)
    simp[execOp,go_sem,e0]
  . intro a w1 ξ γ ν ω ζ ψ κ
    have e0:=og (v:=.pointer (some ⟨p,0,none⟩)) (ω 0 (by kernel_rfl))
    refine qB (v:=.pointer (some ⟨p,0,none⟩)) (qE (j:=2) rfl (ν 2 (by kernel_rfl) (by kernel_rfl))) ?_ (κ _ w1 rfl γ bR)
    simp[execOp,go_sem,e0]
  . intro a w1 ξ γ ν ω ζ ψ κ
    have e0:=og (v:=.pointer (some ⟨p,0,none⟩)) (ν 3 (by kernel_rfl) (by kernel_rfl))
    refine qM (qE (j:=2) rfl (ν 2 (by kernel_rfl) (by kernel_rfl))) (f:=32) (args:=#[.pointer (some ⟨p,0,none⟩)]) ?run ((zMm (HP.out.below γ) HO.out).mono ?post)
    case run=>simp[go_sem,e0]
    case post =>
     rintro e w2 ⟨rfl,hb2⟩
     exact ⟨_,rfl,κ _ w2 rfl (γ.trans (hb2.mono γ.size)) hb2⟩
  . intro a w1 ξ γ ν ω ζ ψ κ
    have e0:=og (v:=.pointer (some ⟨p,0,none⟩)) (ω 0 (by kernel_rfl))
    refine qB (v:=.pointer (some ⟨p,0,none⟩)) (qE (j:=2) rfl (ν 2 (by kernel_rfl) (by kernel_rfl))) ?_ (κ _ w1 rfl γ bR)
    simp[execOp,go_sem,e0]
  . intro a w1 ξ γ ν ω ζ ψ κ
    have e0:=og (v:=.pointer (some ⟨p,0,none⟩)) (ν 5 (by kernel_rfl) (by kernel_rfl))
    refine qB (v:=.pointer (some ⟨p,0,none⟩)) (qE (j:=2) rfl (ν 2 (by kernel_rfl) (by kernel_rfl))) ?_ (κ _ w1 rfl γ bR)
    simp[execOp,go_sem,e0]
  . intro a w1 ξ γ ν ω ζ ψ κ
    have e0:=og (v:=.pointer (some ⟨p,0,none⟩)) (ν 6 (by kernel_rfl) (by kernel_rfl))
    refine qB (v:=.pointer (some ⟨p,1,none⟩)) (qE (j:=2) rfl (ν 2 (by kernel_rfl) (by kernel_rfl))) ?_ (κ _ w1 rfl γ bR)
    simp[execOp,go_sem,e0]
  . intro a w1 ξ γ ν ω ζ ψ κ
    have e0:=og (v:=.pointer (some ⟨p,1,none⟩)) (ν 7 (by kernel_rfl) (by kernel_rfl))
    refine qB (v:=.pointer (some ⟨p,3,none⟩)) (qE (j:=2) rfl (ν 2 (by kernel_rfl) (by kernel_rfl))) ?_ (κ _ w1 rfl γ bR)
    simp[execOp,go_sem,e0]
  . intro a w1 ξ γ ν ω ζ ψ κ
    have e0:=og (v:=.pointer (some ⟨p,3,none⟩)) (ν 8 (by kernel_rfl) (by kernel_rfl))
    have k0:=(γ.cell (p:=⟨p,3,none⟩) HP.out.lt).trans HP.out.c3
    refine qB (v:=.int .i64 Q.Sp) (qE (j:=2) rfl (ν 2 (by kernel_rfl) (by kernel_rfl))) ?_ (κ _ w1 rfl γ bR)
    simp[execOp,go_sem,e0,k0]
  . intro a w1 ξ γ ν ω ζ ψ κ
    have e0:=og (v:=.int .i64 Q.bads) (ν 4 (by kernel_rfl) (by kernel_rfl))
    have e1:=og (v:=.int .i64 Q.Sp) (ν 9 (by kernel_rfl) (by kernel_rfl))
    refine qB (v:=.bool Q.over) (qE (j:=2) rfl (ν 2 (by kernel_rfl) (by kernel_rfl))) ?_ (κ _ w1 rfl γ bR)
    simp[execOp,go_sem,e0,e1,PS.over]
  . intro a w1 ξ γ ν ω ζ ψ κ
    have e0:=og (v:=.bool true) (ν 2 (by kernel_rfl) (by kernel_rfl))
    have e1:=og (v:=.bool Q.over) (ν 10 (by kernel_rfl) (by kernel_rfl))
    refine qB (v:=.bool Q.over) (qA rfl) ?_ (κ _ w1 rfl γ bR)
    simp[execOp,go_sem,asBool,e0,e1]
  . intro a w1 ξ γ ν ω ζ ψ κ
    have e0:=og (v:=.bool Q.over) (ν 11 (by kernel_rfl) (by kernel_rfl))
    refine qB (v:=.bool Q.over) (qA rfl) ?_ (κ _ w1 rfl γ bR)
    simp[execOp,go_sem,e0]
 case hend =>
  intro a w6 hG hde hsz hφ hold
  obtain rfl:=qy [(3,.pointer (some ⟨p,0,none⟩)),(4,.bool true),(5,.bool true),(6,.pointer (some ⟨p,0,none⟩)),(7,.int .i64 Q.bads),(8,.pointer (some ⟨p,0,none⟩)),(9,.pointer (some ⟨p,0,none⟩)),(10,.pointer (some ⟨p,1,none⟩)),(11,.pointer (some ⟨p,3,none⟩)),(12,.int .i64 Q.Sp),(13,.bool Q.over),(14,.bool Q.over),(2,.bool Q.over)] [3,4,5,6,7,8,9,10,11,12,13,14,2] rfl (by kernel_rfl) (by kernel_rfl) hde hsz (fC ⟨(hφ 0 (by kernel_rfl)),(fC ⟨(hφ 1 (by kernel_rfl)),(fC ⟨(hφ 2 (by kernel_rfl)),(fC ⟨(hφ 3 (by kernel_rfl)),(fC ⟨(hφ 4 (by kernel_rfl)),(fC ⟨(hφ 5 (by kernel_rfl)),(fC ⟨(hφ 6 (by kernel_rfl)),(fC ⟨(hφ 7 (by kernel_rfl)),(fC ⟨(hφ 8 (by kernel_rfl)),(fC ⟨(hφ 9 (by kernel_rfl)),(fC ⟨(hφ 10 (by kernel_rfl)),(fC ⟨(hφ 11 (by kernel_rfl)),(fC ⟨(hφ 12 (by kernel_rfl)),(λ_ h=>absurd h (by simp))⟩)⟩)⟩)⟩)⟩)⟩)⟩)⟩)⟩)⟩)⟩)⟩)⟩) hold
  clear hφ hold hsz hde
  simp only[qd]
  go_frame
  go_wp2_with fail
  go_ret
  exact ⟨rfl,hG⟩
theorem vy (e:Int) (h:Parts w p c l f Q) (ok:Ok Q):Calls Tryz.prog 120 #[.pointer (some ⟨p,0,none⟩),.int .i64 e] w λe' w'=>e'=.returned (.int .i64 (Q.passed e))/\Below w.heap.size w w':=by
 by_cases he:e=3
 . subst he
   have HP:=hI h
   have HO:=hI ok
   clear h ok
   cases hov:Q.over with
   | true =>
    have HV:=hI hov
    clear hov
    go_enter Tryz.func120,Tryz.ntmps120
    go_wp2_with (go_at_call 33;refine (zAb HP.out HO.out).mono ?_;rintro e w1 ⟨rfl,hb1⟩;rw[HV.out])
    go_ret
    exact ⟨ret_int (by unfold PS.passed;rw[HV.out];rfl),hb1⟩
   | false =>
    have HV:=hI hov
    clear hov
    go_enter Tryz.func120,Tryz.ntmps120
    go_wp2_with (go_at_call 33;refine (zAb HP.out HO.out).mono ?_;rintro e w1 ⟨rfl,hb1⟩;rw[HV.out])
    go_ret
    exact ⟨ret_int (by unfold PS.passed;rw[HV.out];rfl),hb1⟩
 . clear h ok
   go_enter Tryz.func120,Tryz.ntmps120
   go_wp2_with fail
   go_ret
   exact ⟨ret_int (by unfold PS.passed;rw[if_pos he]),bR⟩
end
end
section
open Go.RowKit
section
variable {w w':World} {p c l f:Nat} {x X Y Z:Nat->Prop} {Q:PS} {T:List Fd}
theorem PoolAt.below (h1:PoolAt w p c l f X Y Z Q) (hb:Below w.heap.size w w'):PoolAt w' p c l f X Y Z Q:=by
 have hs:=hb.size
 have h0:=qD h1.self
 have ht:∀V:Nat->Prop,Turned (Off w V) w w':=λV=>.of_below hb
 refine ⟨(hb.block p h0).trans h1.self,?_,?_,?_,λb k=>?_,λb k=>?_,λb k=>?_⟩
 . exact (h1.chip.grow (ht X)).less λb k=>vN hs k
 . exact (h1.live.grow (ht Y)).less λb k=>vN hs k
 . exact (h1.fresh.grow (ht Z)).less λb k=>vN hs k
 . obtain ⟨a,b1,c1,d⟩:=h1.xy b k;exact ⟨a,b1,c1,by omega⟩
 . obtain ⟨a,b1,d⟩:=h1.yz b k;exact ⟨a,b1,by omega⟩
 . obtain ⟨a,d⟩:=h1.zp b k;exact ⟨a,by omega⟩
theorem Pool.freshen {t:Nat} (h:Pool w p c x Q) (hb:Below w.heap.size w w') (ht:Tab w' t (λb=>b<w.heap.size) T):Pool (w'.setCell ⟨p,8,none⟩ (.pointer (some ⟨t,0,none⟩))) p c x { Q with F:=T } /\ Safe x w (w'.setCell ⟨p,8,none⟩ (.pointer (some ⟨t,0,none⟩))):=by
 obtain ⟨l,f,X,Y,Z,h1,h2⟩:=h
 have h3:=h1.below hb
 have h0:=qD h1.self
 have hs:=hb.size
 have hz:(w'.setCell ⟨p,8,none⟩ (.pointer (some ⟨t,0,none⟩))).heap.size=w'.heap.size:=by simp
 have hf:∀b,b≠p->(w'.setCell ⟨p,8,none⟩ (.pointer (some ⟨t,0,none⟩))).heap[b]? = w'.heap[b]? := λb hb=>Below.heap_setCell w' ⟨p,8,none⟩ _ b hb
 have hw:∀V:Nat->Prop,(∀b,V b->b≠p)->Turned (Off w' V) w' (w'.setCell ⟨p,8,none⟩ (.pointer (some ⟨t,0,none⟩))):=λV hV=>(Turned.refl _ w').setCell (λhp=>⟨hp,λk=>hV p k rfl⟩) _
 refine ⟨⟨l,t,X,Y,New w w',⟨?_,?_,?_,?_,λb k=>?_,λb k=>?_,λb k=>?_⟩,λb k=>?_⟩,⟨hb.os,hb.tape,hb.output,by omega,λi hi k=>?_⟩⟩
 . rw[heap_setCell_same w' p 8 _ _ _ h3.self];simp[PS.cells]
 . exact (h3.chip.grow (hw X λb k=>(h3.xy b k).2.2.1)).less λb k=>.inl ⟨by rw[<- hz];exact k.1,k.2⟩
 . exact (h3.live.grow (hw Y λb k=>(h3.yz b k).2.1)).less λb k=>.inl ⟨by rw[<- hz];exact k.1,k.2⟩
 . have h4:Tab w' t (Off w' (New w w')) T:=ht.less λb k=>by
    rcases Nat.lt_or_ge b w.heap.size with e | e
    . exact e
    . exact absurd ⟨e,k.1⟩ k.2
   exact (h4.grow (hw (New w w') λb k=>by have:=k.1;omega)).less λb k=>.inl ⟨by rw[<- hz];exact k.1,k.2⟩
 . rw[hz]
   have h5:=h1.xy b k
   exact ⟨h5.1,λe=>by have:=e.1;omega,h5.2.2.1,by omega⟩
 . rw[hz]
   have h5:=h1.yz b k
   exact ⟨λe=>by have:=e.1;omega,h5.2.1,by omega⟩
 . rw[hz]
   exact ⟨by have:=k.1;omega,k.2⟩
 . rw[hz]
   obtain ⟨a,b1,c1,d,e⟩:=h2 b k
   exact ⟨by omega,b1,c1,λe=>by have:=e.1;omega,e⟩
 . exact (hf i λe=>k λhx=>(h2 i hx).2.2.2.2 e).trans (hb.block i hi)
theorem Pool.relive {t:Nat} (h:Pool w p c x Q) (hb:Below w.heap.size w w') (ht:Tab w' t (λb=>b<w.heap.size) T):Pool (w'.setCell ⟨p,7,none⟩ (.pointer (some ⟨t,0,none⟩))) p c x { Q with L:=T } /\ Safe x w (w'.setCell ⟨p,7,none⟩ (.pointer (some ⟨t,0,none⟩))):=by
 obtain ⟨l,f,X,Y,Z,h1,h2⟩:=h
 have h3:=h1.below hb
 have h0:=qD h1.self
 have hs:=hb.size
 have hz:(w'.setCell ⟨p,7,none⟩ (.pointer (some ⟨t,0,none⟩))).heap.size=w'.heap.size:=by simp
 have hf:∀b,b≠p->(w'.setCell ⟨p,7,none⟩ (.pointer (some ⟨t,0,none⟩))).heap[b]? = w'.heap[b]? := λb hb=>Below.heap_setCell w' ⟨p,7,none⟩ _ b hb
 have hw:∀V:Nat->Prop,(∀b,V b->b≠p)->Turned (Off w' V) w' (w'.setCell ⟨p,7,none⟩ (.pointer (some ⟨t,0,none⟩))):=λV hV=>(Turned.refl _ w').setCell (λhp=>⟨hp,λk=>hV p k rfl⟩) _
 refine ⟨⟨t,f,X,New w w',Z,⟨?_,?_,?_,?_,λb k=>?_,λb k=>?_,λb k=>?_⟩,λb k=>?_⟩,⟨hb.os,hb.tape,hb.output,by omega,λi hi k=>?_⟩⟩
 . rw[heap_setCell_same w' p 7 _ _ _ h3.self];simp[PS.cells]
 . exact (h3.chip.grow (hw X λb k=>(h3.xy b k).2.2.1)).less λb k=>.inl ⟨by rw[<- hz];exact k.1,k.2⟩
 . have h4:Tab w' t (Off w' (New w w')) T:=ht.less λb k=>by
    rcases Nat.lt_or_ge b w.heap.size with e | e
    . exact e
    . exact absurd ⟨e,k.1⟩ k.2
   exact (h4.grow (hw (New w w') λb k=>by have:=k.1;omega)).less λb k=>.inl ⟨by rw[<- hz];exact k.1,k.2⟩
 . exact (h3.fresh.grow (hw Z λb k=>(h3.zp b k).1)).less λb k=>.inl ⟨by rw[<- hz];exact k.1,k.2⟩
 . rw[hz]
   have h5:=h1.xy b k
   exact ⟨λe=>by have:=e.1;omega,h5.2.1,h5.2.2.1,by omega⟩
 . rw[hz]
   exact ⟨λe=>by have:=(h1.zp b e).2;have:=k.1;omega,by have:=k.1;omega,k.2⟩
 . rw[hz]
   have h5:=h1.zp b k
   exact ⟨h5.1,by omega⟩
 . rw[hz]
   obtain ⟨a,b1,c1,d,e⟩:=h2 b k
   exact ⟨by omega,b1,λe=>by have:=e.1;omega,d,e⟩
 . exact (hf i λe=>k λhx=>(h2 i hx).2.2.2.2 e).trans (hb.block i hi)
theorem zHs (h:Pool w p c x Q):Calls Tryz.prog 58 #[.pointer (some ⟨p,0,none⟩)] w λe w'=>e=.returned (.bool Q.gone.down)/\Pool w' p c x Q.gone/\Safe x w w':=by
 obtain ⟨l,f,hp⟩:=h.parts
 have HR:=hI (Pool.set (j:=11) (u:=.bool (Q.down||Q.S.dark)) (Q':=Q.gone) h rfl rfl rfl (λl f=>by simp[PS.cells,PS.gone]))
 obtain ⟨l2,f2,hp2⟩:=HR.out.1.parts
 have c11:=hp.c11
 have c0:=hp.c0
 have fr:=hp.fr 11
 have d11:=hp2.c11
 have HC:=hI hp.chip
 clear h hp hp2
 cases hd:Q.down with
 | true =>
  have HD:Hid ((Q.down||Q.S.dark)=true):=hI (by rw[hd];rfl)
  have HG:Hid (Q.gone.down=true):=HD
  rw[HG.out] at d11 ⊢
  rw[HD.out] at HR d11
  rw[hd] at c11
  clear hd
  go_enter Tryz.func58,Tryz.ntmps58
  go_wp2_with fail
  go_ret
  exact ⟨rfl,HR.out.1,HR.out.2⟩
 | false =>
  have HD:Hid ((Q.down||Q.S.dark)=Q.S.dark):=hI (by rw[hd];rfl)
  have HG:Hid (Q.gone.down=Q.S.dark):=HD
  rw[HG.out] at d11 ⊢
  rw[HD.out] at HR d11
  rw[hd] at c11
  clear hd
  go_enter Tryz.func58,Tryz.ntmps58
  go_wp2_with (go_at_call 18;refine (zNu HC.out).mono ?_;rintro e w1 ⟨rfl,rfl⟩)
  go_ret
  exact ⟨rfl,HR.out.1,HR.out.2⟩
theorem zRi (h:Pool w p c x Q):Calls Tryz.prog 12 #[.pointer (some ⟨p,0,none⟩)] w λe w'=>e=.returned (.tuple #[])/\Pool w' p c x Q.undo/\Safe x w w':=by
 have HP:=hI h
 obtain ⟨l,f,hp⟩:=h.parts
 have HFr:Hid (∀W,Below w.heap.size w W->W.frozen? ⟨p,8,none⟩=false):=hI λW hb=>(hp.below hb).fr 8
 have HC:Hid (∀W,Below w.heap.size w W->W.cell? ⟨p,8,none⟩=some (.pointer (some ⟨f,0,none⟩))):=hI λW hb=>(hp.below hb).c8
 clear h hp
 go_enter Tryz.func12,Tryz.ntmps12
 go_wp2_with (go_at_call 43;refine (zEp _).mono ?_;rintro e w1 ⟨t,rfl,ht,hb1⟩;have HT:=hI ht;have HB:=hI hb1;have fr:=HFr.out w1 hb1;have c8:=HC.out w1 hb1;clear ht hb1)
 go_end0
 exact ⟨rfl,Pool.freshen HP.out HB.out HT.out⟩
end
end
section
open Go.RowKit
section
variable {w w':World} {p c l f:Nat} {x X Y Z:Nat->Prop} {Q:PS} {T:List Fd}
theorem q_at (r:P2) (h:Parts w p c l f Q) (ok:Ok Q) (hr:WfP r):Calls Tryz.prog 57 #[.pointer (some ⟨p,0,none⟩),P2V r] w λe w'=>e=.returned (.tuple #[P2V ((Q.at r).getD (0,0)),.bool (Q.at r).isSome])/\Below w.heap.size w w':=by
 have HR:=hI hr
 obtain ⟨W,hW⟩:∃W,(w.alloc (.cells #[.int .i64 r.1,.int .i64 r.2] 33)).alloc (.cells #[.int .i64 0,.int .i64 0] 69)=W:=⟨_,rfl⟩
 have HB:Hid (Below w.heap.size w W):=hI (by rw[<- hW];exact (bR.alloc nL _).alloc (by simp) _)
 have HW:Hid (W.heap[w.heap.size]? = some (.cells #[.int .i64 r.1,.int .i64 r.2] 33 (0,0))):=hI (by rw[<- hW];exact (qF _ _ (by simp)).trans (heap_alloc_new w _))
 have HW2:Hid (W.heap[w.heap.size+1]? = some (.cells #[.int .i64 0,.int .i64 0] 69 (0,0))):=hI (by rw[<- hW];have:=heap_alloc_new (w.alloc (.cells #[.int .i64 r.1,.int .i64 r.2] 33)) (.cells #[.int .i64 0,.int .i64 0] 69);simpa using this)
 have HPlt:Hid (p<w.heap.size):=hI h.lt
 have HP:=hI (h.below HB.out)
 have HL:Hid (Q.L.length<=1000/\Q.F.length<=1000):=hI (by have:=ok.tabs;omega)
 have c8:=HP.out.c8
 obtain ⟨e0,e1,-,-⟩:=qG HW.out
 obtain ⟨f0,f1,fr0,fr1⟩:=qG HW2.out
 have HS:Hid (∀V,Below W.heap.size W V->V.cell? ⟨p,8,none⟩=some (.pointer (some ⟨f,0,none⟩))/\V.cell? ⟨w.heap.size,0,none⟩=some (.int .i64 r.1)/\V.cell? ⟨w.heap.size,1,none⟩=some (.int .i64 r.2)):=hI λV hV=>⟨(HP.out.below hV).c8,(hV.cell (p:=⟨w.heap.size,0,none⟩) (qD HW.out)).trans e0,(hV.cell (p:=⟨w.heap.size,1,none⟩) (qD HW.out)).trans e1⟩
 clear h ok hr
 have HBR:Hid (∀V,Below W.heap.size W V->V.heap[w.heap.size+1]? = some (.cells #[.int .i64 0,.int .i64 0] 69 (0,0))):=hI λV hV=>(hV.block _ (qD HW2.out)).trans HW2.out
 have HS7:Hid (∀V,Below W.heap.size W V->V.cell? ⟨p,7,none⟩=some (.pointer (some ⟨l,0,none⟩))/\V.cell? ⟨w.heap.size,0,none⟩=some (.int .i64 r.1)/\V.cell? ⟨w.heap.size,1,none⟩=some (.int .i64 r.2)):=hI λV hV=>⟨(HP.out.below hV).c7,(HS.out V hV).2⟩
 have HS7b:Hid (∀(a b:Value) (V:World),Below W.heap.size W V->(((V.setCell ⟨w.heap.size+1,0,none⟩ a).setCell ⟨w.heap.size+1,1,none⟩ b).cell? ⟨p,7,none⟩=some (.pointer (some ⟨l,0,none⟩))/\((V.setCell ⟨w.heap.size+1,0,none⟩ a).setCell ⟨w.heap.size+1,1,none⟩ b).cell? ⟨w.heap.size,0,none⟩=some (.int .i64 r.1)/\((V.setCell ⟨w.heap.size+1,0,none⟩ a).setCell ⟨w.heap.size+1,1,none⟩ b).cell? ⟨w.heap.size,1,none⟩=some (.int .i64 r.2))):=hI λa b V hV=>by
  have far:∀g,g≠w.heap.size+1->((V.setCell ⟨w.heap.size+1,0,none⟩ a).setCell ⟨w.heap.size+1,1,none⟩ b).heap[g]? = V.heap[g]? := λg hg=>(Below.heap_setCell _ ⟨w.heap.size+1,1,none⟩ b g hg).trans (Below.heap_setCell V ⟨w.heap.size+1,0,none⟩ a g hg)
  obtain ⟨k1,k2,k3⟩:=HS7.out V hV
  exact ⟨(World.cell?_of_block (a:=⟨p,7,none⟩) (far p (by have:=HPlt.out;omega))).trans k1,(World.cell?_of_block (a:=⟨w.heap.size,0,none⟩) (far _ (by simp))).trans k2,(World.cell?_of_block (a:=⟨w.heap.size,1,none⟩) (far _ (by simp))).trans k3⟩
 cases hF:atT Q.F r with
 | some s =>
  have HF:=hI hF
  have HE:Hid (Q.at r=some s):=hI (by unfold PS.at;rw[hF];rfl)
  rw[HE.out]
  clear hF
  go_enter Tryz.func57,Tryz.ntmps57
  go_upto_region 1 with fail
  go_region_held3 (λV=>V.cell? ⟨p,8,none⟩=some (.pointer (some ⟨f,0,none⟩))/\V.cell? ⟨w.heap.size,0,none⟩=some (.int .i64 r.1)/\V.cell? ⟨w.heap.size,1,none⟩=some (.int .i64 r.2))
   (first | exact ⟨c8,e0,e1⟩ | exact HS.out _ HBB.out | exact HS.out _ (HBB.out.alloc HBB.out.size _) | exact HS.out _ (bR.alloc nL _).drew | exact HS.out _ (bR.alloc nL _) | exact HS.out _ ((HBB.out.setCell nL _).setCell nL _))
   (first
    | (go_at_call 92;(with_reducible refine (zAx r (HP.out.fresh.below bR.drew) HL.out.2 HR.out).mono ?_);rintro e w2 ⟨rfl,hb2⟩;rw[HF.out];have HBB:Hid (Below W.heap.size W w2):=hI (bR.drew.trans hb2))
    | (go_at_call 92;(with_reducible refine (zAx r (HP.out.fresh.below (bR.alloc nL _).drew) HL.out.2 HR.out).mono ?_);rintro e w2 ⟨rfl,hb2⟩;rw[HF.out];have HBB:Hid (Below W.heap.size W w2):=hI ((bR.alloc nL _).drew.trans (hb2.mono (by simp)));obtain ⟨n0,n1,n2,n3⟩:=qG ((hb2.block W.heap.size (by simp)).trans (heap_alloc_new W _))))
  . obtain ⟨V,hV⟩:∃V,w2.alloc (.cells #[.int .i64 s.1,.int .i64 s.2] 69)=V:=⟨_,rfl⟩
    have HBV:Hid (Below W.heap.size W V):=hI (by rw[<- hV];exact HBB.out.alloc HBB.out.size _)
    have hg:V.heap[w2.heap.size]? = some (.cells #[.int .i64 s.1,.int .i64 s.2] 69 (0,0)):=by rw[<- hV];exact heap_alloc_new w2 _
    rw[hV]
    obtain ⟨g0,g1,-,-⟩:=qG hg
    generalize w2.heap.size=gz at *
    clear hV hg hb2
    have hr1:=(HBR.out V HBV.out)
    obtain ⟨f0,f1,fr0,fr1⟩:=qG hr1
    have HRS:=hI hr1
    clear hr1
    obtain ⟨m0,m1,-,-⟩:=qG (vB HRS.out (.int .i64 s.1) (.int .i64 s.2))
    go_wp2_with fail
    refine bodyPost_ret (by simp[results,Tryz.results57,go_sem,m0,m1];try rfl) rfl ?_
    exact ⟨rfl,((HB.out.trans (HBV.out.mono HB.out.size)).setCell (by simp) _).setCell (by simp) _⟩
  . obtain ⟨V,hV⟩:∃V,(w2.setCell ⟨W.heap.size,0,none⟩ (.int .i64 s.1)).setCell ⟨W.heap.size,1,none⟩ (.int .i64 s.2)=V:=⟨_,rfl⟩
    have HBV:Hid (Below W.heap.size W V):=hI (by rw[<- hV];exact (HBB.out.setCell nL _).setCell nL _)
    have hg:V.heap[W.heap.size]? = some (.cells #[.int .i64 s.1,.int .i64 s.2] 69 (0,0)):=by rw[<- hV];exact vB ((hb2.block W.heap.size (by simp)).trans (heap_alloc_new W _)) _ _
    rw[hV]
    obtain ⟨g0,g1,-,-⟩:=qG hg
    generalize W.heap.size=gz at g0 g1 ⊢
    clear hV hg hb2 n0 n1 n2 n3
    have hr1:=(HBR.out V HBV.out)
    obtain ⟨f0,f1,fr0,fr1⟩:=qG hr1
    have HRS:=hI hr1
    clear hr1
    obtain ⟨m0,m1,-,-⟩:=qG (vB HRS.out (.int .i64 s.1) (.int .i64 s.2))
    go_wp2_with fail
    refine bodyPost_ret (by simp[results,Tryz.results57,go_sem,m0,m1];try rfl) rfl ?_
    exact ⟨rfl,((HB.out.trans (HBV.out.mono HB.out.size)).setCell (by simp) _).setCell (by simp) _⟩
 | none =>
  have HF:=hI hF
  have HE:Hid (Q.at r=atT Q.L r):=hI (by unfold PS.at;rw[hF];rfl)
  rw[HE.out]
  clear hF
  go_enter Tryz.func57,Tryz.ntmps57
  go_upto_region 1 with fail
  go_region_held3 (λV=>V.cell? ⟨p,8,none⟩=some (.pointer (some ⟨f,0,none⟩))/\V.cell? ⟨w.heap.size,0,none⟩=some (.int .i64 r.1)/\V.cell? ⟨w.heap.size,1,none⟩=some (.int .i64 r.2))
   (first | exact ⟨c8,e0,e1⟩ | exact HS.out _ HBB.out | exact HS.out _ (HBB.out.alloc HBB.out.size _) | exact HS.out _ (bR.alloc nL _).drew | exact HS.out _ (bR.alloc nL _) | exact HS.out _ ((HBB.out.setCell nL _).setCell nL _))
   (first
    | (go_at_call 92;(with_reducible refine (zAx r (HP.out.fresh.below bR.drew) HL.out.2 HR.out).mono ?_);rintro e w2 ⟨rfl,hb2⟩;rw[HF.out];have HBB:Hid (Below W.heap.size W w2):=hI (bR.drew.trans hb2))
    | (go_at_call 92;(with_reducible refine (zAx r (HP.out.fresh.below (bR.alloc nL _).drew) HL.out.2 HR.out).mono ?_);rintro e w2 ⟨rfl,hb2⟩;rw[HF.out];have HBB:Hid (Below W.heap.size W w2):=hI ((bR.alloc nL _).drew.trans (hb2.mono (by simp)));obtain ⟨n0,n1,n2,n3⟩:=qG ((hb2.block W.heap.size (by simp)).trans (heap_alloc_new W _))))
  . obtain ⟨V,hV⟩:∃V,w2.alloc (.cells #[.int .i64 0,.int .i64 0] 69)=V:=⟨_,rfl⟩
    have HBV:Hid (Below W.heap.size W V):=hI (by rw[<- hV];exact HBB.out.alloc HBB.out.size _)
    have hg:V.heap[w2.heap.size]? = some (.cells #[.int .i64 0,.int .i64 0] 69 (0,0)):=by rw[<- hV];exact heap_alloc_new w2 _
    rw[hV]
    obtain ⟨g0,g1,-,-⟩:=qG hg
    generalize w2.heap.size=gz at *
    clear hV hg hb2
    have hr1:=(HBR.out V HBV.out)
    obtain ⟨f0,f1,fr0,fr1⟩:=qG hr1
    have HRS:=hI hr1
    clear hr1
    obtain ⟨c7,e0,e1⟩:=HS7.out V HBV.out
    have HV2:Hid (∀v0 v1:Int,∀V2,Below W.heap.size W V2->((V2.setCell ⟨w.heap.size+1,0,none⟩ (.int .i64 v0)).setCell ⟨w.heap.size+1,1,none⟩ (.int .i64 v1)).heap[w.heap.size+1]? = some (.cells #[.int .i64 v0,.int .i64 v1] 69 (0,0))):=hI λv0 v1 V2 h2=>vB (HBR.out V2 h2) _ _
    go_upto_region 4 with fail
    go_region_held3 (λV=>V.cell? ⟨p,7,none⟩=some (.pointer (some ⟨l,0,none⟩))/\V.cell? ⟨w.heap.size,0,none⟩=some (.int .i64 r.1)/\V.cell? ⟨w.heap.size,1,none⟩=some (.int .i64 r.2))
     (first | exact ⟨c7,e0,e1⟩ | exact HS7.out _ HB9.out | exact HS7b.out _ _ _ HB9.out)
     (first
      | (go_at_call 92;(with_reducible refine (zAx r (HP.out.live.below HBV.out.drew) HL.out.1 HR.out).mono ?_);rintro e w9 ⟨rfl,hb9⟩;have HB9:Hid (Below W.heap.size W w9):=hI (HBV.out.drew.trans (hb9.mono HBV.out.size));obtain ⟨q0,q1,q2,q3⟩:=qG (HBR.out w9 HB9.out);obtain ⟨m0,m1,-,-⟩:=qG (HV2.out ((atT Q.L r).getD (0,0)).1 ((atT Q.L r).getD (0,0)).2 w9 HB9.out)))
    go_wp2_with fail
    refine bodyPost_ret (by simp[results,Tryz.results57,go_sem,m0,m1];try rfl) rfl ?_
    exact ⟨rfl,((HB.out.trans (HB9.out.mono HB.out.size)).setCell (by simp) _).setCell (by simp) _⟩
  . obtain ⟨V,hV⟩:∃V,(w2.setCell ⟨W.heap.size,0,none⟩ (.int .i64 0)).setCell ⟨W.heap.size,1,none⟩ (.int .i64 0)=V:=⟨_,rfl⟩
    have HBV:Hid (Below W.heap.size W V):=hI (by rw[<- hV];exact (HBB.out.setCell nL _).setCell nL _)
    have hg:V.heap[W.heap.size]? = some (.cells #[.int .i64 0,.int .i64 0] 69 (0,0)):=by rw[<- hV];exact vB ((hb2.block W.heap.size (by simp)).trans (heap_alloc_new W _)) _ _
    rw[hV]
    obtain ⟨g0,g1,-,-⟩:=qG hg
    generalize W.heap.size=gz at g0 g1 ⊢
    clear hV hg hb2 n0 n1 n2 n3
    have hr1:=(HBR.out V HBV.out)
    obtain ⟨f0,f1,fr0,fr1⟩:=qG hr1
    have HRS:=hI hr1
    clear hr1
    obtain ⟨c7,e0,e1⟩:=HS7.out V HBV.out
    have HV2:Hid (∀v0 v1:Int,∀V2,Below W.heap.size W V2->((V2.setCell ⟨w.heap.size+1,0,none⟩ (.int .i64 v0)).setCell ⟨w.heap.size+1,1,none⟩ (.int .i64 v1)).heap[w.heap.size+1]? = some (.cells #[.int .i64 v0,.int .i64 v1] 69 (0,0))):=hI λv0 v1 V2 h2=>vB (HBR.out V2 h2) _ _
    go_upto_region 4 with fail
    go_region_held3 (λV=>V.cell? ⟨p,7,none⟩=some (.pointer (some ⟨l,0,none⟩))/\V.cell? ⟨w.heap.size,0,none⟩=some (.int .i64 r.1)/\V.cell? ⟨w.heap.size,1,none⟩=some (.int .i64 r.2))
     (first | exact ⟨c7,e0,e1⟩ | exact HS7.out _ HB9.out | exact HS7b.out _ _ _ HB9.out)
     (first
      | (go_at_call 92;(with_reducible refine (zAx r (HP.out.live.below HBV.out.drew) HL.out.1 HR.out).mono ?_);rintro e w9 ⟨rfl,hb9⟩;have HB9:Hid (Below W.heap.size W w9):=hI (HBV.out.drew.trans (hb9.mono HBV.out.size));obtain ⟨q0,q1,q2,q3⟩:=qG (HBR.out w9 HB9.out);obtain ⟨m0,m1,-,-⟩:=qG (HV2.out ((atT Q.L r).getD (0,0)).1 ((atT Q.L r).getD (0,0)).2 w9 HB9.out)))
    go_wp2_with fail
    refine bodyPost_ret (by simp[results,Tryz.results57,go_sem,m0,m1];try rfl) rfl ?_
    exact ⟨rfl,((HB.out.trans (HB9.out.mono HB.out.size)).setCell (by simp) _).setCell (by simp) _⟩
end
end
section
open Go.RowKit
theorem zIt (l:List Bk):∀i∈qK l,∃k:Nat,k<l.length/\i=(k:Int):=by
 have key:∀(l:List Bk) (b:Nat),∀i∈qV b l,∃k:Nat,k<b+l.length/\i=(k:Int):=by
  intro l
  induction l with
  | nil=>intro b i hi;cases hi
  | cons x r ih =>
   intro b i hi
   unfold qV at hi
   split at hi
   . rcases List.mem_cons.1 hi with e | e
     . exact ⟨b,by simp,e⟩
     . obtain ⟨k,h1,h2⟩:=ih _ i e
       exact ⟨k,by simp;omega,h2⟩
   . obtain ⟨k,h1,h2⟩:=ih _ i hi
     exact ⟨k,by simp;omega,h2⟩
 intro i hi
 obtain ⟨k,h1,h2⟩:=key l 0 i hi
 exact ⟨k,by omega,h2⟩
def zSg (l:List Bk) (op:Int) (j:Nat):List Bool:=((qK l).take j).foldl (λa i=>a.set i.toNat (i != op)) (List.replicate l.length false)
theorem fold_len (L:List Int) (op:Int):∀a:List Bool,(L.foldl (λa i=>a.set i.toNat (i != op)) a).length=a.length:=by
 induction L with
 | nil=>intro a;rfl
 | cons x r ih=>intro a;rw[List.foldl_cons,ih,List.length_set]
theorem zEu (l:List Bk) (op:Int) (j:Nat):(zSg l op j).length=l.length:=by unfold zSg;rw[fold_len,List.length_replicate]
theorem zNo (l:List Bk) (op:Int):zSg l op 0=List.replicate l.length false:=rfl
theorem zSf (l:List Bk) (op:Int):zSg l op (qK l).length=vQ l op:=by unfold zSg vQ;rw[List.take_length]
theorem zNp {l:List Bk} {op:Int} {j k:Nat} (h:j<(qK l).length) (e:(qK l)[j]=(k:Int)):zSg l op (j+1)=(zSg l op j).set k ((k:Int) != op):=by
 unfold zSg
 rw[List.take_succ_eq_append_getElem h,List.foldl_append,e]
 rfl
section
variable {w w':World} {p c l f:Nat} {x X Y Z:Nat->Prop} {Q:PS} {T:List Fd}
theorem vd {F:Nat->Prop} {n:Nat} {a b:World} (hb:Below n w a) (ht:Turned F a b) (hn:n<=a.heap.size) (hF:∀k,F k->n<=k):Below n w b :=
 ⟨ht.os.trans hb.os,ht.tape.trans hb.tape,ht.output.trans hb.output,Nat.le_trans hb.size ht.size,λi hi=>(ht.block i (Nat.lt_of_lt_of_le hi hn) λk=>by have:=hF i k;omega).trans (hb.block i hi)⟩
theorem zNq {F:Nat->Prop} {a b:World} {A:Option Addr} {L:List Int} (h:IA a A L) (ht:Turned F a b) (hF:∀ad,A=some ad->¬F ad.block):IA b A L:=λhn=>by
 obtain ⟨B,o,e,hB,hc⟩:=h hn
 have:=ht.block B hB (hF _ e)
 exact ⟨B,o,e,Nat.lt_of_lt_of_le hB ht.size,λj hj=>(World.cell?_of_block (a:=⟨B,o+j,none⟩) this).trans (hc j hj)⟩
theorem zAs {F:Nat->Prop} {a b:World} {A:Option Addr} {L:List Bk} (h:BLies a A L) (ht:Turned F a b) (hF:∀ad,A=some ad->¬F ad.block):BLies b A L:=λhn=>by
 obtain ⟨B,o,e,hB,hc⟩:=h hn
 exact ⟨B,o,e,Nat.lt_of_lt_of_le hB ht.size,λj hj=>(hc j hj).kept (ht.block B hB (hF _ e))⟩
theorem zAa (ad:Addr) (n:Nat):zHh (some ad) n n:=⟨Nat.le_refl _,λe=>by cases e⟩
theorem cold_n {n:Nat} (A A':Option Addr) (c c':Nat) (C:List Int) (b:List Bool) (w:World) (h1:C.length=n) (h2:b.length=n) (hn:n<=1000) (hA:IA w A C) (hA':BA w A' b) (hw:∀x∈C,(Lit.int .i64 x).wf=true) (hR:zHh A' c' n) :
 Calls Tryz.prog 147 #[.slice A n c,.slice A' n c'] w λe w'=>e=.returned (.int .i64 (zCb (C.zip b)))/\Below w.heap.size w w':=by
 have:=zTa A A' c c' C b w (by omega) (by omega) hA hA' hw (by rw[h2];exact hR)
 rw[h1,h2] at this;exact this
theorem hot_n {n:Nat} (A A':Option Addr) (c c':Nat) (C:List Int) (b:List Bool) (w:World) (h1:C.length=n) (h2:b.length=n) (hn:n<=1000) (hA:IA w A C) (hA':BA w A' b) (hw:∀x∈C,(Lit.int .i64 x).wf=true) (hR:zHh A' c' n) :
 Calls Tryz.prog 188 #[.slice A n c,.slice A' n c'] w λe w'=>e=.returned (.int .i64 (hotP (C.zip b)))/\Below w.heap.size w w':=by
 have:=hot_any A A' c c' C b w (by omega) (by omega) hA hA' hw (by rw[h2];exact hR)
 rw[h1,h2] at this;exact this
theorem due_n {n:Nat} (A A':Option Addr) (c c':Nat) (C:List Int) (b:List Bool) (w:World) (most:Int) (hm:(Lit.int .i64 most).wf=true) (h1:C.length=n) (h2:b.length=n) (hn:n<=1000) (hA:IA w A C) (hA':BA w A' b) (hw:∀x∈C,(Lit.int .i64 x).wf=true) (hR:zHh A' c' n) :
 Calls Tryz.prog 195 #[.slice A n c,.slice A' n c',.int .i64 most] w λe w'=>e=.returned (.int .i64 (dueP (C.zip b) most))/\Below w.heap.size w w':=by
 have:=due_any A A' c c' C b w (by omega) (by omega) hA hA' hw (by rw[h2];exact hR) most hm
 rw[h1,h2] at this;exact this
theorem q_cold (h:Parts w p c l f Q) (ok:Ok Q):Calls Tryz.prog 146 #[.pointer (some ⟨p,0,none⟩),.func (.func 147) #[] #[]] w λe w'=>e=.returned (.int .i64 (Q.clean false))/\Below w.heap.size w w':=by
 have HP:=hI h
 have HB1:Hid (1<=Q.S.bl.length):=hI (by have:=ok.lenN;omega)
 have HLn:Hid (Q.S.bl.length<=1000):=hI (by have:=ok.lenN;omega)
 have c0:=h.c0
 have hmk:=λw1:World=>zDr Q.S.bl.length (by have:=ok.lenN;omega) w1
 have HW:Hid (∀x∈Q.counts,(Lit.int .i64 x).wf=true):=hI λx hx=>by
  obtain ⟨b,hb,rfl⟩:=List.mem_map.1 hx
  exact ok.cnt b hb
 have HE:=hI (zDs Q.S.bl.length)
 have HM:=hI (zIt Q.S.bl)
 have HC:Hid (Q.clean false=zCb (Q.counts.zip (vQ Q.S.bl Q.op))):=hI rfl
 have hcl:=zGm Q.S.bl
 have hln:=HLn.out
 clear h ok
 go_enter Tryz.func146,Tryz.ntmps146
 go_upto_region 3 with (go_at_call 21;refine (vR HP.out.chip HB1.out).mono ?_;rintro e w1 ⟨g,cap,rfl,hl1,hb1⟩;have HL1:=hI hl1;have HBw1:=hI hb1;clear hl1 hb1)
 rw[HE.out]
 obtain ⟨G,hG⟩:∃G,G=w1.heap.size:=⟨_,rfl⟩
 have HX0:=hI (heap_alloc_new w1 (.cells ((List.replicate Q.S.bl.length false).map Value.bool).toArray 4))
 have HB0:=hI (HBw1.out.alloc HBw1.out.size (.cells ((List.replicate Q.S.bl.length false).map Value.bool).toArray 4))
 have HL2:=hI (HL1.out.below (bR.alloc nL (.cells ((List.replicate Q.S.bl.length false).map Value.bool).toArray 4)))
 have HG:Hid (w.heap.size<=G):=hI (by rw[hG];exact HBw1.out.size)
 have HgG:Hid (¬g=G):=hI (by obtain ⟨B,o,e,hB,-⟩:=HL1.out (by have:=HB1.out;omega);cases e;omega)
 rw[<- hG] at HX0 ⊢
 generalize w1.alloc (.cells _ 4)=w2 at HX0 HB0 HL2 ⊢
 clear hmk hG HL1 HBw1
 go_wp2_with (go_at_call 75;refine (ym _ _ _ _ HLn.out HL2.out).mono ?_;rintro e w3 ⟨A2,m2,rfl,hc2,ha2,hb2⟩;have HX3:=hI ((hb2.block G (qD HX0.out)).trans HX0.out);have HB3:=hI (HB0.out.trans (hb2.mono HB0.out.size));have HL3:=hI (HL2.out.below hb2);have HC3:=hI hc2;have HA3:Hid (∀ad,A2=some ad->¬ad.block=G):=hI (λad e=>by have:=ha2 ad e;have:=qD HX0.out;omega);clear hc2 ha2 hb2)
 have HT0:=hI (Turned.refl (λb=>b=G) w3)
 have hs3:=HB3.out.size
 go_loopw [8,20] (λ_ v20 wr=>∃j:Nat,j<=(qK Q.S.bl).length/\v20=.int .i64 j/\wr.heap[G]? = some (.cells ((zSg Q.S.bl Q.op j).map Value.bool).toArray 4 (0,0))/\Turned (λb=>b=G) w3 wr) (λ_ v20 _=>(qK Q.S.bl).length - (intOf v20).toNat)
 case atStart=>exact ⟨0,Nat.zero_le _,rfl,by rw[zNo];exact HX3.out,HT0.out⟩
 case round =>
  obtain ⟨j,hj,rfl,hx,hT⟩:=hrel
  have HX:=hI hx
  have HT:=hI hT
  have HB:=hI (vd HB3.out hT hs3 (λk e=>by rw[e];exact HG.out))
  clear hx hT
  by_cases hj1:j<(qK Q.S.bl).length
  . obtain ⟨B,o,rfl,hBs,hc⟩:=(zNq HC3.out HT.out λad e=>HA3.out ad e) (by omega)
    have k0:=hc j hj1
    obtain ⟨k,hk,hke⟩:=HM.out _ (List.getElem_mem hj1)
    have hkl:k<(zSg Q.S.bl Q.op j).length:=by rw[zEu];exact hk
    have HN:=hI (zNp (op:=Q.op) hj1 hke)
    rw[hke] at k0
    have q0:=zAq HX.out k hkl
    have q1:=yq HX.out k
    have c10:=(HP.out.below HB.out).c10
    have HXN:=hI (zEz HX.out k ((k:Int) != Q.op))
    rw[<- HN.out] at HXN
    clear hc hke
    generalize (zSg Q.S.bl Q.op j)[k]=old at q0
    go_wp2_with fail
    go_roundw
    case rel=>exact ⟨j+1,by omega,by go_num,HXN.out,HT.out.setCell (λ_=>rfl) _⟩
    case measure=>simp[intOf];omega
  . obtain rfl:j=(qK Q.S.bl).length:=by omega
    have HZ:=hI (zSf Q.S.bl Q.op)
    have HLr:=hI (zAs HL3.out HT.out λad e=>by cases e;exact HgG.out)
    have HI:Hid (BA wr (some ⟨G,0,none⟩) (vQ Q.S.bl Q.op)):=hI (by rw[<- HZ.out];exact zBf HX.out)
    have hlen:Hid (Q.S.bl.length=(vQ Q.S.bl Q.op).length):=hI (by rw[<- HZ.out,zEu])
    have hcn:Hid (Q.counts.length=Q.S.bl.length):=hI (by simp[PS.counts])
    go_wp2_with (first
     | (go_at_call 78;(with_reducible refine (zEa _ _ _ _ HLn.out HLr.out).mono ?_);rintro e w4 ⟨A4,m4,rfl,hc4,ha4,hb4⟩;have HC4:=hI hc4;have HB4:=hI hb4;clear hc4 ha4 hb4)
     | (go_at_call 147;(with_reducible refine (cold_n _ _ _ _ Q.counts (vQ Q.S.bl Q.op) _ hcn.out hlen.out.symm HLn.out HC4.out (HI.out.below HB4.out) HW.out (zAa _ _)).mono ?_);rintro e w5 ⟨rfl,hb5⟩))
    go_ret
    exact ⟨ret_int HC.out.symm,(HB.out.trans (HB4.out.mono HB.out.size)).trans (hb5.mono (Nat.le_trans HB.out.size HB4.out.size))⟩
theorem q_hot (h:Parts w p c l f Q) (ok:Ok Q):Calls Tryz.prog 146 #[.pointer (some ⟨p,0,none⟩),.func (.func 188) #[] #[]] w λe w'=>e=.returned (.int .i64 (Q.clean true))/\Below w.heap.size w w':=by
 have HP:=hI h
 have HB1:Hid (1<=Q.S.bl.length):=hI (by have:=ok.lenN;omega)
 have HLn:Hid (Q.S.bl.length<=1000):=hI (by have:=ok.lenN;omega)
 have c0:=h.c0
 have hmk:=λw1:World=>zDr Q.S.bl.length (by have:=ok.lenN;omega) w1
 have HW:Hid (∀x∈Q.counts,(Lit.int .i64 x).wf=true):=hI λx hx=>by
  obtain ⟨b,hb,rfl⟩:=List.mem_map.1 hx
  exact ok.cnt b hb
 have HE:=hI (zDs Q.S.bl.length)
 have HM:=hI (zIt Q.S.bl)
 have HC:Hid (Q.clean true=hotP (Q.counts.zip (vQ Q.S.bl Q.op))):=hI rfl
 have hcl:=zGm Q.S.bl
 have hln:=HLn.out
 clear h ok
 go_enter Tryz.func146,Tryz.ntmps146
 go_upto_region 3 with (go_at_call 21;refine (vR HP.out.chip HB1.out).mono ?_;rintro e w1 ⟨g,cap,rfl,hl1,hb1⟩;have HL1:=hI hl1;have HBw1:=hI hb1;clear hl1 hb1)
 rw[HE.out]
 obtain ⟨G,hG⟩:∃G,G=w1.heap.size:=⟨_,rfl⟩
 have HX0:=hI (heap_alloc_new w1 (.cells ((List.replicate Q.S.bl.length false).map Value.bool).toArray 4))
 have HB0:=hI (HBw1.out.alloc HBw1.out.size (.cells ((List.replicate Q.S.bl.length false).map Value.bool).toArray 4))
 have HL2:=hI (HL1.out.below (bR.alloc nL (.cells ((List.replicate Q.S.bl.length false).map Value.bool).toArray 4)))
 have HG:Hid (w.heap.size<=G):=hI (by rw[hG];exact HBw1.out.size)
 have HgG:Hid (¬g=G):=hI (by obtain ⟨B,o,e,hB,-⟩:=HL1.out (by have:=HB1.out;omega);cases e;omega)
 rw[<- hG] at HX0 ⊢
 generalize w1.alloc (.cells _ 4)=w2 at HX0 HB0 HL2 ⊢
 clear hmk hG HL1 HBw1
 go_wp2_with (go_at_call 75;refine (ym _ _ _ _ HLn.out HL2.out).mono ?_;rintro e w3 ⟨A2,m2,rfl,hc2,ha2,hb2⟩;have HX3:=hI ((hb2.block G (qD HX0.out)).trans HX0.out);have HB3:=hI (HB0.out.trans (hb2.mono HB0.out.size));have HL3:=hI (HL2.out.below hb2);have HC3:=hI hc2;have HA3:Hid (∀ad,A2=some ad->¬ad.block=G):=hI (λad e=>by have:=ha2 ad e;have:=qD HX0.out;omega);clear hc2 ha2 hb2)
 have HT0:=hI (Turned.refl (λb=>b=G) w3)
 have hs3:=HB3.out.size
 go_loopw [8,20] (λ_ v20 wr=>∃j:Nat,j<=(qK Q.S.bl).length/\v20=.int .i64 j/\wr.heap[G]? = some (.cells ((zSg Q.S.bl Q.op j).map Value.bool).toArray 4 (0,0))/\Turned (λb=>b=G) w3 wr) (λ_ v20 _=>(qK Q.S.bl).length - (intOf v20).toNat)
 case atStart=>exact ⟨0,Nat.zero_le _,rfl,by rw[zNo];exact HX3.out,HT0.out⟩
 case round =>
  obtain ⟨j,hj,rfl,hx,hT⟩:=hrel
  have HX:=hI hx
  have HT:=hI hT
  have HB:=hI (vd HB3.out hT hs3 (λk e=>by rw[e];exact HG.out))
  clear hx hT
  by_cases hj1:j<(qK Q.S.bl).length
  . obtain ⟨B,o,rfl,hBs,hc⟩:=(zNq HC3.out HT.out λad e=>HA3.out ad e) (by omega)
    have k0:=hc j hj1
    obtain ⟨k,hk,hke⟩:=HM.out _ (List.getElem_mem hj1)
    have hkl:k<(zSg Q.S.bl Q.op j).length:=by rw[zEu];exact hk
    have HN:=hI (zNp (op:=Q.op) hj1 hke)
    rw[hke] at k0
    have q0:=zAq HX.out k hkl
    have q1:=yq HX.out k
    have c10:=(HP.out.below HB.out).c10
    have HXN:=hI (zEz HX.out k ((k:Int) != Q.op))
    rw[<- HN.out] at HXN
    clear hc hke
    generalize (zSg Q.S.bl Q.op j)[k]=old at q0
    go_wp2_with fail
    go_roundw
    case rel=>exact ⟨j+1,by omega,by go_num,HXN.out,HT.out.setCell (λ_=>rfl) _⟩
    case measure=>simp[intOf];omega
  . obtain rfl:j=(qK Q.S.bl).length:=by omega
    have HZ:=hI (zSf Q.S.bl Q.op)
    have HLr:=hI (zAs HL3.out HT.out λad e=>by cases e;exact HgG.out)
    have HI:Hid (BA wr (some ⟨G,0,none⟩) (vQ Q.S.bl Q.op)):=hI (by rw[<- HZ.out];exact zBf HX.out)
    have hlen:Hid (Q.S.bl.length=(vQ Q.S.bl Q.op).length):=hI (by rw[<- HZ.out,zEu])
    have hcn:Hid (Q.counts.length=Q.S.bl.length):=hI (by simp[PS.counts])
    go_wp2_with (first
     | (go_at_call 78;(with_reducible refine (zEa _ _ _ _ HLn.out HLr.out).mono ?_);rintro e w4 ⟨A4,m4,rfl,hc4,ha4,hb4⟩;have HC4:=hI hc4;have HB4:=hI hb4;clear hc4 ha4 hb4)
     | (go_at_call 188;(with_reducible refine (hot_n _ _ _ _ Q.counts (vQ Q.S.bl Q.op) _ hcn.out hlen.out.symm HLn.out HC4.out (HI.out.below HB4.out) HW.out (zAa _ _)).mono ?_);rintro e w5 ⟨rfl,hb5⟩))
    go_ret
    exact ⟨ret_int HC.out.symm,(HB.out.trans (HB4.out.mono HB.out.size)).trans (hb5.mono (Nat.le_trans HB.out.size HB4.out.size))⟩
theorem zKf (A:Option Addr) (c:Nat) (Q:PS) (w:World) (hl:Q.S.bl.length<=1000) (hA:BLies w A Q.S.bl):Calls Tryz.prog 78 #[.slice A Q.S.bl.length c] w λe w'=>∃A4 m4,e=.returned (.slice A4 Q.S.bl.length m4)/\IA w' A4 Q.counts/\(∀ad,A4=some ad->w.heap.size<=ad.block)/\Below w.heap.size w w':=by
 have:=zEa A c Q.S.bl w hl hA
 unfold zRa at this
 simpa[PS.counts] using this
theorem zSj (A:Option Addr) (c:Nat) (l:List Bk) (w:World) (hl:l.length<=1000) (hA:BLies w A l):Calls Tryz.prog 79 #[.slice A l.length c] w λe w'=>∃G,e=.returned (.slice (some ⟨G,0,none⟩) l.length l.length)/\w'.heap[G]? = some (.cells ((l.map λb:Bk => !b.bad).map Value.bool).toArray 4 (0,0))/\w.heap.size<=G/\Below w.heap.size w w':=by
 have HA:=hI hA
 clear hA
 have hmk:=λw1:World=>zDr l.length (by omega) w1
 have HX0:=hI (heap_alloc_new w (.cells (madeCells #[Value.bool false] l.length) 4))
 have HB0:=hI ((Below.refl w.heap.size w).alloc nL (.cells (madeCells #[Value.bool false] l.length) 4))
 have HE:=hI (zDs l.length)
 go_enter Tryz.func79,Tryz.ntmps79
 go_wp2_with fail
 rw[HE.out] at HX0 HB0 ⊢
 obtain ⟨G,hG⟩:∃G,G=w.heap.size:=⟨_,rfl⟩
 have HG:=hI hG
 rw[<- hG] at HX0 ⊢
 generalize w.alloc (.cells _ 4)=w1 at HX0 HB0 ⊢
 clear hmk hG
 go_loopw [4,11] (λ_ v11 wr=>∃j:Nat,j<=l.length/\v11=.int .i64 j/\wr.heap[G]? = some (.cells ((zAk (λb:Bk => !b.bad) false l j).map Value.bool).toArray 4 (0,0))/\Below w.heap.size w wr) (λ_ v11 _=>l.length - (intOf v11).toNat)
 case atStart=>exact ⟨0,Nat.zero_le _,rfl,by rw[zOc];exact HX0.out,HB0.out⟩
 case round =>
  obtain ⟨j,hj,rfl,hx,hB⟩:=hrel
  have HX:=hI hx
  have HB:=hI hB
  have hs:=hB.size
  have hGs:=(Array.getElem?_eq_some_iff.1 hx).1
  clear hx hB
  by_cases hj1:j<l.length
  . obtain ⟨B,o,rfl,hBs,hc⟩:=HA.out (by omega)
    obtain ⟨k0,k1,k2,A1,n1,c1,k3⟩:=(hc j hj1).kept (HB.out.block B hBs)
    have hjf:j<(zAk (λb:Bk => !b.bad) false l j).length:=by rw[zGd _ _ _ _ hj];exact hj1
    have HW1:=λcs:Array Value=>hI ((Below.refl wr.heap.size wr).alloc nL (.cells cs 101))
    clear hc
    have HN:=hI (zSq (λb:Bk => !b.bad) false l j hj1)
    generalize l[j]=b at k0 k1 k2 HN
    have hx2:(wr.alloc (.cells #[.bool b.bad,.int .i64 b.next,.int .i64 b.count,.slice A1 n1 c1] 101)).heap[G]? = some (.cells ((zAk (λb:Bk => !b.bad) false l j).map Value.bool).toArray 4 (0,0)):=(qF _ _ hGs).trans HX.out
    have q0:=zAq hx2 j hjf
    have q1:=yq hx2 j
    have HXN:=hI (zEz HX.out j (((λb:Bk => !b.bad):Bk->_) b))
    rw[HN.out] at HXN
    clear hx2
    generalize (zAk (λb:Bk => !b.bad) false l j)[j]=old at q0
    go_wp2_with fail
    go_roundw
    case rel=>exact ⟨j+1,by omega,by go_num,(qF _ _ (by simpa using hGs)).trans HXN.out,(HB.out.setCell (p:=⟨G,j,none⟩) (by rw[HG.out];exact Nat.le_refl _) _).alloc (by simp;omega) _⟩
    case measure=>simp[intOf];omega
  . obtain rfl:j=l.length:=by omega
    have HZ:=hI (zSr (λb:Bk => !b.bad) false l)
    go_wp2_with fail
    go_ret
    exact ⟨G,rfl,by rw[<- HZ.out];exact HX.out,by rw[HG.out];exact Nat.le_refl _,HB.out⟩
theorem zUd (h:Parts w p c l f Q) (ok:Ok Q):Calls Tryz.prog 187 #[.pointer (some ⟨p,0,none⟩)] w λe w'=>e=.returned (.int .i64 Q.due)/\Below w.heap.size w w':=by
 have HP:=hI h
 have HB1:Hid (1<=Q.S.bl.length):=hI (by have:=ok.lenN;omega)
 have HLn:Hid (Q.S.bl.length<=1000):=hI (by have:=ok.lenN;omega)
 have HW:Hid (∀x∈Q.counts,(Lit.int .i64 x).wf=true):=hI λx hx=>by
  obtain ⟨b,hb,rfl⟩:=List.mem_map.1 hx
  exact ok.cnt b hb
 have HU:Hid ((Lit.int .i64 Q.U).wf=true):=hI (yg (by have:=ok.may.2.2.2.2;omega))
 have HcN:Hid (Q.counts.length=Q.S.bl.length):=hI (by simp[PS.counts])
 have HiN:Hid ((zAf Q.S.bl Q.op).length=Q.S.bl.length):=hI (by unfold zAf;split<;>simp)
 have hop:=ok.op
 have hbl:=ok.len
 have c0:=h.c0
 clear h ok
 go_enter Tryz.func187,Tryz.ntmps187
 go_upto_region 3 with (first
  | (go_at_call 21;refine (vR HP.out.chip HB1.out).mono ?_;rintro e w1 ⟨g,cap,rfl,hl1,hb1⟩;have HL1:=hI hl1;have HBw1:=hI hb1;clear hl1 hb1)
  | (go_at_call 79;(with_reducible refine (zSj _ _ Q.S.bl _ HLn.out HL1.out).mono ?_);rintro e w2 ⟨G,rfl,hx2,hg2,hb2⟩;have HX2:=hI hx2;have HG:=hI (Nat.le_trans HBw1.out.size hg2);have HgG:Hid (¬g=G):=hI (by obtain ⟨B,o,e,hB,-⟩:=HL1.out (by have:=HB1.out;omega);cases e;omega);have HL2:=hI (HL1.out.below hb2);have HB2:=hI (HBw1.out.trans (hb2.mono HBw1.out.size));clear hx2 hg2 hb2))
 have c10:=(HP.out.below HB2.out).c10
 clear c0
 by_cases hop1:Q.op = -1
 . rw[hop1] at c10
   have HI2:Hid (BA w2 (some ⟨G,0,none⟩) (zAf Q.S.bl Q.op)):=hI (by unfold zAf;rw[if_pos hop1];exact zBf HX2.out)
   have HR:Hid (zHh (some ⟨G,0,none⟩) Q.S.bl.length Q.S.bl.length):=hI (zAa _ _)
   clear hop hop1 hbl
   go_upto_region 5 with fail
   obtain ⟨wz,hwz⟩:∃wz,wz=w2:=⟨_,rfl⟩
   have HPz:=hI (HP.out.below HB2.out)
   have HLz:=HL2
   have HIz:=HI2
   have HBz:=HB2
   rw[<- hwz] at HPz HLz HIz HBz ⊢
   clear hwz
   refine qR (λj v w'=>match j with | 0=>v=.slice (some ⟨g,0,none⟩) Q.S.bl.length cap | 1=>∃A4 m4,v=.slice A4 Q.S.bl.length m4/\IA w' A4 Q.counts | 2=>v=.slice (some ⟨G,0,none⟩) Q.S.bl.length Q.S.bl.length | 3=>v=.pointer (some ⟨p,0,none⟩) | 4=>v=.pointer (some ⟨p,0,none⟩) | 5=>v=.pointer (some ⟨p,1,none⟩) | 6=>v=.pointer (some ⟨p,5,none⟩) | 7=>v=.int .i64 Q.U | 8=>v=.int .i64 Q.due | 9=>v=.int .i64 Q.due | _=>True) (λ_ w'=>Below wz.heap.size wz w') (λw1 w2=>Below w1.heap.size w1 w2) (by kernel_rfl) (by kernel_rfl) (by kernel_rfl) ?hR ?hG ?hops ?hend
   case hR =>
    intro j v w1 w2 hv hb
    match j,hv with
    | 0,hv=>exact hv
    | 1,⟨A4,m4,e,h⟩=>exact ⟨A4,m4,e,h.below hb⟩
    | 2,hv | 3,hv | 4,hv | 5,hv | 6,hv | 7,hv | 8,hv | 9,hv=>exact hv
    | _+10,_=>exact trivial
   case hG=>exact bR.drew
   case hops =>
    refine oC ?_ (oC ?_ (oC ?_ (oC ?_ (oC ?_ (oC ?_ (oC ?_ (oC ?_ (oC ?_ (oC ?_ OpsOkS.nil)))))))))
    . intro a w1 ξ γ ν ω ζ ψ κ
      have e0:=og (v:=.slice (some ⟨g,0,none⟩) Q.S.bl.length cap) (ω 3 (by kernel_rfl))
      refine qB (v:=.slice (some ⟨g,0,none⟩) Q.S.bl.length cap) (qA rfl) ?_ (κ _ w1 rfl γ bR)
      simp[execOp,go_sem,e0]
    . intro a w1 ξ γ ν ω ζ ψ κ
      have e0:=og (v:=.slice (some ⟨g,0,none⟩) Q.S.bl.length cap) (ν 0 (by kernel_rfl) (by kernel_rfl))
      refine qM (qA rfl) (f:=78) (args:=#[.slice (some ⟨g,0,none⟩) Q.S.bl.length cap]) ?run ((zKf (some ⟨g,0,none⟩) cap Q w1 HLn.out (HLz.out.below γ)).mono ?post)
      case run=>simp[go_sem,e0]
      case post =>
       rintro e w2 ⟨A4,m4,rfl,hc4,ha4,hb2⟩
       exact ⟨_,rfl,κ _ w2 ⟨A4,m4,rfl,hc4⟩ (γ.trans (hb2.mono γ.size)) hb2⟩
    . intro a w1 ξ γ ν ω ζ ψ κ
      have e0:=og (v:=.slice (some ⟨G,0,none⟩) Q.S.bl.length Q.S.bl.length) (ω 4 (by kernel_rfl))
      refine qB (v:=.slice (some ⟨G,0,none⟩) Q.S.bl.length Q.S.bl.length) (qA rfl) ?_ (κ _ w1 rfl γ bR)
      simp[execOp,go_sem,e0]
    . intro a w1 ξ γ ν ω ζ ψ κ
      have e0:=og (v:=.pointer (some ⟨p,0,none⟩)) (ω 0 (by kernel_rfl))
      refine qB (v:=.pointer (some ⟨p,0,none⟩)) (qA rfl) ?_ (κ _ w1 rfl γ bR)
      simp[execOp,go_sem,e0]
    . intro a w1 ξ γ ν ω ζ ψ κ
      have e0:=og (v:=.pointer (some ⟨p,0,none⟩)) (ν 3 (by kernel_rfl) (by kernel_rfl))
      refine qB (v:=.pointer (some ⟨p,0,none⟩)) (qA rfl) ?_ (κ _ w1 rfl γ bR)
      simp[execOp,go_sem,e0]
    . intro a w1 ξ γ ν ω ζ ψ κ
      have e0:=og (v:=.pointer (some ⟨p,0,none⟩)) (ν 4 (by kernel_rfl) (by kernel_rfl))
      refine qB (v:=.pointer (some ⟨p,1,none⟩)) (qA rfl) ?_ (κ _ w1 rfl γ bR)
      simp[execOp,go_sem,e0]
    . intro a w1 ξ γ ν ω ζ ψ κ
      have e0:=og (v:=.pointer (some ⟨p,1,none⟩)) (ν 5 (by kernel_rfl) (by kernel_rfl))
      refine qB (v:=.pointer (some ⟨p,5,none⟩)) (qA rfl) ?_ (κ _ w1 rfl γ bR)
      simp[execOp,go_sem,e0]
    . intro a w1 ξ γ ν ω ζ ψ κ
      have e0:=og (v:=.pointer (some ⟨p,5,none⟩)) (ν 6 (by kernel_rfl) (by kernel_rfl))
      have k0:=(γ.cell (p:=⟨p,5,none⟩) HPz.out.lt).trans HPz.out.c5
      refine qB (v:=.int .i64 Q.U) (qA rfl) ?_ (κ _ w1 rfl γ bR)
      simp[execOp,go_sem,e0,k0]
    . intro a w1 ξ γ ν ω ζ ψ κ
      obtain ⟨A4,m4,qe0,he0⟩ := ν 1 (by kernel_rfl) (by kernel_rfl)
      have e0:a.tmps[24]?.getD undef=.slice A4 Q.S.bl.length m4:=by rw[<- Array.getD_eq_getD_getElem?];exact qe0
      have e1:=og (v:=.slice (some ⟨G,0,none⟩) Q.S.bl.length Q.S.bl.length) (ν 2 (by kernel_rfl) (by kernel_rfl))
      have e2:=og (v:=.int .i64 Q.U) (ν 7 (by kernel_rfl) (by kernel_rfl))
      refine qM (qA rfl) (f:=195) (args:=#[.slice A4 Q.S.bl.length m4,.slice (some ⟨G,0,none⟩) Q.S.bl.length Q.S.bl.length,.int .i64 Q.U]) ?run ((due_n A4 (some ⟨G,0,none⟩) m4 Q.S.bl.length Q.counts (zAf Q.S.bl Q.op) w1 Q.U HU.out HcN.out HiN.out HLn.out he0 (HIz.out.below γ) HW.out HR.out).mono ?post)
      case run=>simp[go_sem,e0,e1,e2]
      case post =>
       rintro e w2 ⟨rfl,hb2⟩
       exact ⟨_,rfl,κ _ w2 rfl (γ.trans (hb2.mono γ.size)) hb2⟩
    . intro a w1 ξ γ ν ω ζ ψ κ
      have e0:=og (v:=.int .i64 Q.due) (ν 8 (by kernel_rfl) (by kernel_rfl))
      refine qB (v:=.int .i64 Q.due) (qA rfl) ?_ (κ _ w1 rfl γ bR)
      simp[execOp,go_sem,e0]
   case hend =>
    intro a w6 hG hde hsz hφ hold
    obtain ⟨A4_1,m4_1,hv_1,hp_1⟩:=hφ 1 (by kernel_rfl)
    obtain rfl:=qy [(23,.slice (some ⟨g,0,none⟩) Q.S.bl.length cap),(24,.slice A4_1 Q.S.bl.length m4_1),(25,.slice (some ⟨G,0,none⟩) Q.S.bl.length Q.S.bl.length),(26,.pointer (some ⟨p,0,none⟩)),(27,.pointer (some ⟨p,0,none⟩)),(28,.pointer (some ⟨p,1,none⟩)),(29,.pointer (some ⟨p,5,none⟩)),(30,.int .i64 Q.U),(31,.int .i64 Q.due),(2,.int .i64 Q.due)] [23,24,25,26,27,28,29,30,31,2] rfl (by kernel_rfl) (by kernel_rfl) hde hsz (fC ⟨(hφ 0 (by kernel_rfl)),(fC ⟨(show a.tmps.getD 24 undef=.slice A4_1 Q.S.bl.length m4_1 from hv_1),(fC ⟨(hφ 2 (by kernel_rfl)),(fC ⟨(hφ 3 (by kernel_rfl)),(fC ⟨(hφ 4 (by kernel_rfl)),(fC ⟨(hφ 5 (by kernel_rfl)),(fC ⟨(hφ 6 (by kernel_rfl)),(fC ⟨(hφ 7 (by kernel_rfl)),(fC ⟨(hφ 8 (by kernel_rfl)),(fC ⟨(hφ 9 (by kernel_rfl)),(λ_ h=>absurd h (by simp))⟩)⟩)⟩)⟩)⟩)⟩)⟩)⟩)⟩)⟩) hold
    clear hφ hold hsz hde
    simp only[qd]
    go_frame
    go_wp2_with fail
    go_ret
    exact ⟨rfl,HBz.out.trans (hG.mono HBz.out.size)⟩
 . obtain ⟨k,hk⟩:∃k:Nat,Q.op=(k:Int):=⟨Q.op.toNat,by omega⟩
   rw[hk] at c10
   have hkl:k<(Q.S.bl.map λb:Bk => !b.bad).length:=by simp;omega
   have hkl2:k<Q.S.bl.length:=by omega
   have q0:=zAq HX2.out k hkl
   have q1:=yq HX2.out k
   have HXN:=hI (zEz HX2.out k false)
   have HRow:=hI (show zAf Q.S.bl Q.op=(Q.S.bl.map λb:Bk => !b.bad).set k false by unfold zAf;rw[if_neg hop1,hk];rfl)
   have HT2:Hid (Turned (λb=>b=G) w2 (w2.setCell ⟨G,k,none⟩ (.bool false))):=hI ((Turned.refl (λb=>b=G) w2).setCell (p:=⟨G,k,none⟩) (λ_=>rfl) _)
   have HR:Hid (zHh (some ⟨G,0,none⟩) Q.S.bl.length Q.S.bl.length):=hI (zAa _ _)
   have c10b:=(HP.out.below (vd HB2.out HT2.out HB2.out.size (λk e=>by rw[e];exact HG.out))).c10
   rw[hk] at c10b
   generalize (Q.S.bl.map λb:Bk => !b.bad)[k]=old at q0
   have hkn:¬(k:Int) = -1:=by omega
   clear hop hop1 hbl hk
   go_upto_region 5 with fail
   have HPz:=hI (HP.out.below (vd HB2.out HT2.out HB2.out.size (λk e=>by rw[e];exact HG.out)))
   have HLz:=hI (zAs HL2.out HT2.out λad e=>by cases e;exact HgG.out)
   have HIz:Hid (BA (w2.setCell ⟨G,k,none⟩ (.bool false)) (some ⟨G,0,none⟩) (zAf Q.S.bl Q.op)):=hI (by rw[HRow.out];exact zBf HXN.out)
   have HBz:=hI (vd HB2.out HT2.out HB2.out.size (λk e=>by rw[e];exact HG.out))
   clear HXN HT2
   generalize w2.setCell ⟨G,k,none⟩ (.bool false)=wz at HPz HLz HIz HBz ⊢
   refine qR (λj v w'=>match j with | 0=>v=.slice (some ⟨g,0,none⟩) Q.S.bl.length cap | 1=>∃A4 m4,v=.slice A4 Q.S.bl.length m4/\IA w' A4 Q.counts | 2=>v=.slice (some ⟨G,0,none⟩) Q.S.bl.length Q.S.bl.length | 3=>v=.pointer (some ⟨p,0,none⟩) | 4=>v=.pointer (some ⟨p,0,none⟩) | 5=>v=.pointer (some ⟨p,1,none⟩) | 6=>v=.pointer (some ⟨p,5,none⟩) | 7=>v=.int .i64 Q.U | 8=>v=.int .i64 Q.due | 9=>v=.int .i64 Q.due | _=>True) (λ_ w'=>Below wz.heap.size wz w') (λw1 w2=>Below w1.heap.size w1 w2) (by kernel_rfl) (by kernel_rfl) (by kernel_rfl) ?hR ?hG ?hops ?hend
   case hR =>
    intro j v w1 w2 hv hb
    match j,hv with
    | 0,hv=>exact hv
    | 1,⟨A4,m4,e,h⟩=>exact ⟨A4,m4,e,h.below hb⟩
    | 2,hv | 3,hv | 4,hv | 5,hv | 6,hv | 7,hv | 8,hv | 9,hv=>exact hv
    | _+10,_=>exact trivial
   case hG=>exact bR.drew
   case hops =>
    refine oC ?_ (oC ?_ (oC ?_ (oC ?_ (oC ?_ (oC ?_ (oC ?_ (oC ?_ (oC ?_ (oC ?_ OpsOkS.nil)))))))))
    . intro a w1 ξ γ ν ω ζ ψ κ
      have e0:=og (v:=.slice (some ⟨g,0,none⟩) Q.S.bl.length cap) (ω 3 (by kernel_rfl))
      refine qB (v:=.slice (some ⟨g,0,none⟩) Q.S.bl.length cap) (qA rfl) ?_ (κ _ w1 rfl γ bR)
      simp[execOp,go_sem,e0]
    . intro a w1 ξ γ ν ω ζ ψ κ
      have e0:=og (v:=.slice (some ⟨g,0,none⟩) Q.S.bl.length cap) (ν 0 (by kernel_rfl) (by kernel_rfl))
      refine qM (qA rfl) (f:=78) (args:=#[.slice (some ⟨g,0,none⟩) Q.S.bl.length cap]) ?run ((zKf (some ⟨g,0,none⟩) cap Q w1 HLn.out (HLz.out.below γ)).mono ?post)
      case run=>simp[go_sem,e0]
      case post =>
       rintro e w2 ⟨A4,m4,rfl,hc4,ha4,hb2⟩
       exact ⟨_,rfl,κ _ w2 ⟨A4,m4,rfl,hc4⟩ (γ.trans (hb2.mono γ.size)) hb2⟩
    . intro a w1 ξ γ ν ω ζ ψ κ
      have e0:=og (v:=.slice (some ⟨G,0,none⟩) Q.S.bl.length Q.S.bl.length) (ω 4 (by kernel_rfl))
      refine qB (v:=.slice (some ⟨G,0,none⟩) Q.S.bl.length Q.S.bl.length) (qA rfl) ?_ (κ _ w1 rfl γ bR)
      simp[execOp,go_sem,e0]
    . intro a w1 ξ γ ν ω ζ ψ κ
      have e0:=og (v:=.pointer (some ⟨p,0,none⟩)) (ω 0 (by kernel_rfl))
      refine qB (v:=.pointer (some ⟨p,0,none⟩)) (qA rfl) ?_ (κ _ w1 rfl γ bR)
      simp[execOp,go_sem,e0]
    . intro a w1 ξ γ ν ω ζ ψ κ
      have e0:=og (v:=.pointer (some ⟨p,0,none⟩)) (ν 3 (by kernel_rfl) (by kernel_rfl))
      refine qB (v:=.pointer (some ⟨p,0,none⟩)) (qA rfl) ?_ (κ _ w1 rfl γ bR)
      simp[execOp,go_sem,e0]
    . intro a w1 ξ γ ν ω ζ ψ κ
      have e0:=og (v:=.pointer (some ⟨p,0,none⟩)) (ν 4 (by kernel_rfl) (by kernel_rfl))
      refine qB (v:=.pointer (some ⟨p,1,none⟩)) (qA rfl) ?_ (κ _ w1 rfl γ bR)
      simp[execOp,go_sem,e0]
    . intro a w1 ξ γ ν ω ζ ψ κ
      have e0:=og (v:=.pointer (some ⟨p,1,none⟩)) (ν 5 (by kernel_rfl) (by kernel_rfl))
      refine qB (v:=.pointer (some ⟨p,5,none⟩)) (qA rfl) ?_ (κ _ w1 rfl γ bR)
      simp[execOp,go_sem,e0]
    . intro a w1 ξ γ ν ω ζ ψ κ
      have e0:=og (v:=.pointer (some ⟨p,5,none⟩)) (ν 6 (by kernel_rfl) (by kernel_rfl))
      have k0:=(γ.cell (p:=⟨p,5,none⟩) HPz.out.lt).trans HPz.out.c5
      refine qB (v:=.int .i64 Q.U) (qA rfl) ?_ (κ _ w1 rfl γ bR)
      simp[execOp,go_sem,e0,k0]
    . intro a w1 ξ γ ν ω ζ ψ κ
      obtain ⟨A4,m4,qe0,he0⟩ := ν 1 (by kernel_rfl) (by kernel_rfl)
      have e0:a.tmps[24]?.getD undef=.slice A4 Q.S.bl.length m4:=by rw[<- Array.getD_eq_getD_getElem?];exact qe0
      have e1:=og (v:=.slice (some ⟨G,0,none⟩) Q.S.bl.length Q.S.bl.length) (ν 2 (by kernel_rfl) (by kernel_rfl))
      have e2:=og (v:=.int .i64 Q.U) (ν 7 (by kernel_rfl) (by kernel_rfl))
      refine qM (qA rfl) (f:=195) (args:=#[.slice A4 Q.S.bl.length m4,.slice (some ⟨G,0,none⟩) Q.S.bl.length Q.S.bl.length,.int .i64 Q.U]) ?run ((due_n A4 (some ⟨G,0,none⟩) m4 Q.S.bl.length Q.counts (zAf Q.S.bl Q.op) w1 Q.U HU.out HcN.out HiN.out HLn.out he0 (HIz.out.below γ) HW.out HR.out).mono ?post)
      case run=>simp[go_sem,e0,e1,e2]
      case post =>
       rintro e w2 ⟨rfl,hb2⟩
       exact ⟨_,rfl,κ _ w2 rfl (γ.trans (hb2.mono γ.size)) hb2⟩
    . intro a w1 ξ γ ν ω ζ ψ κ
      have e0:=og (v:=.int .i64 Q.due) (ν 8 (by kernel_rfl) (by kernel_rfl))
      refine qB (v:=.int .i64 Q.due) (qA rfl) ?_ (κ _ w1 rfl γ bR)
      simp[execOp,go_sem,e0]
   case hend =>
    intro a w6 hG hde hsz hφ hold
    obtain ⟨A4_1,m4_1,hv_1,hp_1⟩:=hφ 1 (by kernel_rfl)
    obtain rfl:=qy [(23,.slice (some ⟨g,0,none⟩) Q.S.bl.length cap),(24,.slice A4_1 Q.S.bl.length m4_1),(25,.slice (some ⟨G,0,none⟩) Q.S.bl.length Q.S.bl.length),(26,.pointer (some ⟨p,0,none⟩)),(27,.pointer (some ⟨p,0,none⟩)),(28,.pointer (some ⟨p,1,none⟩)),(29,.pointer (some ⟨p,5,none⟩)),(30,.int .i64 Q.U),(31,.int .i64 Q.due),(2,.int .i64 Q.due)] [23,24,25,26,27,28,29,30,31,2] rfl (by kernel_rfl) (by kernel_rfl) hde hsz (fC ⟨(hφ 0 (by kernel_rfl)),(fC ⟨(show a.tmps.getD 24 undef=.slice A4_1 Q.S.bl.length m4_1 from hv_1),(fC ⟨(hφ 2 (by kernel_rfl)),(fC ⟨(hφ 3 (by kernel_rfl)),(fC ⟨(hφ 4 (by kernel_rfl)),(fC ⟨(hφ 5 (by kernel_rfl)),(fC ⟨(hφ 6 (by kernel_rfl)),(fC ⟨(hφ 7 (by kernel_rfl)),(fC ⟨(hφ 8 (by kernel_rfl)),(fC ⟨(hφ 9 (by kernel_rfl)),(λ_ h=>absurd h (by simp))⟩)⟩)⟩)⟩)⟩)⟩)⟩)⟩)⟩)⟩) hold
    clear hφ hold hsz hde
    simp only[qd]
    go_frame
    go_wp2_with fail
    go_ret
    exact ⟨rfl,HBz.out.trans (hG.mono HBz.out.size)⟩
end
end
end Go.Proofs.YtinkkmlbhkfmnaaGreat
