/- A part of what the last text proves: PoE6, PoE7, PoF1, PoF2. -/
import Derived.Test.YtinkkmlbhkfmnaaGreatQPc
set_option maxRecDepth 100000
set_option maxHeartbeats 8000000
namespace Go.Proofs.YtinkkmlbhkfmnaaGreat
section
open Go.RowKit
structure AnyW (w:World):Prop where
 triv:True
theorem AnyW.below {w w':World} (_h:AnyW w) (_hb:Below w.heap.size w w'):AnyW w':=⟨trivial⟩
section
variable {w w':World} {p c l f:Nat} {x y X Y Z:Nat->Prop} {Q Q1:PS} {T:List Fd}
theorem Ok.shut (h:Ok Q):Ok Q.shut:=by
 unfold PS.shut
 split
 . exact { h with op:=by have:=h.may.1;show (-1:Int) <= -1/\(-1:Int)<Q.B;omega }
 . exact h
theorem zWe (h:Ok Q) (i:Int):0<=(qI Q.S i).next/\(qI Q.S i).next<=32:=by
 have:=h.pg
 unfold qI
 split
 . next h1=>have:=h.next _ (zQt h1);omega
 . simp[noB]
theorem q_shut (h:Pool w p c x Q) (ok:Ok Q):Calls Tryz.prog 145 #[.pointer (some ⟨p,0,none⟩)] w λr w'=>r=.returned (.tuple #[])/\Pool w' p c x Q.shut/\Safe x w w':=by
 obtain ⟨l,f,hpt⟩:=h.parts
 have HP:=hI hpt
 have HQ:=hI h
 have HNX:Hid ((Lit.int .i64 (qI Q.S Q.op).next).wf=true):=hI (yg (by have:=zWe ok Q.op;omega))
 have HPW:Hid ((Lit.int .i64 Q.P).wf=true):=hI (yg (by have:=ok.pg;omega))
 clear hpt h ok
 by_cases h1:Q.op = -1
 . have HOP:Hid (some (Value.int .i64 Q.op)=some (.int .i64 (-1))):=hI (by rw[h1])
   have HE:Hid (Q.shut=Q):=hI (by unfold PS.shut;rw[if_neg (λk=>k.1 h1)])
   clear h1
   go_enter Tryz.func145,Tryz.ntmps145
   go_upto_region 0 with fail
   refine qR (λj v w'=>match j with | 0=>v=.pointer (some ⟨p,0,none⟩) | 1=>v=.pointer (some ⟨p,0,none⟩) | 2=>v=.pointer (some ⟨p,10,none⟩) | 3=>v=.int .i64 (-1) | 4=>v=.bool false | 5=>v=.bool false | 6=>v=undef | 7=>v=undef | 8=>v=undef | 9=>v=undef | 10=>v=undef | 11=>v=undef | 12=>v=undef | 13=>v=undef | 14=>v=undef | 15=>v=undef | 16=>v=undef | 17=>v=undef | 18=>v=undef | 19=>v=undef | 20=>v=undef | 21=>v=undef | 22=>v=.bool false | _=>True) (λ_ w'=>Below w.heap.size w w') (λw1 w2=>Below w1.heap.size w1 w2) (by kernel_rfl) (by kernel_rfl) (by kernel_rfl) ?hR ?hG ?hops ?hend
   case hR =>
    intro j v w1 w2 hv hb
    match j,hv with
    | 0,hv | 1,hv | 2,hv | 3,hv | 4,hv | 5,hv | 6,hv | 7,hv | 8,hv | 9,hv | 10,hv | 11,hv | 12,hv | 13,hv | 14,hv | 15,hv | 16,hv | 17,hv | 18,hv | 19,hv | 20,hv | 21,hv | 22,hv=>exact hv
    | _+23,_=>exact trivial
   case hG=>exact bR.drew
   case hops =>
    refine oC ?_ (oC ?_ (oC ?_ (oC ?_ (oC ?_ (oC ?_ (oC ?_ (oC ?_ (oC ?_ (oC ?_ (oC ?_ (oC ?_ (oC ?_ (oC ?_ (oC ?_ (oC ?_ (oC ?_ (oC ?_ (oC ?_ (oC ?_ (oC ?_ (oC ?_ (oC ?_ OpsOkS.nil))))))))))))))))))))))
    . intro a w1 ξ γ ν ω ζ ψ κ
      have e0:=og (v:=.pointer (some ⟨p,0,none⟩)) (ω 0 (by kernel_rfl))
      refine qB (v:=.pointer (some ⟨p,0,none⟩)) (qA rfl) ?_ (κ _ w1 rfl γ bR)
      simp[execOp,go_sem,e0]
    . intro a w1 ξ γ ν ω ζ ψ κ
      have e0:=og (v:=.pointer (some ⟨p,0,none⟩)) (ν 0 (by kernel_rfl) (by kernel_rfl))
      refine qB (v:=.pointer (some ⟨p,0,none⟩)) (qA rfl) ?_ (κ _ w1 rfl γ bR)
      simp[execOp,go_sem,e0]
    . intro a w1 ξ γ ν ω ζ ψ κ
      have e0:=og (v:=.pointer (some ⟨p,0,none⟩)) (ν 1 (by kernel_rfl) (by kernel_rfl))
      refine qB (v:=.pointer (some ⟨p,10,none⟩)) (qA rfl) ?_ (κ _ w1 rfl γ bR)
      simp[execOp,go_sem,e0]
    . intro a w1 ξ γ ν ω ζ ψ κ
      have e0:=og (v:=.pointer (some ⟨p,10,none⟩)) (ν 2 (by kernel_rfl) (by kernel_rfl))
      have k0:=((γ.cell (p:=⟨p,10,none⟩) HP.out.lt).trans HP.out.c10).trans HOP.out
      refine qB (v:=.int .i64 (-1)) (qA rfl) ?_ (κ _ w1 rfl γ bR)
      simp[execOp,go_sem,e0,k0]
    . intro a w1 ξ γ ν ω ζ ψ κ
      have e0:=og (v:=.int .i64 (-1)) (ν 3 (by kernel_rfl) (by kernel_rfl))
      refine qB (v:=.bool false) (qA rfl) ?_ (κ _ w1 rfl γ bR)
      simp[execOp,go_sem,e0]
    . intro a w1 ξ γ ν ω ζ ψ κ
      have e0:=og (v:=.bool false) (ν 4 (by kernel_rfl) (by kernel_rfl))
      refine qB (v:=.bool false) (qA rfl) ?_ (κ _ w1 rfl γ bR)
      simp[execOp,go_sem,e0]
    . intro a w1 ξ γ ν ω ζ ψ κ
      exact qH (j:=5) rfl (ν 5 (by kernel_rfl) (by kernel_rfl)) (by decide) (κ undef w1 rfl γ bR)
    . intro a w1 ξ γ ν ω ζ ψ κ
      exact qH (j:=5) rfl (ν 5 (by kernel_rfl) (by kernel_rfl)) (by decide) (κ undef w1 rfl γ bR)
    . intro a w1 ξ γ ν ω ζ ψ κ
      exact qH (j:=5) rfl (ν 5 (by kernel_rfl) (by kernel_rfl)) (by decide) (κ undef w1 rfl γ bR)
    . intro a w1 ξ γ ν ω ζ ψ κ
      exact qH (j:=5) rfl (ν 5 (by kernel_rfl) (by kernel_rfl)) (by decide) (κ undef w1 rfl γ bR)
    . intro a w1 ξ γ ν ω ζ ψ κ
      exact qH (j:=5) rfl (ν 5 (by kernel_rfl) (by kernel_rfl)) (by decide) (κ undef w1 rfl γ bR)
    . intro a w1 ξ γ ν ω ζ ψ κ
      exact qH (j:=5) rfl (ν 5 (by kernel_rfl) (by kernel_rfl)) (by decide) (κ undef w1 rfl γ bR)
    . intro a w1 ξ γ ν ω ζ ψ κ
      exact qH (j:=5) rfl (ν 5 (by kernel_rfl) (by kernel_rfl)) (by decide) (κ undef w1 rfl γ bR)
    . intro a w1 ξ γ ν ω ζ ψ κ
      exact qH (j:=5) rfl (ν 5 (by kernel_rfl) (by kernel_rfl)) (by decide) (κ undef w1 rfl γ bR)
    . intro a w1 ξ γ ν ω ζ ψ κ
      exact qH (j:=5) rfl (ν 5 (by kernel_rfl) (by kernel_rfl)) (by decide) (κ undef w1 rfl γ bR)
    . intro a w1 ξ γ ν ω ζ ψ κ
      exact qH (j:=5) rfl (ν 5 (by kernel_rfl) (by kernel_rfl)) (by decide) (κ undef w1 rfl γ bR)
    . intro a w1 ξ γ ν ω ζ ψ κ
      exact qH (j:=5) rfl (ν 5 (by kernel_rfl) (by kernel_rfl)) (by decide) (κ undef w1 rfl γ bR)
    . intro a w1 ξ γ ν ω ζ ψ κ
      exact qH (j:=5) rfl (ν 5 (by kernel_rfl) (by kernel_rfl)) (by decide) (κ undef w1 rfl γ bR)
    . intro a w1 ξ γ ν ω ζ ψ κ
      exact qH (j:=5) rfl (ν 5 (by kernel_rfl) (by kernel_rfl)) (by decide) (κ undef w1 rfl γ bR)
    . intro a w1 ξ γ ν ω ζ ψ κ
      exact qH (j:=5) rfl (ν 5 (by kernel_rfl) (by kernel_rfl)) (by decide) (κ undef w1 rfl γ bR)
    . intro a w1 ξ γ ν ω ζ ψ κ
      exact qH (j:=5) rfl (ν 5 (by kernel_rfl) (by kernel_rfl)) (by decide) (κ undef w1 rfl γ bR)
    . intro a w1 ξ γ ν ω ζ ψ κ
      exact qH (j:=5) rfl (ν 5 (by kernel_rfl) (by kernel_rfl)) (by decide) (κ undef w1 rfl γ bR)
    . intro a w1 ξ γ ν ω ζ ψ κ
      have e0:=og (v:=.bool false) (ν 5 (by kernel_rfl) (by kernel_rfl))
      refine qB (v:=.bool false) (qA rfl) ?_ (κ _ w1 rfl γ bR)
      simp[execOp,go_sem,asBool,e0]
   case hend =>
    intro a w6 hG hde hsz hφ hold
    obtain rfl:=qy [(2,.pointer (some ⟨p,0,none⟩)),(3,.pointer (some ⟨p,0,none⟩)),(4,.pointer (some ⟨p,10,none⟩)),(5,.int .i64 (-1)),(6,.bool false),(7,.bool false),(8,undef),(9,undef),(10,undef),(11,undef),(12,undef),(13,undef),(14,undef),(15,undef),(16,undef),(17,undef),(18,undef),(19,undef),(20,undef),(21,undef),(22,undef),(23,undef),(24,.bool false)] [2,3,4,5,6,7,8,9,10,11,12,13,14,15,16,17,18,19,20,21,22,23,24] rfl (by kernel_rfl) (by kernel_rfl) hde hsz (fC ⟨(hφ 0 (by kernel_rfl)),(fC ⟨(hφ 1 (by kernel_rfl)),(fC ⟨(hφ 2 (by kernel_rfl)),(fC ⟨(hφ 3 (by kernel_rfl)),(fC ⟨(hφ 4 (by kernel_rfl)),(fC ⟨(hφ 5 (by kernel_rfl)),(fC ⟨(hφ 6 (by kernel_rfl)),(fC ⟨(hφ 7 (by kernel_rfl)),(fC ⟨(hφ 8 (by kernel_rfl)),(fC ⟨(hφ 9 (by kernel_rfl)),(fC ⟨(hφ 10 (by kernel_rfl)),(fC ⟨(hφ 11 (by kernel_rfl)),(fC ⟨(hφ 12 (by kernel_rfl)),(fC ⟨(hφ 13 (by kernel_rfl)),(fC ⟨(hφ 14 (by kernel_rfl)),(fC ⟨(hφ 15 (by kernel_rfl)),(fC ⟨(hφ 16 (by kernel_rfl)),(fC ⟨(hφ 17 (by kernel_rfl)),(fC ⟨(hφ 18 (by kernel_rfl)),(fC ⟨(hφ 19 (by kernel_rfl)),(fC ⟨(hφ 20 (by kernel_rfl)),(fC ⟨(hφ 21 (by kernel_rfl)),(fC ⟨(hφ 22 (by kernel_rfl)),(λ_ h=>absurd h (by simp))⟩)⟩)⟩)⟩)⟩)⟩)⟩)⟩)⟩)⟩)⟩)⟩)⟩)⟩)⟩)⟩)⟩)⟩)⟩)⟩)⟩)⟩)⟩) hold
    clear hφ hold hsz hde
    simp only[qd]
    go_frame
    go_wp2_with fail
    go_end0
    rw[HE.out]
    exact ⟨rfl,HQ.out.below hG,qC hG⟩
 . have HNE:=hI h1
   by_cases h2:zAc (qI Q.S Q.op) Q.P=0
   . have HLF:=hI h2
     have HE:Hid (Q.shut = { Q with op := -1 }):=hI (by unfold PS.shut;rw[if_pos ⟨h1,h2⟩])
     clear h1 h2
     go_enter Tryz.func145,Tryz.ntmps145
     go_upto_region 0 with fail
     refine qR (λj v w'=>match j with | 0=>v=.pointer (some ⟨p,0,none⟩) | 1=>v=.pointer (some ⟨p,0,none⟩) | 2=>v=.pointer (some ⟨p,10,none⟩) | 3=>v=.int .i64 Q.op | 4=>v=.bool true | 5=>v=.bool true | 6=>v=.pointer (some ⟨p,0,none⟩) | 7=>v=.pointer (some ⟨p,0,none⟩) | 8=>v=.pointer (some ⟨p,0,none⟩) | 9=>v=.pointer (some ⟨c,0,none⟩) | 10=>v=.pointer (some ⟨p,0,none⟩) | 11=>v=.pointer (some ⟨p,0,none⟩) | 12=>v=.pointer (some ⟨p,10,none⟩) | 13=>v=.int .i64 Q.op | 14=>∃A9 c9,v=.agg #[.bool (qI Q.S Q.op).bad,.int .i64 (qI Q.S Q.op).next,.int .i64 (qI Q.S Q.op).count,.slice A9 (qI Q.S Q.op).pages.length c9]/\AnyW w' | 15=>v=.pointer (some ⟨p,0,none⟩) | 16=>v=.pointer (some ⟨p,0,none⟩) | 17=>v=.pointer (some ⟨p,1,none⟩) | 18=>v=.pointer (some ⟨p,2,none⟩) | 19=>v=.int .i64 Q.P | 20=>v=.int .i64 (zAc (qI Q.S Q.op) Q.P) | 21=>v=.bool true | 22=>v=.bool true | _=>True) (λ_ w'=>Below w.heap.size w w') (λw1 w2=>Below w1.heap.size w1 w2) (by kernel_rfl) (by kernel_rfl) (by kernel_rfl) ?hR ?hG ?hops ?hend
     case hR =>
      intro j v w1 w2 hv hb
      match j,hv with
      | 0,hv | 1,hv | 2,hv | 3,hv | 4,hv | 5,hv | 6,hv | 7,hv | 8,hv | 9,hv | 10,hv | 11,hv | 12,hv | 13,hv=>exact hv
      | 14,⟨A9,c9,e,h⟩=>exact ⟨A9,c9,e,h.below hb⟩
      | 15,hv | 16,hv | 17,hv | 18,hv | 19,hv | 20,hv | 21,hv | 22,hv=>exact hv
      | _+23,_=>exact trivial
     case hG=>exact bR.drew
     case hops =>
      refine oC ?_ (oC ?_ (oC ?_ (oC ?_ (oC ?_ (oC ?_ (oC ?_ (oC ?_ (oC ?_ (oC ?_ (oC ?_ (oC ?_ (oC ?_ (oC ?_ (oC ?_ (oC ?_ (oC ?_ (oC ?_ (oC ?_ (oC ?_ (oC ?_ (oC ?_ (oC ?_ OpsOkS.nil))))))))))))))))))))))
      . intro a w1 ξ γ ν ω ζ ψ κ
        have e0:=og (v:=.pointer (some ⟨p,0,none⟩)) (ω 0 (by kernel_rfl))
        refine qB (v:=.pointer (some ⟨p,0,none⟩)) (qA rfl) ?_ (κ _ w1 rfl γ bR)
        simp[execOp,go_sem,e0]
      . intro a w1 ξ γ ν ω ζ ψ κ
        have e0:=og (v:=.pointer (some ⟨p,0,none⟩)) (ν 0 (by kernel_rfl) (by kernel_rfl))
        refine qB (v:=.pointer (some ⟨p,0,none⟩)) (qA rfl) ?_ (κ _ w1 rfl γ bR)
        simp[execOp,go_sem,e0]
      . intro a w1 ξ γ ν ω ζ ψ κ
        have e0:=og (v:=.pointer (some ⟨p,0,none⟩)) (ν 1 (by kernel_rfl) (by kernel_rfl))
        refine qB (v:=.pointer (some ⟨p,10,none⟩)) (qA rfl) ?_ (κ _ w1 rfl γ bR)
        simp[execOp,go_sem,e0]
      . intro a w1 ξ γ ν ω ζ ψ κ
        have e0:=og (v:=.pointer (some ⟨p,10,none⟩)) (ν 2 (by kernel_rfl) (by kernel_rfl))
        have k0:=(γ.cell (p:=⟨p,10,none⟩) HP.out.lt).trans HP.out.c10
        refine qB (v:=.int .i64 Q.op) (qA rfl) ?_ (κ _ w1 rfl γ bR)
        simp[execOp,go_sem,e0,k0]
      . intro a w1 ξ γ ν ω ζ ψ κ
        have e0:=og (v:=.int .i64 Q.op) (ν 3 (by kernel_rfl) (by kernel_rfl))
        refine qB (v:=.bool true) (qA rfl) ?_ (κ _ w1 rfl γ bR)
        simp[execOp,go_sem,e0,HNE.out]
      . intro a w1 ξ γ ν ω ζ ψ κ
        have e0:=og (v:=.bool true) (ν 4 (by kernel_rfl) (by kernel_rfl))
        refine qB (v:=.bool true) (qA rfl) ?_ (κ _ w1 rfl γ bR)
        simp[execOp,go_sem,e0]
      . intro a w1 ξ γ ν ω ζ ψ κ
        have e0:=og (v:=.pointer (some ⟨p,0,none⟩)) (ω 0 (by kernel_rfl))
        refine qB (v:=.pointer (some ⟨p,0,none⟩)) (qE (j:=5) rfl (ν 5 (by kernel_rfl) (by kernel_rfl))) ?_ (κ _ w1 rfl γ bR)
        simp[execOp,go_sem,e0]
      . intro a w1 ξ γ ν ω ζ ψ κ
        have e0:=og (v:=.pointer (some ⟨p,0,none⟩)) (ν 6 (by kernel_rfl) (by kernel_rfl))
        refine qB (v:=.pointer (some ⟨p,0,none⟩)) (qE (j:=5) rfl (ν 5 (by kernel_rfl) (by kernel_rfl))) ?_ (κ _ w1 rfl γ bR)
        simp[execOp,go_sem,e0]
      . intro a w1 ξ γ ν ω ζ ψ κ
        have e0:=og (v:=.pointer (some ⟨p,0,none⟩)) (ν 7 (by kernel_rfl) (by kernel_rfl))
        refine qB (v:=.pointer (some ⟨p,0,none⟩)) (qE (j:=5) rfl (ν 5 (by kernel_rfl) (by kernel_rfl))) ?_ (κ _ w1 rfl γ bR)
        simp[execOp,go_sem,e0]
      . intro a w1 ξ γ ν ω ζ ψ κ
        have e0:=og (v:=.pointer (some ⟨p,0,none⟩)) (ν 8 (by kernel_rfl) (by kernel_rfl))
        have k0:=(γ.cell (p:=⟨p,0,none⟩) HP.out.lt).trans HP.out.c0
        refine qB (v:=.pointer (some ⟨c,0,none⟩)) (qE (j:=5) rfl (ν 5 (by kernel_rfl) (by kernel_rfl))) ?_ (κ _ w1 rfl γ bR)
        simp[execOp,go_sem,e0,k0]
      . intro a w1 ξ γ ν ω ζ ψ κ
        have e0:=og (v:=.pointer (some ⟨p,0,none⟩)) (ω 0 (by kernel_rfl))
        refine qB (v:=.pointer (some ⟨p,0,none⟩)) (qE (j:=5) rfl (ν 5 (by kernel_rfl) (by kernel_rfl))) ?_ (κ _ w1 rfl γ bR)
        simp[execOp,go_sem,e0]
      . intro a w1 ξ γ ν ω ζ ψ κ
        have e0:=og (v:=.pointer (some ⟨p,0,none⟩)) (ν 10 (by kernel_rfl) (by kernel_rfl))
        refine qB (v:=.pointer (some ⟨p,0,none⟩)) (qE (j:=5) rfl (ν 5 (by kernel_rfl) (by kernel_rfl))) ?_ (κ _ w1 rfl γ bR)
        simp[execOp,go_sem,e0]
      . intro a w1 ξ γ ν ω ζ ψ κ
        have e0:=og (v:=.pointer (some ⟨p,0,none⟩)) (ν 11 (by kernel_rfl) (by kernel_rfl))
        refine qB (v:=.pointer (some ⟨p,10,none⟩)) (qE (j:=5) rfl (ν 5 (by kernel_rfl) (by kernel_rfl))) ?_ (κ _ w1 rfl γ bR)
        simp[execOp,go_sem,e0]
      . intro a w1 ξ γ ν ω ζ ψ κ
        have e0:=og (v:=.pointer (some ⟨p,10,none⟩)) (ν 12 (by kernel_rfl) (by kernel_rfl))
        have k0:=(γ.cell (p:=⟨p,10,none⟩) HP.out.lt).trans HP.out.c10
        refine qB (v:=.int .i64 Q.op) (qE (j:=5) rfl (ν 5 (by kernel_rfl) (by kernel_rfl))) ?_ (κ _ w1 rfl γ bR)
        simp[execOp,go_sem,e0,k0]
      . intro a w1 ξ γ ν ω ζ ψ κ
        have e0:=og (v:=.pointer (some ⟨c,0,none⟩)) (ν 9 (by kernel_rfl) (by kernel_rfl))
        have e1:=og (v:=.int .i64 Q.op) (ν 13 (by kernel_rfl) (by kernel_rfl))
        refine qM (qE (j:=5) rfl (ν 5 (by kernel_rfl) (by kernel_rfl))) (f:=48) (args:=#[.pointer (some ⟨c,0,none⟩),.int .i64 Q.op]) ?run ((zBc Q.op (HP.out.chip.below γ)).mono ?post)
        case run=>simp[go_sem,e0,e1]
        case post =>
         rintro e w2 ⟨pv,rfl,⟨A9,c9,rfl,_⟩,hb2⟩
         exact ⟨_,rfl,κ _ w2 ⟨A9,c9,rfl,⟨trivial⟩⟩ (γ.trans (hb2.mono γ.size)) hb2⟩
      . intro a w1 ξ γ ν ω ζ ψ κ
        have e0:=og (v:=.pointer (some ⟨p,0,none⟩)) (ω 0 (by kernel_rfl))
        refine qB (v:=.pointer (some ⟨p,0,none⟩)) (qE (j:=5) rfl (ν 5 (by kernel_rfl) (by kernel_rfl))) ?_ (κ _ w1 rfl γ bR)
        simp[execOp,go_sem,e0]
      . intro a w1 ξ γ ν ω ζ ψ κ
        have e0:=og (v:=.pointer (some ⟨p,0,none⟩)) (ν 15 (by kernel_rfl) (by kernel_rfl))
        refine qB (v:=.pointer (some ⟨p,0,none⟩)) (qE (j:=5) rfl (ν 5 (by kernel_rfl) (by kernel_rfl))) ?_ (κ _ w1 rfl γ bR)
        simp[execOp,go_sem,e0]
      . intro a w1 ξ γ ν ω ζ ψ κ
        have e0:=og (v:=.pointer (some ⟨p,0,none⟩)) (ν 16 (by kernel_rfl) (by kernel_rfl))
        refine qB (v:=.pointer (some ⟨p,1,none⟩)) (qE (j:=5) rfl (ν 5 (by kernel_rfl) (by kernel_rfl))) ?_ (κ _ w1 rfl γ bR)
        simp[execOp,go_sem,e0]
      . intro a w1 ξ γ ν ω ζ ψ κ
        have e0:=og (v:=.pointer (some ⟨p,1,none⟩)) (ν 17 (by kernel_rfl) (by kernel_rfl))
        refine qB (v:=.pointer (some ⟨p,2,none⟩)) (qE (j:=5) rfl (ν 5 (by kernel_rfl) (by kernel_rfl))) ?_ (κ _ w1 rfl γ bR)
        simp[execOp,go_sem,e0]
      . intro a w1 ξ γ ν ω ζ ψ κ
        have e0:=og (v:=.pointer (some ⟨p,2,none⟩)) (ν 18 (by kernel_rfl) (by kernel_rfl))
        have k0:=(γ.cell (p:=⟨p,2,none⟩) HP.out.lt).trans HP.out.c2
        refine qB (v:=.int .i64 Q.P) (qE (j:=5) rfl (ν 5 (by kernel_rfl) (by kernel_rfl))) ?_ (κ _ w1 rfl γ bR)
        simp[execOp,go_sem,e0,k0]
      . intro a w1 ξ γ ν ω ζ ψ κ
        obtain ⟨A9,c9,qe0,he0⟩ := ν 14 (by kernel_rfl) (by kernel_rfl)
        have e0:a.tmps[16]?.getD undef=.agg #[.bool (qI Q.S Q.op).bad,.int .i64 (qI Q.S Q.op).next,.int .i64 (qI Q.S Q.op).count,.slice A9 (qI Q.S Q.op).pages.length c9]:=by rw[<- Array.getD_eq_getD_getElem?];exact qe0
        have e1:=og (v:=.int .i64 Q.P) (ν 19 (by kernel_rfl) (by kernel_rfl))
        refine qM (qE (j:=5) rfl (ν 5 (by kernel_rfl) (by kernel_rfl))) (f:=161) (args:=#[.agg #[.bool (qI Q.S Q.op).bad,.int .i64 (qI Q.S Q.op).next,.int .i64 (qI Q.S Q.op).count,.slice A9 (qI Q.S Q.op).pages.length c9],.int .i64 Q.P]) ?run ((zSa (qI Q.S Q.op) A9 _ c9 Q.P w1 HNX.out HPW.out).mono ?post)
        case run=>simp[go_sem,e0,e1]
        case post =>
         rintro e w2 ⟨rfl,hb2⟩
         exact ⟨_,rfl,κ _ w2 rfl (γ.trans (hb2.mono γ.size)) hb2⟩
      . intro a w1 ξ γ ν ω ζ ψ κ
        have e0:=og (v:=.int .i64 (zAc (qI Q.S Q.op) Q.P)) (ν 20 (by kernel_rfl) (by kernel_rfl))
        refine qB (v:=.bool true) (qE (j:=5) rfl (ν 5 (by kernel_rfl) (by kernel_rfl))) ?_ (κ _ w1 rfl γ bR)
        simp[execOp,go_sem,e0,HLF.out]
      . intro a w1 ξ γ ν ω ζ ψ κ
        have e0:=og (v:=.bool true) (ν 5 (by kernel_rfl) (by kernel_rfl))
        have e1:=og (v:=.bool true) (ν 21 (by kernel_rfl) (by kernel_rfl))
        refine qB (v:=.bool true) (qA rfl) ?_ (κ _ w1 rfl γ bR)
        simp[execOp,go_sem,asBool,e0,e1]
     case hend =>
      intro a w6 hG hde hsz hφ hold
      obtain ⟨A9_14,c9_14,hv_14,hp_14⟩:=hφ 14 (by kernel_rfl)
      obtain rfl:=qy [(2,.pointer (some ⟨p,0,none⟩)),(3,.pointer (some ⟨p,0,none⟩)),(4,.pointer (some ⟨p,10,none⟩)),(5,.int .i64 Q.op),(6,.bool true),(7,.bool true),(8,.pointer (some ⟨p,0,none⟩)),(9,.pointer (some ⟨p,0,none⟩)),(10,.pointer (some ⟨p,0,none⟩)),(11,.pointer (some ⟨c,0,none⟩)),(12,.pointer (some ⟨p,0,none⟩)),(13,.pointer (some ⟨p,0,none⟩)),(14,.pointer (some ⟨p,10,none⟩)),(15,.int .i64 Q.op),(16,.agg #[.bool (qI Q.S Q.op).bad,.int .i64 (qI Q.S Q.op).next,.int .i64 (qI Q.S Q.op).count,.slice A9_14 (qI Q.S Q.op).pages.length c9_14]),(17,.pointer (some ⟨p,0,none⟩)),(18,.pointer (some ⟨p,0,none⟩)),(19,.pointer (some ⟨p,1,none⟩)),(20,.pointer (some ⟨p,2,none⟩)),(21,.int .i64 Q.P),(22,.int .i64 (zAc (qI Q.S Q.op) Q.P)),(23,.bool true),(24,.bool true)] [2,3,4,5,6,7,8,9,10,11,12,13,14,15,16,17,18,19,20,21,22,23,24] rfl (by kernel_rfl) (by kernel_rfl) hde hsz (fC ⟨(hφ 0 (by kernel_rfl)),(fC ⟨(hφ 1 (by kernel_rfl)),(fC ⟨(hφ 2 (by kernel_rfl)),(fC ⟨(hφ 3 (by kernel_rfl)),(fC ⟨(hφ 4 (by kernel_rfl)),(fC ⟨(hφ 5 (by kernel_rfl)),(fC ⟨(hφ 6 (by kernel_rfl)),(fC ⟨(hφ 7 (by kernel_rfl)),(fC ⟨(hφ 8 (by kernel_rfl)),(fC ⟨(hφ 9 (by kernel_rfl)),(fC ⟨(hφ 10 (by kernel_rfl)),(fC ⟨(hφ 11 (by kernel_rfl)),(fC ⟨(hφ 12 (by kernel_rfl)),(fC ⟨(hφ 13 (by kernel_rfl)),(fC ⟨(show a.tmps.getD 16 undef=.agg #[.bool (qI Q.S Q.op).bad,.int .i64 (qI Q.S Q.op).next,.int .i64 (qI Q.S Q.op).count,.slice A9_14 (qI Q.S Q.op).pages.length c9_14] from hv_14),(fC ⟨(hφ 15 (by kernel_rfl)),(fC ⟨(hφ 16 (by kernel_rfl)),(fC ⟨(hφ 17 (by kernel_rfl)),(fC ⟨(hφ 18 (by kernel_rfl)),(fC ⟨(hφ 19 (by kernel_rfl)),(fC ⟨(hφ 20 (by kernel_rfl)),(fC ⟨(hφ 21 (by kernel_rfl)),(fC ⟨(hφ 22 (by kernel_rfl)),(λ_ h=>absurd h (by simp))⟩)⟩)⟩)⟩)⟩)⟩)⟩)⟩)⟩)⟩)⟩)⟩)⟩)⟩)⟩)⟩)⟩)⟩)⟩)⟩)⟩)⟩)⟩) hold
      clear hφ hold hsz hde hv_14
      simp only[qd]
      go_frame
      have c10:=(HP.out.below hG).c10
      have fr10:=(HP.out.below hG).fr 10
      go_wp2_with fail
      go_end0
      rw[HE.out]
      have k:=Pool.set (j:=10) (u:=.int .i64 (-1)) (Q' := { Q with op := -1 }) (HQ.out.below hG) rfl rfl rfl (λl f=>by simp[PS.cells])
      exact ⟨rfl,k.1,(qC hG).then k.2⟩
   . have HLF:=hI h2
     have HE:Hid (Q.shut=Q):=hI (by unfold PS.shut;rw[if_neg (λk=>h2 k.2)])
     clear h1 h2
     go_enter Tryz.func145,Tryz.ntmps145
     go_upto_region 0 with fail
     refine qR (λj v w'=>match j with | 0=>v=.pointer (some ⟨p,0,none⟩) | 1=>v=.pointer (some ⟨p,0,none⟩) | 2=>v=.pointer (some ⟨p,10,none⟩) | 3=>v=.int .i64 Q.op | 4=>v=.bool true | 5=>v=.bool true | 6=>v=.pointer (some ⟨p,0,none⟩) | 7=>v=.pointer (some ⟨p,0,none⟩) | 8=>v=.pointer (some ⟨p,0,none⟩) | 9=>v=.pointer (some ⟨c,0,none⟩) | 10=>v=.pointer (some ⟨p,0,none⟩) | 11=>v=.pointer (some ⟨p,0,none⟩) | 12=>v=.pointer (some ⟨p,10,none⟩) | 13=>v=.int .i64 Q.op | 14=>∃A9 c9,v=.agg #[.bool (qI Q.S Q.op).bad,.int .i64 (qI Q.S Q.op).next,.int .i64 (qI Q.S Q.op).count,.slice A9 (qI Q.S Q.op).pages.length c9]/\AnyW w' | 15=>v=.pointer (some ⟨p,0,none⟩) | 16=>v=.pointer (some ⟨p,0,none⟩) | 17=>v=.pointer (some ⟨p,1,none⟩) | 18=>v=.pointer (some ⟨p,2,none⟩) | 19=>v=.int .i64 Q.P | 20=>v=.int .i64 (zAc (qI Q.S Q.op) Q.P) | 21=>v=.bool false | 22=>v=.bool false | _=>True) (λ_ w'=>Below w.heap.size w w') (λw1 w2=>Below w1.heap.size w1 w2) (by kernel_rfl) (by kernel_rfl) (by kernel_rfl) ?hR ?hG ?hops ?hend
     case hR =>
      intro j v w1 w2 hv hb
      match j,hv with
      | 0,hv | 1,hv | 2,hv | 3,hv | 4,hv | 5,hv | 6,hv | 7,hv | 8,hv | 9,hv | 10,hv | 11,hv | 12,hv | 13,hv=>exact hv
      | 14,⟨A9,c9,e,h⟩=>exact ⟨A9,c9,e,h.below hb⟩
      | 15,hv | 16,hv | 17,hv | 18,hv | 19,hv | 20,hv | 21,hv | 22,hv=>exact hv
      | _+23,_=>exact trivial
     case hG=>exact bR.drew
     case hops =>
      refine oC ?_ (oC ?_ (oC ?_ (oC ?_ (oC ?_ (oC ?_ (oC ?_ (oC ?_ (oC ?_ (oC ?_ (oC ?_ (oC ?_ (oC ?_ (oC ?_ (oC ?_ (oC ?_ (oC ?_ (oC ?_ (oC ?_ (oC ?_ (oC ?_ (oC ?_ (oC ?_ OpsOkS.nil))))))))))))))))))))))
      . intro a w1 ξ γ ν ω ζ ψ κ
        have e0:=og (v:=.pointer (some ⟨p,0,none⟩)) (ω 0 (by kernel_rfl))
        refine qB (v:=.pointer (some ⟨p,0,none⟩)) (qA rfl) ?_ (κ _ w1 rfl γ bR)
        simp[execOp,go_sem,e0]
      . intro a w1 ξ γ ν ω ζ ψ κ
        have e0:=og (v:=.pointer (some ⟨p,0,none⟩)) (ν 0 (by kernel_rfl) (by kernel_rfl))
        refine qB (v:=.pointer (some ⟨p,0,none⟩)) (qA rfl) ?_ (κ _ w1 rfl γ bR)
        simp[execOp,go_sem,e0]
      . intro a w1 ξ γ ν ω ζ ψ κ
        have e0:=og (v:=.pointer (some ⟨p,0,none⟩)) (ν 1 (by kernel_rfl) (by kernel_rfl))
        refine qB (v:=.pointer (some ⟨p,10,none⟩)) (qA rfl) ?_ (κ _ w1 rfl γ bR)
        simp[execOp,go_sem,e0]
      . intro a w1 ξ γ ν ω ζ ψ κ
        have e0:=og (v:=.pointer (some ⟨p,10,none⟩)) (ν 2 (by kernel_rfl) (by kernel_rfl))
        have k0:=(γ.cell (p:=⟨p,10,none⟩) HP.out.lt).trans HP.out.c10
        refine qB (v:=.int .i64 Q.op) (qA rfl) ?_ (κ _ w1 rfl γ bR)
        simp[execOp,go_sem,e0,k0]
      . intro a w1 ξ γ ν ω ζ ψ κ
        have e0:=og (v:=.int .i64 Q.op) (ν 3 (by kernel_rfl) (by kernel_rfl))
        refine qB (v:=.bool true) (qA rfl) ?_ (κ _ w1 rfl γ bR)
        simp[execOp,go_sem,e0,HNE.out]
      . intro a w1 ξ γ ν ω ζ ψ κ
        have e0:=og (v:=.bool true) (ν 4 (by kernel_rfl) (by kernel_rfl))
        refine qB (v:=.bool true) (qA rfl) ?_ (κ _ w1 rfl γ bR)
        simp[execOp,go_sem,e0]
      . intro a w1 ξ γ ν ω ζ ψ κ
        have e0:=og (v:=.pointer (some ⟨p,0,none⟩)) (ω 0 (by kernel_rfl))
        refine qB (v:=.pointer (some ⟨p,0,none⟩)) (qE (j:=5) rfl (ν 5 (by kernel_rfl) (by kernel_rfl))) ?_ (κ _ w1 rfl γ bR)
        simp[execOp,go_sem,e0]
      . intro a w1 ξ γ ν ω ζ ψ κ
        have e0:=og (v:=.pointer (some ⟨p,0,none⟩)) (ν 6 (by kernel_rfl) (by kernel_rfl))
        refine qB (v:=.pointer (some ⟨p,0,none⟩)) (qE (j:=5) rfl (ν 5 (by kernel_rfl) (by kernel_rfl))) ?_ (κ _ w1 rfl γ bR)
        simp[execOp,go_sem,e0]
      . intro a w1 ξ γ ν ω ζ ψ κ
        have e0:=og (v:=.pointer (some ⟨p,0,none⟩)) (ν 7 (by kernel_rfl) (by kernel_rfl))
        refine qB (v:=.pointer (some ⟨p,0,none⟩)) (qE (j:=5) rfl (ν 5 (by kernel_rfl) (by kernel_rfl))) ?_ (κ _ w1 rfl γ bR)
        simp[execOp,go_sem,e0]
      . intro a w1 ξ γ ν ω ζ ψ κ
        have e0:=og (v:=.pointer (some ⟨p,0,none⟩)) (ν 8 (by kernel_rfl) (by kernel_rfl))
        have k0:=(γ.cell (p:=⟨p,0,none⟩) HP.out.lt).trans HP.out.c0
        refine qB (v:=.pointer (some ⟨c,0,none⟩)) (qE (j:=5) rfl (ν 5 (by kernel_rfl) (by kernel_rfl))) ?_ (κ _ w1 rfl γ bR)
        simp[execOp,go_sem,e0,k0]
      . intro a w1 ξ γ ν ω ζ ψ κ
        have e0:=og (v:=.pointer (some ⟨p,0,none⟩)) (ω 0 (by kernel_rfl))
        refine qB (v:=.pointer (some ⟨p,0,none⟩)) (qE (j:=5) rfl (ν 5 (by kernel_rfl) (by kernel_rfl))) ?_ (κ _ w1 rfl γ bR)
        simp[execOp,go_sem,e0]
      . intro a w1 ξ γ ν ω ζ ψ κ
        have e0:=og (v:=.pointer (some ⟨p,0,none⟩)) (ν 10 (by kernel_rfl) (by kernel_rfl))
        refine qB (v:=.pointer (some ⟨p,0,none⟩)) (qE (j:=5) rfl (ν 5 (by kernel_rfl) (by kernel_rfl))) ?_ (κ _ w1 rfl γ bR)
        simp[execOp,go_sem,e0]
      . intro a w1 ξ γ ν ω ζ ψ κ
        have e0:=og (v:=.pointer (some ⟨p,0,none⟩)) (ν 11 (by kernel_rfl) (by kernel_rfl))
        refine qB (v:=.pointer (some ⟨p,10,none⟩)) (qE (j:=5) rfl (ν 5 (by kernel_rfl) (by kernel_rfl))) ?_ (κ _ w1 rfl γ bR)
        simp[execOp,go_sem,e0]
      . intro a w1 ξ γ ν ω ζ ψ κ
        have e0:=og (v:=.pointer (some ⟨p,10,none⟩)) (ν 12 (by kernel_rfl) (by kernel_rfl))
        have k0:=(γ.cell (p:=⟨p,10,none⟩) HP.out.lt).trans HP.out.c10
        refine qB (v:=.int .i64 Q.op) (qE (j:=5) rfl (ν 5 (by kernel_rfl) (by kernel_rfl))) ?_ (κ _ w1 rfl γ bR)
        simp[execOp,go_sem,e0,k0]
      . intro a w1 ξ γ ν ω ζ ψ κ
        have e0:=og (v:=.pointer (some ⟨c,0,none⟩)) (ν 9 (by kernel_rfl) (by kernel_rfl))
        have e1:=og (v:=.int .i64 Q.op) (ν 13 (by kernel_rfl) (by kernel_rfl))
        refine qM (qE (j:=5) rfl (ν 5 (by kernel_rfl) (by kernel_rfl))) (f:=48) (args:=#[.pointer (some ⟨c,0,none⟩),.int .i64 Q.op]) ?run ((zBc Q.op (HP.out.chip.below γ)).mono ?post)
        case run=>simp[go_sem,e0,e1]
        case post =>
         rintro e w2 ⟨pv,rfl,⟨A9,c9,rfl,_⟩,hb2⟩
         exact ⟨_,rfl,κ _ w2 ⟨A9,c9,rfl,⟨trivial⟩⟩ (γ.trans (hb2.mono γ.size)) hb2⟩
      . intro a w1 ξ γ ν ω ζ ψ κ
        have e0:=og (v:=.pointer (some ⟨p,0,none⟩)) (ω 0 (by kernel_rfl))
        refine qB (v:=.pointer (some ⟨p,0,none⟩)) (qE (j:=5) rfl (ν 5 (by kernel_rfl) (by kernel_rfl))) ?_ (κ _ w1 rfl γ bR)
        simp[execOp,go_sem,e0]
      . intro a w1 ξ γ ν ω ζ ψ κ
        have e0:=og (v:=.pointer (some ⟨p,0,none⟩)) (ν 15 (by kernel_rfl) (by kernel_rfl))
        refine qB (v:=.pointer (some ⟨p,0,none⟩)) (qE (j:=5) rfl (ν 5 (by kernel_rfl) (by kernel_rfl))) ?_ (κ _ w1 rfl γ bR)
        simp[execOp,go_sem,e0]
      . intro a w1 ξ γ ν ω ζ ψ κ
        have e0:=og (v:=.pointer (some ⟨p,0,none⟩)) (ν 16 (by kernel_rfl) (by kernel_rfl))
        refine qB (v:=.pointer (some ⟨p,1,none⟩)) (qE (j:=5) rfl (ν 5 (by kernel_rfl) (by kernel_rfl))) ?_ (κ _ w1 rfl γ bR)
        simp[execOp,go_sem,e0]
      . intro a w1 ξ γ ν ω ζ ψ κ
        have e0:=og (v:=.pointer (some ⟨p,1,none⟩)) (ν 17 (by kernel_rfl) (by kernel_rfl))
        refine qB (v:=.pointer (some ⟨p,2,none⟩)) (qE (j:=5) rfl (ν 5 (by kernel_rfl) (by kernel_rfl))) ?_ (κ _ w1 rfl γ bR)
        simp[execOp,go_sem,e0]
      . intro a w1 ξ γ ν ω ζ ψ κ
        have e0:=og (v:=.pointer (some ⟨p,2,none⟩)) (ν 18 (by kernel_rfl) (by kernel_rfl))
        have k0:=(γ.cell (p:=⟨p,2,none⟩) HP.out.lt).trans HP.out.c2
        refine qB (v:=.int .i64 Q.P) (qE (j:=5) rfl (ν 5 (by kernel_rfl) (by kernel_rfl))) ?_ (κ _ w1 rfl γ bR)
        simp[execOp,go_sem,e0,k0]
      . intro a w1 ξ γ ν ω ζ ψ κ
        obtain ⟨A9,c9,qe0,he0⟩ := ν 14 (by kernel_rfl) (by kernel_rfl)
        have e0:a.tmps[16]?.getD undef=.agg #[.bool (qI Q.S Q.op).bad,.int .i64 (qI Q.S Q.op).next,.int .i64 (qI Q.S Q.op).count,.slice A9 (qI Q.S Q.op).pages.length c9]:=by rw[<- Array.getD_eq_getD_getElem?];exact qe0
        have e1:=og (v:=.int .i64 Q.P) (ν 19 (by kernel_rfl) (by kernel_rfl))
        refine qM (qE (j:=5) rfl (ν 5 (by kernel_rfl) (by kernel_rfl))) (f:=161) (args:=#[.agg #[.bool (qI Q.S Q.op).bad,.int .i64 (qI Q.S Q.op).next,.int .i64 (qI Q.S Q.op).count,.slice A9 (qI Q.S Q.op).pages.length c9],.int .i64 Q.P]) ?run ((zSa (qI Q.S Q.op) A9 _ c9 Q.P w1 HNX.out HPW.out).mono ?post)
        case run=>simp[go_sem,e0,e1]
        case post =>
         rintro e w2 ⟨rfl,hb2⟩
         exact ⟨_,rfl,κ _ w2 rfl (γ.trans (hb2.mono γ.size)) hb2⟩
      . intro a w1 ξ γ ν ω ζ ψ κ
        have e0:=og (v:=.int .i64 (zAc (qI Q.S Q.op) Q.P)) (ν 20 (by kernel_rfl) (by kernel_rfl))
        refine qB (v:=.bool false) (qE (j:=5) rfl (ν 5 (by kernel_rfl) (by kernel_rfl))) ?_ (κ _ w1 rfl γ bR)
        simp[execOp,go_sem,e0,HLF.out]
      . intro a w1 ξ γ ν ω ζ ψ κ
        have e0:=og (v:=.bool true) (ν 5 (by kernel_rfl) (by kernel_rfl))
        have e1:=og (v:=.bool false) (ν 21 (by kernel_rfl) (by kernel_rfl))
        refine qB (v:=.bool false) (qA rfl) ?_ (κ _ w1 rfl γ bR)
        simp[execOp,go_sem,asBool,e0,e1]
     case hend =>
      intro a w6 hG hde hsz hφ hold
      obtain ⟨A9_14,c9_14,hv_14,hp_14⟩:=hφ 14 (by kernel_rfl)
      obtain rfl:=qy [(2,.pointer (some ⟨p,0,none⟩)),(3,.pointer (some ⟨p,0,none⟩)),(4,.pointer (some ⟨p,10,none⟩)),(5,.int .i64 Q.op),(6,.bool true),(7,.bool true),(8,.pointer (some ⟨p,0,none⟩)),(9,.pointer (some ⟨p,0,none⟩)),(10,.pointer (some ⟨p,0,none⟩)),(11,.pointer (some ⟨c,0,none⟩)),(12,.pointer (some ⟨p,0,none⟩)),(13,.pointer (some ⟨p,0,none⟩)),(14,.pointer (some ⟨p,10,none⟩)),(15,.int .i64 Q.op),(16,.agg #[.bool (qI Q.S Q.op).bad,.int .i64 (qI Q.S Q.op).next,.int .i64 (qI Q.S Q.op).count,.slice A9_14 (qI Q.S Q.op).pages.length c9_14]),(17,.pointer (some ⟨p,0,none⟩)),(18,.pointer (some ⟨p,0,none⟩)),(19,.pointer (some ⟨p,1,none⟩)),(20,.pointer (some ⟨p,2,none⟩)),(21,.int .i64 Q.P),(22,.int .i64 (zAc (qI Q.S Q.op) Q.P)),(23,.bool false),(24,.bool false)] [2,3,4,5,6,7,8,9,10,11,12,13,14,15,16,17,18,19,20,21,22,23,24] rfl (by kernel_rfl) (by kernel_rfl) hde hsz (fC ⟨(hφ 0 (by kernel_rfl)),(fC ⟨(hφ 1 (by kernel_rfl)),(fC ⟨(hφ 2 (by kernel_rfl)),(fC ⟨(hφ 3 (by kernel_rfl)),(fC ⟨(hφ 4 (by kernel_rfl)),(fC ⟨(hφ 5 (by kernel_rfl)),(fC ⟨(hφ 6 (by kernel_rfl)),(fC ⟨(hφ 7 (by kernel_rfl)),(fC ⟨(hφ 8 (by kernel_rfl)),(fC ⟨(hφ 9 (by kernel_rfl)),(fC ⟨(hφ 10 (by kernel_rfl)),(fC ⟨(hφ 11 (by kernel_rfl)),(fC ⟨(hφ 12 (by kernel_rfl)),(fC ⟨(hφ 13 (by kernel_rfl)),(fC ⟨(show a.tmps.getD 16 undef=.agg #[.bool (qI Q.S Q.op).bad,.int .i64 (qI Q.S Q.op).next,.int .i64 (qI Q.S Q.op).count,.slice A9_14 (qI Q.S Q.op).pages.length c9_14] from hv_14),(fC ⟨(hφ 15 (by kernel_rfl)),(fC ⟨(hφ 16 (by kernel_rfl)),(fC ⟨(hφ 17 (by kernel_rfl)),(fC ⟨(hφ 18 (by kernel_rfl)),(fC ⟨(hφ 19 (by kernel_rfl)),(fC ⟨(hφ 20 (by kernel_rfl)),(fC ⟨(hφ 21 (by kernel_rfl)),(fC ⟨(hφ 22 (by kernel_rfl)),(λ_ h=>absurd h (by simp))⟩)⟩)⟩)⟩)⟩)⟩)⟩)⟩)⟩)⟩)⟩)⟩)⟩)⟩)⟩)⟩)⟩)⟩)⟩)⟩)⟩)⟩)⟩) hold
      clear hφ hold hsz hde hv_14
      simp only[qd]
      go_frame
      go_wp2_with fail
      go_end0
      rw[HE.out]
      exact ⟨rfl,HQ.out.below hG,qC hG⟩
theorem Ok.beginLoop {n:Nat} : ∀(k:Nat) (Q:PS) {er:Int} {Q':PS},Ok Q->PS.beginLoop n k Q=some (er,Q')->Ok Q':=by
 intro k
 induction k with
 | zero=>intro Q er Q' h hm;cases hm
 | succ k ih =>
  intro Q er Q' h hm
  unfold PS.beginLoop at hm
  split at hm
  . cases hm;exact h
  . split at hm
    . split at hm
      . next h1=>cases hm;exact h.setop h1
      . cases hm
    . split at hm
      . cases hm
      . next h1 =>
        split at hm
        . exact ih _ (h.empty h1) hm
        . cases hm;exact h.empty h1
theorem Ok.begin {n:Nat} {er:Int} {Q':PS} (h:Ok Q) (hm:Q.begin n=some (er,Q')):Ok Q':=Ok.beginLoop n _ h.shut hm
end
end
section
open Go.RowKit
section
variable {w w':World} {p c l f:Nat} {x y X Y Z:Nat->Prop} {Q Q1:PS} {T:List Fd}
theorem zXn (n:Nat) {er:Int} {Q':PS} (h:Pool w p c x Q) (ok:Ok Q) (hm:Q.begin n=some (er,Q')):Calls Tryz.prog 118 #[.pointer (some ⟨p,0,none⟩)] w λr w'=>r=.returned (.int .i64 er)/\Pool w' p c x Q'/\Safe x w w':=by
 have HQ:=hI h
 have HO:=hI ok
 have HM:Hid (PS.beginLoop n n Q.shut=some (er,Q')):=hI hm
 clear h ok hm
 go_enter Tryz.func118,Tryz.ntmps118
 go_wp2_with (go_at_call 145;(with_reducible refine (q_shut HQ.out HO.out).mono ?_);rintro e w2 ⟨rfl,h2,hs2⟩;have HP2:=hI h2;have HS2:=hI hs2;clear h2 hs2)
 go_loopg [3] n (λk _ wr=>∃Q1,Pool wr p c x Q1/\Ok Q1/\PS.beginLoop n k Q1=some (er,Q')/\Safe x w wr)
 case atStart=>exact ⟨Q.shut,HP2.out,HO.out.shut,HM.out,HS2.out⟩
 case round =>
  obtain ⟨Q1,hP,hO,hM,hS⟩:=hrel
  have HQ1:=hI hP
  have HO1:=hI hO
  have HS1:=hI hS
  obtain ⟨l1,f1,hpt⟩:=hP.parts
  have HP:=hI hpt
  have c10:=hpt.c10
  have HLn:Hid (Q1.S.bl.length<=1000):=hI (by have:=hO.lenN;omega)
  have HB1:Hid (1<=Q1.S.bl.length):=hI (by have:=hO.lenN;omega)
  have HBW:Hid ((Lit.int .i64 Q1.bads).wf=true):=hI (yg (by have:=hO.bads;omega))
  clear hP hS hpt
  cases gk with
  | zero=>cases hM
  | succ k1 =>
   unfold PS.beginLoop at hM
   by_cases h1:Q1.op = -1
   case neg =>
    rw[if_pos h1] at hM
    have HE:Hid (er=0/\Q'=Q1):=hI (by simp at hM;exact ⟨hM.1.symm,hM.2.symm⟩)
    obtain ⟨o,ho⟩:∃o,o=Q1.op:=⟨_,rfl⟩
    rw[<- ho] at h1 c10
    clear hM hO ho
    go_wp2_with fail
    go_ret
    rw[HE.out.1,HE.out.2]
    exact ⟨rfl,HQ1.out,HS1.out⟩
   case pos =>
    rw[if_neg (λk=>k h1)] at hM
    rw[h1] at c10
    by_cases h2:Q1.floor<((qK Q1.S.bl).length:Int)
    . rw[if_pos h2] at hM
      have HFL:=hI h2
      by_cases h3:Q1.num (Q1.clean false)
      case neg=>rw[if_neg h3] at hM;cases hM
      case pos =>
       rw[if_pos h3] at hM
       have HE:Hid (er=0/\Q' = { Q1 with op:=Q1.clean false }):=hI (by simp at hM;exact ⟨hM.1.symm,hM.2.symm⟩)
       clear hM hO h1 h2 h3
       go_upto_region 3 with fail
       clear c10
       refine qR (λj v w'=>match j with | 0=>v=.pointer (some ⟨p,0,none⟩) | 1=>v=.pointer (some ⟨p,0,none⟩) | 2=>v=.pointer (some ⟨p,0,none⟩) | 3=>v=.pointer (some ⟨c,0,none⟩) | 4=>∃g cap,v=.slice (some ⟨g,0,none⟩) Q1.S.bl.length cap/\BLies w' (some ⟨g,0,none⟩) Q1.S.bl | 5=>∃A2 m2,v=.slice A2 (qK Q1.S.bl).length m2/\AnyW w' | 6=>v=.int .i64 ((qK Q1.S.bl).length:Int) | 7=>v=.pointer (some ⟨p,0,none⟩) | 8=>v=.pointer (some ⟨p,0,none⟩) | 9=>v=.pointer (some ⟨p,1,none⟩) | 10=>v=.agg #[.int .i64 Q1.B,.int .i64 Q1.P,.int .i64 Q1.Sp,.int .i64 Q1.K,.int .i64 Q1.U] | 11=>v=.pointer (some ⟨p,0,none⟩) | 12=>v=.int .i64 Q1.bads | 13=>v=.int .i64 Q1.floor | 14=>v=.bool true | _=>True) (λ_ w'=>Below wr.heap.size wr w') (λw1 w2=>Below w1.heap.size w1 w2) (by kernel_rfl) (by kernel_rfl) (by kernel_rfl) ?hR ?hG ?hops ?hend
       case hR =>
        intro j v w1 w2 hv hb
        match j,hv with
        | 0,hv | 1,hv | 2,hv | 3,hv=>exact hv
        | 4,⟨g,cap,e,h⟩=>exact ⟨g,cap,e,h.below hb⟩
        | 5,⟨A2,m2,e,h⟩=>exact ⟨A2,m2,e,h.below hb⟩
        | 6,hv | 7,hv | 8,hv | 9,hv | 10,hv | 11,hv | 12,hv | 13,hv | 14,hv=>exact hv
        | _+15,_=>exact trivial
       case hG=>exact bR.drew
       case hops =>
        refine oC ?_ (oC ?_ (oC ?_ (oC ?_ (oC ?_ (oC ?_ (oC ?_ (oC ?_ (oC ?_ (oC ?_ (oC ?_ (oC ?_ (oC ?_ (oC ?_ (oC ?_ OpsOkS.nil))))))))))))))
        . intro a w1 ξ γ ν ω ζ ψ κ
          have e0:=og (v:=.pointer (some ⟨p,0,none⟩)) (ω 0 (by kernel_rfl))
          refine qB (v:=.pointer (some ⟨p,0,none⟩)) (qA rfl) ?_ (κ _ w1 rfl γ bR)
          simp[execOp,go_sem,e0]
        . intro a w1 ξ γ ν ω ζ ψ κ
          have e0:=og (v:=.pointer (some ⟨p,0,none⟩)) (ν 0 (by kernel_rfl) (by kernel_rfl))
          refine qB (v:=.pointer (some ⟨p,0,none⟩)) (qA rfl) ?_ (κ _ w1 rfl γ bR)
          simp[execOp,go_sem,e0]
        . intro a w1 ξ γ ν ω ζ ψ κ
          have e0:=og (v:=.pointer (some ⟨p,0,none⟩)) (ν 1 (by kernel_rfl) (by kernel_rfl))
          refine qB (v:=.pointer (some ⟨p,0,none⟩)) (qA rfl) ?_ (κ _ w1 rfl γ bR)
          simp[execOp,go_sem,e0]
        . intro a w1 ξ γ ν ω ζ ψ κ
          have e0:=og (v:=.pointer (some ⟨p,0,none⟩)) (ν 2 (by kernel_rfl) (by kernel_rfl))
          have k0:=(γ.cell (p:=⟨p,0,none⟩) HP.out.lt).trans HP.out.c0
          refine qB (v:=.pointer (some ⟨c,0,none⟩)) (qA rfl) ?_ (κ _ w1 rfl γ bR)
          simp[execOp,go_sem,e0,k0]
        . intro a w1 ξ γ ν ω ζ ψ κ
          have e0:=og (v:=.pointer (some ⟨c,0,none⟩)) (ν 3 (by kernel_rfl) (by kernel_rfl))
          refine qM (qA rfl) (f:=21) (args:=#[.pointer (some ⟨c,0,none⟩)]) ?run ((vR (HP.out.chip.below γ) HB1.out).mono ?post)
          case run=>simp[go_sem,e0]
          case post =>
           rintro e w2 ⟨g,cap,rfl,hl,hb2⟩
           exact ⟨_,rfl,κ _ w2 ⟨g,cap,rfl,hl⟩ (γ.trans (hb2.mono γ.size)) hb2⟩
        . intro a w1 ξ γ ν ω ζ ψ κ
          obtain ⟨g,cap,qe0,he0⟩ := ν 4 (by kernel_rfl) (by kernel_rfl)
          have e0:a.tmps[15]?.getD undef=.slice (some ⟨g,0,none⟩) Q1.S.bl.length cap:=by rw[<- Array.getD_eq_getD_getElem?];exact qe0
          refine qM (qA rfl) (f:=75) (args:=#[.slice (some ⟨g,0,none⟩) Q1.S.bl.length cap]) ?run ((ym (some ⟨g,0,none⟩) cap Q1.S.bl w1 HLn.out he0).mono ?post)
          case run=>simp[go_sem,e0]
          case post =>
           rintro e w2 ⟨A2,m2,rfl,hc2,ha2,hb2⟩
           exact ⟨_,rfl,κ _ w2 ⟨A2,m2,rfl,⟨trivial⟩⟩ (γ.trans (hb2.mono γ.size)) hb2⟩
        . intro a w1 ξ γ ν ω ζ ψ κ
          obtain ⟨A2,m2,qe0,he0⟩ := ν 5 (by kernel_rfl) (by kernel_rfl)
          have e0:a.tmps[16]?.getD undef=.slice A2 (qK Q1.S.bl).length m2:=by rw[<- Array.getD_eq_getD_getElem?];exact qe0
          refine qB (v:=.int .i64 ((qK Q1.S.bl).length:Int)) (qA rfl) ?_ (κ _ w1 rfl γ bR)
          simp[go_sem,e0]
        . intro a w1 ξ γ ν ω ζ ψ κ
          have e0:=og (v:=.pointer (some ⟨p,0,none⟩)) (ω 0 (by kernel_rfl))
          refine qB (v:=.pointer (some ⟨p,0,none⟩)) (qA rfl) ?_ (κ _ w1 rfl γ bR)
          simp[execOp,go_sem,e0]
        . intro a w1 ξ γ ν ω ζ ψ κ
          have e0:=og (v:=.pointer (some ⟨p,0,none⟩)) (ν 7 (by kernel_rfl) (by kernel_rfl))
          refine qB (v:=.pointer (some ⟨p,0,none⟩)) (qA rfl) ?_ (κ _ w1 rfl γ bR)
          simp[execOp,go_sem,e0]
        . intro a w1 ξ γ ν ω ζ ψ κ
          have e0:=og (v:=.pointer (some ⟨p,0,none⟩)) (ν 8 (by kernel_rfl) (by kernel_rfl))
          refine qB (v:=.pointer (some ⟨p,1,none⟩)) (qA rfl) ?_ (κ _ w1 rfl γ bR)
          simp[execOp,go_sem,e0]
        . intro a w1 ξ γ ν ω ζ ψ κ
          have e0:=og (v:=.pointer (some ⟨p,1,none⟩)) (ν 9 (by kernel_rfl) (by kernel_rfl))
          have k1:=(γ.cell (p:=⟨p,1,none⟩) HP.out.lt).trans HP.out.c1
          have k2:=(γ.cell (p:=⟨p,2,none⟩) HP.out.lt).trans HP.out.c2
          have k3:=(γ.cell (p:=⟨p,3,none⟩) HP.out.lt).trans HP.out.c3
          have k4:=(γ.cell (p:=⟨p,4,none⟩) HP.out.lt).trans HP.out.c4
          have k5:=(γ.cell (p:=⟨p,5,none⟩) HP.out.lt).trans HP.out.c5
          refine qB (v:=.agg #[.int .i64 Q1.B,.int .i64 Q1.P,.int .i64 Q1.Sp,.int .i64 Q1.K,.int .i64 Q1.U]) (qA rfl) ?_ (κ _ w1 rfl γ bR)
          simp[execOp,go_sem,e0,k1,k2,k3,k4,k5]
        . intro a w1 ξ γ ν ω ζ ψ κ
          have e0:=og (v:=.pointer (some ⟨p,0,none⟩)) (ω 0 (by kernel_rfl))
          refine qB (v:=.pointer (some ⟨p,0,none⟩)) (qA rfl) ?_ (κ _ w1 rfl γ bR)
          simp[execOp,go_sem,e0]
        . intro a w1 ξ γ ν ω ζ ψ κ
          have e0:=og (v:=.pointer (some ⟨p,0,none⟩)) (ν 11 (by kernel_rfl) (by kernel_rfl))
          refine qM (qA rfl) (f:=32) (args:=#[.pointer (some ⟨p,0,none⟩)]) ?run ((zMm (HP.out.below γ) HO1.out).mono ?post)
          case run=>simp[go_sem,e0]
          case post =>
           rintro e w2 ⟨rfl,hb2⟩
           exact ⟨_,rfl,κ _ w2 rfl (γ.trans (hb2.mono γ.size)) hb2⟩
        . intro a w1 ξ γ ν ω ζ ψ κ
          have e0:=og (v:=.agg #[.int .i64 Q1.B,.int .i64 Q1.P,.int .i64 Q1.Sp,.int .i64 Q1.K,.int .i64 Q1.U]) (ν 10 (by kernel_rfl) (by kernel_rfl))
          have e1:=og (v:=.int .i64 Q1.bads) (ν 12 (by kernel_rfl) (by kernel_rfl))
          refine qM (qA rfl) (f:=76) (args:=#[.agg #[.int .i64 Q1.B,.int .i64 Q1.P,.int .i64 Q1.Sp,.int .i64 Q1.K,.int .i64 Q1.U],.int .i64 Q1.bads]) ?run ((zDw Q1.B Q1.P Q1.Sp Q1.K Q1.U Q1.bads w1 HBW.out).mono ?post)
          case run=>simp[go_sem,e0,e1]
          case post =>
           rintro e w2 ⟨rfl,hb2⟩
           exact ⟨_,rfl,κ _ w2 rfl (γ.trans (hb2.mono γ.size)) hb2⟩
        . intro a w1 ξ γ ν ω ζ ψ κ
          have e0:=og (v:=.int .i64 ((qK Q1.S.bl).length:Int)) (ν 6 (by kernel_rfl) (by kernel_rfl))
          have e1:=og (v:=.int .i64 Q1.floor) (ν 13 (by kernel_rfl) (by kernel_rfl))
          refine qB (v:=.bool true) (qA rfl) ?_ (κ _ w1 rfl γ bR)
          simp[execOp,go_sem,e0,e1];exact HFL.out
       case hend =>
        intro a w6 hG hde hsz hφ hold
        obtain ⟨g_4,cap_4,hv_4,hp_4⟩:=hφ 4 (by kernel_rfl)
        obtain ⟨A2_5,m2_5,hv_5,hp_5⟩:=hφ 5 (by kernel_rfl)
        obtain rfl:=qy [(11,.pointer (some ⟨p,0,none⟩)),(12,.pointer (some ⟨p,0,none⟩)),(13,.pointer (some ⟨p,0,none⟩)),(14,.pointer (some ⟨c,0,none⟩)),(15,.slice (some ⟨g_4,0,none⟩) Q1.S.bl.length cap_4),(16,.slice A2_5 (qK Q1.S.bl).length m2_5),(17,.int .i64 ((qK Q1.S.bl).length:Int)),(18,.pointer (some ⟨p,0,none⟩)),(19,.pointer (some ⟨p,0,none⟩)),(20,.pointer (some ⟨p,1,none⟩)),(21,.agg #[.int .i64 Q1.B,.int .i64 Q1.P,.int .i64 Q1.Sp,.int .i64 Q1.K,.int .i64 Q1.U]),(22,.pointer (some ⟨p,0,none⟩)),(23,.int .i64 Q1.bads),(24,.int .i64 Q1.floor),(25,.bool true)] [11,12,13,14,15,16,17,18,19,20,21,22,23,24,25] rfl (by kernel_rfl) (by kernel_rfl) hde hsz (fC ⟨(hφ 0 (by kernel_rfl)),(fC ⟨(hφ 1 (by kernel_rfl)),(fC ⟨(hφ 2 (by kernel_rfl)),(fC ⟨(hφ 3 (by kernel_rfl)),(fC ⟨(show a.tmps.getD 15 undef=.slice (some ⟨g_4,0,none⟩) Q1.S.bl.length cap_4 from hv_4),(fC ⟨(show a.tmps.getD 16 undef=.slice A2_5 (qK Q1.S.bl).length m2_5 from hv_5),(fC ⟨(hφ 6 (by kernel_rfl)),(fC ⟨(hφ 7 (by kernel_rfl)),(fC ⟨(hφ 8 (by kernel_rfl)),(fC ⟨(hφ 9 (by kernel_rfl)),(fC ⟨(hφ 10 (by kernel_rfl)),(fC ⟨(hφ 11 (by kernel_rfl)),(fC ⟨(hφ 12 (by kernel_rfl)),(fC ⟨(hφ 13 (by kernel_rfl)),(fC ⟨(hφ 14 (by kernel_rfl)),(λ_ h=>absurd h (by simp))⟩)⟩)⟩)⟩)⟩)⟩)⟩)⟩)⟩)⟩)⟩)⟩)⟩)⟩)⟩) hold
        clear hφ hold hsz hde hv_4 hv_5
        simp only[qd]
        go_frame
        have c10:=(HP.out.below hG).c10
        go_wp2_with (go_at_call 146;(with_reducible refine (q_cold (HP.out.below hG) HO1.out).mono ?_);rintro e w7 ⟨rfl,hb7⟩;have HB7:Hid (Below wr.heap.size wr w7):=hI (hG.trans (hb7.mono hG.size));have d10:=(HP.out.below HB7.out).c10;have fr10:=(HP.out.below HB7.out).fr 10;clear hb7)
        go_ret
        rw[HE.out.1,HE.out.2]
        have k:=Pool.set (j:=10) (u:=.int .i64 (Q1.clean false)) (Q' := { Q1 with op:=Q1.clean false }) (HQ1.out.below HB7.out) rfl rfl rfl (λl f=>by simp[PS.cells])
        exact ⟨rfl,k.1,(HS1.out.then (qC HB7.out)).then k.2⟩
    . rw[if_neg h2] at hM
      have HFL:Hid (((qK Q1.S.bl).length:Int)<=Q1.floor):=hI (by omega)
      cases hr:Q1.empty n with
      | none=>rw[hr] at hM;cases hM
      | some R =>
       obtain ⟨e1,Q2⟩:=R
       rw[hr] at hM
       simp only at hM
       have HR:=hI hr
       have HO2:=hI (hO.empty hr)
       clear hr hO h1 h2
       have HM3:=hI hM
       clear hM
       go_upto_region 3 with fail
       clear c10
       refine qR (λj v w'=>match j with | 0=>v=.pointer (some ⟨p,0,none⟩) | 1=>v=.pointer (some ⟨p,0,none⟩) | 2=>v=.pointer (some ⟨p,0,none⟩) | 3=>v=.pointer (some ⟨c,0,none⟩) | 4=>∃g cap,v=.slice (some ⟨g,0,none⟩) Q1.S.bl.length cap/\BLies w' (some ⟨g,0,none⟩) Q1.S.bl | 5=>∃A2 m2,v=.slice A2 (qK Q1.S.bl).length m2/\AnyW w' | 6=>v=.int .i64 ((qK Q1.S.bl).length:Int) | 7=>v=.pointer (some ⟨p,0,none⟩) | 8=>v=.pointer (some ⟨p,0,none⟩) | 9=>v=.pointer (some ⟨p,1,none⟩) | 10=>v=.agg #[.int .i64 Q1.B,.int .i64 Q1.P,.int .i64 Q1.Sp,.int .i64 Q1.K,.int .i64 Q1.U] | 11=>v=.pointer (some ⟨p,0,none⟩) | 12=>v=.int .i64 Q1.bads | 13=>v=.int .i64 Q1.floor | 14=>v=.bool false | _=>True) (λ_ w'=>Below wr.heap.size wr w') (λw1 w2=>Below w1.heap.size w1 w2) (by kernel_rfl) (by kernel_rfl) (by kernel_rfl) ?hR ?hG ?hops ?hend
       case hR =>
        intro j v w1 w2 hv hb
        match j,hv with
        | 0,hv | 1,hv | 2,hv | 3,hv=>exact hv
        | 4,⟨g,cap,e,h⟩=>exact ⟨g,cap,e,h.below hb⟩
        | 5,⟨A2,m2,e,h⟩=>exact ⟨A2,m2,e,h.below hb⟩
        | 6,hv | 7,hv | 8,hv | 9,hv | 10,hv | 11,hv | 12,hv | 13,hv | 14,hv=>exact hv
        | _+15,_=>exact trivial
       case hG=>exact bR.drew
       case hops =>
        refine oC ?_ (oC ?_ (oC ?_ (oC ?_ (oC ?_ (oC ?_ (oC ?_ (oC ?_ (oC ?_ (oC ?_ (oC ?_ (oC ?_ (oC ?_ (oC ?_ (oC ?_ OpsOkS.nil))))))))))))))
        . intro a w1 ξ γ ν ω ζ ψ κ
          have e0:=og (v:=.pointer (some ⟨p,0,none⟩)) (ω 0 (by kernel_rfl))
          refine qB (v:=.pointer (some ⟨p,0,none⟩)) (qA rfl) ?_ (κ _ w1 rfl γ bR)
          simp[execOp,go_sem,e0]
        . intro a w1 ξ γ ν ω ζ ψ κ
          have e0:=og (v:=.pointer (some ⟨p,0,none⟩)) (ν 0 (by kernel_rfl) (by kernel_rfl))
          refine qB (v:=.pointer (some ⟨p,0,none⟩)) (qA rfl) ?_ (κ _ w1 rfl γ bR)
          simp[execOp,go_sem,e0]
        . intro a w1 ξ γ ν ω ζ ψ κ
          have e0:=og (v:=.pointer (some ⟨p,0,none⟩)) (ν 1 (by kernel_rfl) (by kernel_rfl))
          refine qB (v:=.pointer (some ⟨p,0,none⟩)) (qA rfl) ?_ (κ _ w1 rfl γ bR)
          simp[execOp,go_sem,e0]
        . intro a w1 ξ γ ν ω ζ ψ κ
          have e0:=og (v:=.pointer (some ⟨p,0,none⟩)) (ν 2 (by kernel_rfl) (by kernel_rfl))
          have k0:=(γ.cell (p:=⟨p,0,none⟩) HP.out.lt).trans HP.out.c0
          refine qB (v:=.pointer (some ⟨c,0,none⟩)) (qA rfl) ?_ (κ _ w1 rfl γ bR)
          simp[execOp,go_sem,e0,k0]
        . intro a w1 ξ γ ν ω ζ ψ κ
          have e0:=og (v:=.pointer (some ⟨c,0,none⟩)) (ν 3 (by kernel_rfl) (by kernel_rfl))
          refine qM (qA rfl) (f:=21) (args:=#[.pointer (some ⟨c,0,none⟩)]) ?run ((vR (HP.out.chip.below γ) HB1.out).mono ?post)
          case run=>simp[go_sem,e0]
          case post =>
           rintro e w2 ⟨g,cap,rfl,hl,hb2⟩
           exact ⟨_,rfl,κ _ w2 ⟨g,cap,rfl,hl⟩ (γ.trans (hb2.mono γ.size)) hb2⟩
        . intro a w1 ξ γ ν ω ζ ψ κ
          obtain ⟨g,cap,qe0,he0⟩ := ν 4 (by kernel_rfl) (by kernel_rfl)
          have e0:a.tmps[15]?.getD undef=.slice (some ⟨g,0,none⟩) Q1.S.bl.length cap:=by rw[<- Array.getD_eq_getD_getElem?];exact qe0
          refine qM (qA rfl) (f:=75) (args:=#[.slice (some ⟨g,0,none⟩) Q1.S.bl.length cap]) ?run ((ym (some ⟨g,0,none⟩) cap Q1.S.bl w1 HLn.out he0).mono ?post)
          case run=>simp[go_sem,e0]
          case post =>
           rintro e w2 ⟨A2,m2,rfl,hc2,ha2,hb2⟩
           exact ⟨_,rfl,κ _ w2 ⟨A2,m2,rfl,⟨trivial⟩⟩ (γ.trans (hb2.mono γ.size)) hb2⟩
        . intro a w1 ξ γ ν ω ζ ψ κ
          obtain ⟨A2,m2,qe0,he0⟩ := ν 5 (by kernel_rfl) (by kernel_rfl)
          have e0:a.tmps[16]?.getD undef=.slice A2 (qK Q1.S.bl).length m2:=by rw[<- Array.getD_eq_getD_getElem?];exact qe0
          refine qB (v:=.int .i64 ((qK Q1.S.bl).length:Int)) (qA rfl) ?_ (κ _ w1 rfl γ bR)
          simp[go_sem,e0]
        . intro a w1 ξ γ ν ω ζ ψ κ
          have e0:=og (v:=.pointer (some ⟨p,0,none⟩)) (ω 0 (by kernel_rfl))
          refine qB (v:=.pointer (some ⟨p,0,none⟩)) (qA rfl) ?_ (κ _ w1 rfl γ bR)
          simp[execOp,go_sem,e0]
        . intro a w1 ξ γ ν ω ζ ψ κ
          have e0:=og (v:=.pointer (some ⟨p,0,none⟩)) (ν 7 (by kernel_rfl) (by kernel_rfl))
          refine qB (v:=.pointer (some ⟨p,0,none⟩)) (qA rfl) ?_ (κ _ w1 rfl γ bR)
          simp[execOp,go_sem,e0]
        . intro a w1 ξ γ ν ω ζ ψ κ
          have e0:=og (v:=.pointer (some ⟨p,0,none⟩)) (ν 8 (by kernel_rfl) (by kernel_rfl))
          refine qB (v:=.pointer (some ⟨p,1,none⟩)) (qA rfl) ?_ (κ _ w1 rfl γ bR)
          simp[execOp,go_sem,e0]
        . intro a w1 ξ γ ν ω ζ ψ κ
          have e0:=og (v:=.pointer (some ⟨p,1,none⟩)) (ν 9 (by kernel_rfl) (by kernel_rfl))
          have k1:=(γ.cell (p:=⟨p,1,none⟩) HP.out.lt).trans HP.out.c1
          have k2:=(γ.cell (p:=⟨p,2,none⟩) HP.out.lt).trans HP.out.c2
          have k3:=(γ.cell (p:=⟨p,3,none⟩) HP.out.lt).trans HP.out.c3
          have k4:=(γ.cell (p:=⟨p,4,none⟩) HP.out.lt).trans HP.out.c4
          have k5:=(γ.cell (p:=⟨p,5,none⟩) HP.out.lt).trans HP.out.c5
          refine qB (v:=.agg #[.int .i64 Q1.B,.int .i64 Q1.P,.int .i64 Q1.Sp,.int .i64 Q1.K,.int .i64 Q1.U]) (qA rfl) ?_ (κ _ w1 rfl γ bR)
          simp[execOp,go_sem,e0,k1,k2,k3,k4,k5]
        . intro a w1 ξ γ ν ω ζ ψ κ
          have e0:=og (v:=.pointer (some ⟨p,0,none⟩)) (ω 0 (by kernel_rfl))
          refine qB (v:=.pointer (some ⟨p,0,none⟩)) (qA rfl) ?_ (κ _ w1 rfl γ bR)
          simp[execOp,go_sem,e0]
        . intro a w1 ξ γ ν ω ζ ψ κ
          have e0:=og (v:=.pointer (some ⟨p,0,none⟩)) (ν 11 (by kernel_rfl) (by kernel_rfl))
          refine qM (qA rfl) (f:=32) (args:=#[.pointer (some ⟨p,0,none⟩)]) ?run ((zMm (HP.out.below γ) HO1.out).mono ?post)
          case run=>simp[go_sem,e0]
          case post =>
           rintro e w2 ⟨rfl,hb2⟩
           exact ⟨_,rfl,κ _ w2 rfl (γ.trans (hb2.mono γ.size)) hb2⟩
        . intro a w1 ξ γ ν ω ζ ψ κ
          have e0:=og (v:=.agg #[.int .i64 Q1.B,.int .i64 Q1.P,.int .i64 Q1.Sp,.int .i64 Q1.K,.int .i64 Q1.U]) (ν 10 (by kernel_rfl) (by kernel_rfl))
          have e1:=og (v:=.int .i64 Q1.bads) (ν 12 (by kernel_rfl) (by kernel_rfl))
          refine qM (qA rfl) (f:=76) (args:=#[.agg #[.int .i64 Q1.B,.int .i64 Q1.P,.int .i64 Q1.Sp,.int .i64 Q1.K,.int .i64 Q1.U],.int .i64 Q1.bads]) ?run ((zDw Q1.B Q1.P Q1.Sp Q1.K Q1.U Q1.bads w1 HBW.out).mono ?post)
          case run=>simp[go_sem,e0,e1]
          case post =>
           rintro e w2 ⟨rfl,hb2⟩
           exact ⟨_,rfl,κ _ w2 rfl (γ.trans (hb2.mono γ.size)) hb2⟩
        . intro a w1 ξ γ ν ω ζ ψ κ
          have e0:=og (v:=.int .i64 ((qK Q1.S.bl).length:Int)) (ν 6 (by kernel_rfl) (by kernel_rfl))
          have e1:=og (v:=.int .i64 Q1.floor) (ν 13 (by kernel_rfl) (by kernel_rfl))
          refine qB (v:=.bool false) (qA rfl) ?_ (κ _ w1 rfl γ bR)
          simp[execOp,go_sem,e0,e1];exact HFL.out
       case hend =>
        intro a w6 hG hde hsz hφ hold
        obtain ⟨g_4,cap_4,hv_4,hp_4⟩:=hφ 4 (by kernel_rfl)
        obtain ⟨A2_5,m2_5,hv_5,hp_5⟩:=hφ 5 (by kernel_rfl)
        obtain rfl:=qy [(11,.pointer (some ⟨p,0,none⟩)),(12,.pointer (some ⟨p,0,none⟩)),(13,.pointer (some ⟨p,0,none⟩)),(14,.pointer (some ⟨c,0,none⟩)),(15,.slice (some ⟨g_4,0,none⟩) Q1.S.bl.length cap_4),(16,.slice A2_5 (qK Q1.S.bl).length m2_5),(17,.int .i64 ((qK Q1.S.bl).length:Int)),(18,.pointer (some ⟨p,0,none⟩)),(19,.pointer (some ⟨p,0,none⟩)),(20,.pointer (some ⟨p,1,none⟩)),(21,.agg #[.int .i64 Q1.B,.int .i64 Q1.P,.int .i64 Q1.Sp,.int .i64 Q1.K,.int .i64 Q1.U]),(22,.pointer (some ⟨p,0,none⟩)),(23,.int .i64 Q1.bads),(24,.int .i64 Q1.floor),(25,.bool false)] [11,12,13,14,15,16,17,18,19,20,21,22,23,24,25] rfl (by kernel_rfl) (by kernel_rfl) hde hsz (fC ⟨(hφ 0 (by kernel_rfl)),(fC ⟨(hφ 1 (by kernel_rfl)),(fC ⟨(hφ 2 (by kernel_rfl)),(fC ⟨(hφ 3 (by kernel_rfl)),(fC ⟨(show a.tmps.getD 15 undef=.slice (some ⟨g_4,0,none⟩) Q1.S.bl.length cap_4 from hv_4),(fC ⟨(show a.tmps.getD 16 undef=.slice A2_5 (qK Q1.S.bl).length m2_5 from hv_5),(fC ⟨(hφ 6 (by kernel_rfl)),(fC ⟨(hφ 7 (by kernel_rfl)),(fC ⟨(hφ 8 (by kernel_rfl)),(fC ⟨(hφ 9 (by kernel_rfl)),(fC ⟨(hφ 10 (by kernel_rfl)),(fC ⟨(hφ 11 (by kernel_rfl)),(fC ⟨(hφ 12 (by kernel_rfl)),(fC ⟨(hφ 13 (by kernel_rfl)),(fC ⟨(hφ 14 (by kernel_rfl)),(λ_ h=>absurd h (by simp))⟩)⟩)⟩)⟩)⟩)⟩)⟩)⟩)⟩)⟩)⟩)⟩)⟩)⟩)⟩) hold
        clear hφ hold hsz hde hv_4 hv_5
        simp only[qd]
        go_frame
        by_cases he:e1=0
        . have HM2:Hid (PS.beginLoop n k1 Q2=some (er,Q')):=hI (by have:=HM3.out;rw[if_pos he] at this;exact this)
          subst he
          clear HM3
          go_wp2_with (go_at_call 148;(with_reducible refine (zXm n (HQ1.out.below hG) HO1.out HR.out).mono ?_);rintro e w7 ⟨rfl,h7,hs7⟩;have HP7:=hI h7;have HS7:=hI hs7;clear h7 hs7)
          go_roundg k1
          case measure=>omega
          case rel=>exact ⟨Q2,HP7.out,HO2.out,HM2.out,(HS1.out.then (qC hG)).then HS7.out⟩
        . have HE:Hid (er=e1/\Q'=Q2):=hI (by have hM:=HM3.out;rw[if_neg he] at hM;simp at hM;exact ⟨hM.1.symm,hM.2.symm⟩)
          clear HM3
          go_wp2_with (go_at_call 148;(with_reducible refine (zXm n (HQ1.out.below hG) HO1.out HR.out).mono ?_);rintro e w7 ⟨rfl,h7,hs7⟩;have HP7:=hI h7;have HS7:=hI hs7;clear h7 hs7)
          go_ret
          rw[HE.out.1,HE.out.2]
          exact ⟨rfl,HP7.out,(HS1.out.then (qC hG)).then HS7.out⟩
end
end
section
open Go.RowKit
section
variable {w w' V:World} {p c l f:Nat} {x y X Y Z:Nat->Prop} {Q Q1:PS} {T:List Fd}
theorem zIp (b:Bool) (x y:Int) (A:Option Addr) (n c:Nat) (w:World):(Instr.field 101 (.agg #[.bool b,.int .i64 x,.int .i64 y,.slice A n c]) 1).run Tryz.prog w=.ok (.int .i64 x) w:=by
 simp[Instr.field,go_sem]
 rfl
theorem vz {r:Nat} (h:Safe x w V) (hr:w.heap.size<=r) (a b:Value):Safe x w ((V.setCell ⟨r,0,none⟩ a).setCell ⟨r,1,none⟩ b) :=
 (Turned.setCell (Turned.setCell h (p:=⟨r,0,none⟩) (λk=>absurd k (Nat.not_lt.2 hr)) a) (p:=⟨r,1,none⟩) (λk=>absurd k (Nat.not_lt.2 hr)) b)
theorem Pool.two {r:Nat} (h:Pool V p c x Q) (hr:x r) (a b:Value):Pool ((V.setCell ⟨r,0,none⟩ a).setCell ⟨r,1,none⟩ b) p c x Q :=
 h.turned (((Turned.refl x V).setCell (p:=⟨r,0,none⟩) (λ_=>hr) a).setCell (p:=⟨r,1,none⟩) (λ_=>hr) b)
theorem Ok.write {n:Nat} {b:List UInt8} : ∀(k:Nat) (Q:PS) {s:P2} {er:Int} {Q':PS},Ok Q->PS.write n b k Q=some (s,er,Q')->Ok Q':=by
 intro k
 induction k with
 | zero=>intro Q s er Q' h hm;cases hm
 | succ k ih =>
  intro Q s er Q' h hm
  unfold PS.write at hm
  split at hm
  . cases hm
  . next h1 =>
    split at hm
    . split at hm
      . cases hm;exact (h.begin h1).prog _ _ _
      . split at hm
        . exact ih _ ((h.begin h1).prog _ _ _) hm
        . cases hm;exact (h.begin h1).prog _ _ _
    . cases hm;exact h.begin h1
theorem q_write (n k:Nat) (A:Option Addr) (m:Nat) (bts:List UInt8) {s:P2} {er:Int} {Q':PS} (h:Pool w p c x Q) (ok:Ok Q) (hb:CB w x A bts) (hm:PS.write n bts k Q=some (s,er,Q')):Calls Tryz.prog 88 #[.pointer (some ⟨p,0,none⟩),.slice A bts.length m] w λr w'=>r=.returned (.tuple #[P2V s,.int .i64 er])/\Pool w' p c x Q'/\Safe x w w':=by
 have HX:=hI h.there
 obtain ⟨W,hW⟩:∃W,w.alloc (.cells #[.int .i64 0,.int .i64 0] 69)=W:=⟨_,rfl⟩
 have HBW:Hid (Below w.heap.size w W):=hI (by rw[<- hW];exact bR.alloc nL _)
 have HRB:Hid (W.heap[w.heap.size]? = some (.cells #[.int .i64 0,.int .i64 0] 69 (0,0))):=hI (by rw[<- hW];exact heap_alloc_new _ _)
 have hrlt:=qD HRB.out
 have HPW:Hid (Pool W p c (λb=>x b\/b=w.heap.size) Q):=hI ((h.more HBW.out).less λb k=>k.imp id λe=>⟨by omega,by omega⟩)
 have HCB:Hid (CB W (λb=>x b\/b=w.heap.size) A bts):=hI (hb.keep (λb k=>HBW.out.block b (HX.out b k)) λb k=>.inl k)
 have HO:=hI ok
 have HM:=hI hm
 have HRR:Hid (∀V,Safe (λb=>x b\/b=w.heap.size) W V->V.heap[w.heap.size]? = some (.cells #[.int .i64 0,.int .i64 0] 69 (0,0))):=hI λV hV=>(hV.block hrlt (.inr rfl)).trans HRB.out
 have HX1:Hid (∀b,(x b\/b=w.heap.size)->(x b\/b=w.heap.size)/\b<W.heap.size):=hI λb k=>⟨k,HPW.out.there b k⟩
 clear h ok hb hm
 go_enter Tryz.func88,Tryz.ntmps88
 go_wp2_with fail
 clear hW
 go_loopg [6,8] k (λk _ _ wr=>∃Q1,Pool wr p c (λb=>x b\/b=w.heap.size) Q1/\Ok Q1/\PS.write n bts k Q1=some (s,er,Q')/\Safe (λb=>x b\/b=w.heap.size) W wr)
 case atStart=>exact ⟨Q,HPW.out,HO.out,HM.out,.refl _ _⟩
 case round =>
  obtain ⟨Q1,hP,hO,hM,hS⟩:=hrel
  have HP1:=hI hP
  have HO1:=hI hO
  have HS1:=hI hS
  clear hP hS
  cases gk with
  | zero=>cases hM
  | succ k1 =>
   unfold PS.write at hM
   cases hr:Q1.begin n with
   | none=>rw[hr] at hM;cases hM
   | some R =>
    obtain ⟨e1,Q2⟩:=R
    rw[hr] at hM
    simp only at hM
    have HR:=hI hr
    have HO2:=hI (hO.begin hr)
    clear hr hO
    by_cases he:e1=0
    case neg =>
     rw[if_neg he] at hM
     have HE:Hid (s=(0,0)/\er=e1/\Q'=Q2):=hI (by simp at hM;exact ⟨hM.1.symm,hM.2.1.symm,hM.2.2.symm⟩)
     clear hM
     go_upto_region 3 with (go_at_call 118;(with_reducible refine (zXn n HP1.out HO1.out HR.out).mono ?_);rintro e w2 ⟨rfl,h2,hs2⟩;have HP2:=hI h2;have HS2:Hid (Safe (λb=>x b\/b=w.heap.size) W w2):=hI (HS1.out.then hs2);clear h2 hs2)
     obtain ⟨f0,f1,fr0,fr1⟩:=qG (HRR.out w2 HS2.out)
     obtain ⟨m0,m1,-,-⟩:=qG (vB (HRR.out w2 HS2.out) (.int .i64 0) (.int .i64 0))
     go_wp2_with fail
     refine bodyPost_ret (by simp[results,Tryz.results88,go_sem,m0,m1];try rfl) rfl ?_
     rw[HE.out.1,HE.out.2.1,HE.out.2.2]
     exact ⟨rfl,(HP2.out.two (.inr rfl) _ _).less λb k=>.inl k,vz ((qC HBW.out).then' HS2.out λ_ _ k=>.inl k) nL _ _⟩
    case pos =>
     rw[if_pos he] at hM
     subst he
     have HM3:=hI hM
     clear hM
     go_upto_region 4 with (go_at_call 118;(with_reducible refine (zXn n HP1.out HO1.out HR.out).mono ?_);rintro e w2 ⟨rfl,h2,hs2⟩;have HP2:=hI h2;have HS2:Hid (Safe (λb=>x b\/b=w.heap.size) W w2):=hI (HS1.out.then hs2);clear h2 hs2)
     obtain ⟨l2,f2,hpt2⟩:=HP2.out.parts
     have c0:=hpt2.c0
     have c10:=hpt2.c10
     have HT2:=hI hpt2
     have HSK:Hid (∀V,Below w2.heap.size w2 V->V.cell? ⟨p,0,none⟩=some (.pointer (some ⟨c,0,none⟩))/\V.cell? ⟨p,10,none⟩=some (.int .i64 Q2.op)):=hI λV hV=>⟨(hpt2.below hV).c0,(hpt2.below hV).c10⟩
     clear hpt2
     go_region_held3 (λV=>V.cell? ⟨p,0,none⟩=some (.pointer (some ⟨c,0,none⟩))/\V.cell? ⟨p,10,none⟩=some (.int .i64 Q2.op))
      (first | exact ⟨c0,c10⟩ | exact HSK.out _ HBB.out | exact HSK.out _ (HBB.out.alloc HBB.out.size _) | exact HSK.out _ (bR.alloc nL _).drew | exact HSK.out _ (bR.alloc nL _) | exact HSK.out _ ((HBB.out.setCell nL _).setCell nL _))
      (first
       | (go_at_call 48;(with_reducible refine (zBc Q2.op (HT2.out.chip.below bR.drew)).mono ?_);rintro e w3 ⟨pv,rfl,⟨A9,c9,rfl,_⟩,hb3⟩;have fnx:=zIp (qI Q2.S Q2.op).bad (qI Q2.S Q2.op).next (qI Q2.S Q2.op).count A9 (qI Q2.S Q2.op).pages.length c9;have HBB:Hid (Below w2.heap.size w2 w3):=hI (bR.drew.trans hb3))
       | (go_at_call 48;(with_reducible refine (zBc Q2.op (HT2.out.chip.below (bR.alloc nL _).drew)).mono ?_);rintro e w3 ⟨pv,rfl,⟨A9,c9,rfl,_⟩,hb3⟩;have fnx:=zIp (qI Q2.S Q2.op).bad (qI Q2.S Q2.op).next (qI Q2.S Q2.op).count A9 (qI Q2.S Q2.op).pages.length c9;have HBB:Hid (Below w2.heap.size w2 w3):=hI ((bR.alloc nL _).drew.trans (hb3.mono (by simp)));obtain ⟨n0,n1,n2,n3⟩:=qG ((hb3.block w2.heap.size (by simp)).trans (heap_alloc_new w2 _))))
     . obtain ⟨V,hV⟩:∃V,w3.alloc (.cells #[.int .i64 Q2.op,.int .i64 (qI Q2.S Q2.op).next] 69)=V:=⟨_,rfl⟩
       have HBV:Hid (Below w2.heap.size w2 V):=hI (by rw[<- hV];exact HBB.out.alloc HBB.out.size _)
       have hg:V.heap[w3.heap.size]? = some (.cells #[.int .i64 Q2.op,.int .i64 (qI Q2.S Q2.op).next] 69 (0,0)):=by rw[<- hV];exact heap_alloc_new w3 _
       rw[hV]
       obtain ⟨g0,g1,-,-⟩:=qG hg
       have hgl:=qD hg
       have hgn:New w2 V w3.heap.size:=⟨HBB.out.size,hgl⟩
       generalize w3.heap.size=gz at g0 g1 hgl hgn ⊢
       clear hV hg hb3 c0 c10 fnx
       have HATV:=hI (HT2.out.below HBV.out)
       have d0:=HATV.out.c0
       have HPV:Hid (Pool V p c (λb=>(x b\/b=w.heap.size)\/New w2 V b) Q2):=hI (HP2.out.more HBV.out)
       have HCV:Hid (CB V (λb=>(x b\/b=w.heap.size)\/New w2 V b) A bts):=hI (((HCB.out.safe HS2.out HX1.out λ_ k=>k).keep (λb k=>HBV.out.block b (Nat.lt_of_lt_of_le (HX1.out b k).2 HS2.out.size)) λb k=>.inl k))
       obtain ⟨⟨eP,S5⟩,hp5⟩:∃R,R=qU Q2.S Q2.op (qI Q2.S Q2.op).next bts:=⟨_,rfl⟩
       have HPE:Hid ((qU Q2.S Q2.op (qI Q2.S Q2.op).next bts).1=eP):=hI (by rw[<- hp5])
       have HPS:Hid ((qU Q2.S Q2.op (qI Q2.S Q2.op).next bts).2=S5):=hI (by rw[<- hp5])
       have HO5:Hid (Ok { Q2 with S:=(qU Q2.S Q2.op (qI Q2.S Q2.op).next bts).2 }):=hI (HO2.out.prog _ _ _)
       have HM4:Hid ((if eP=0 then some (Q2.nextAt,0,({ Q2 with S:=(qU Q2.S Q2.op (qI Q2.S Q2.op).next bts).2 } : PS)) else if ({ Q2 with S:=(qU Q2.S Q2.op (qI Q2.S Q2.op).next bts).2 } : PS).passed eP=0 then PS.write n bts k1 { Q2 with S:=(qU Q2.S Q2.op (qI Q2.S Q2.op).next bts).2 } else some ((0,0),({ Q2 with S:=(qU Q2.S Q2.op (qI Q2.S Q2.op).next bts).2 } : PS).passed eP,{ Q2 with S:=(qU Q2.S Q2.op (qI Q2.S Q2.op).next bts).2 }))=some (s,er,Q')):=hI (by rw[<- HPE.out];exact HM3.out)
       clear hp5
       by_cases hp:eP=0
       . subst hp
         have HE:Hid (s=(Q2.op,(qI Q2.S Q2.op).next)/\er=0/\Q' = { Q2 with S:=(qU Q2.S Q2.op (qI Q2.S Q2.op).next bts).2 }):=hI (by have hM:=HM4.out;rw[if_pos rfl] at hM;have:=Option.some.inj hM;exact ⟨(congrArg (λz:P2 × Int × PS=>z.1) this).symm,(congrArg (λz:P2 × Int × PS=>z.2.1) this).symm,(congrArg (λz:P2 × Int × PS=>z.2.2) this).symm⟩)
         clear HM4
         go_upto_region 5 with fail
         go_region_held3 (λV=>V.cell? ⟨p,0,none⟩=some (.pointer (some ⟨c,0,none⟩))/\V.cell? ⟨gz,0,none⟩=some (.int .i64 Q2.op)/\V.cell? ⟨gz,1,none⟩=some (.int .i64 (qI Q2.S Q2.op).next))
          (first | exact ⟨d0,g0,g1⟩ | exact HK5.out)
          (first
           | (go_at_call 119;(with_reducible refine (Pool.prog A bts.length m bts Q2.op (qI Q2.S Q2.op).next rfl (HPV.out.below bR.drew) (HCV.out.keep (λ_ _=>rfl) λ_ k=>k)).mono ?_);rintro e w5 ⟨rfl,h5,hs5⟩;rw[HPE.out];have HP5:=hI h5;have HS5:Hid (Safe (λb=>(x b\/b=w.heap.size)\/New w2 V b) V w5):=hI ((qC bR.drew).then hs5);obtain ⟨l5,f5,hpt5⟩:=h5.parts;have HT5:=hI hpt5;have HK5:Hid (w5.cell? ⟨p,0,none⟩=some (.pointer (some ⟨c,0,none⟩))/\w5.cell? ⟨gz,0,none⟩=some (.int .i64 Q2.op)/\w5.cell? ⟨gz,1,none⟩=some (.int .i64 (qI Q2.S Q2.op).next)):=hI ⟨hpt5.c0,(World.cell?_of_block (a:=⟨gz,0,none⟩) (HS5.out.block hgl (.inr hgn))).trans g0,(World.cell?_of_block (a:=⟨gz,1,none⟩) (HS5.out.block hgl (.inr hgn))).trans g1⟩;have HS15:Hid (Safe (λb=>x b\/b=w.heap.size) W w5):=hI ((HS2.out.then (qC HBV.out)).then' HS5.out λ_ _ k=>.inl k);clear h5 hs5 hpt5))
         obtain ⟨-,k0,k1⟩:=HK5.out
         obtain ⟨f0,f1,fr0,fr1⟩:=qG (HRR.out w5 HS15.out)
         obtain ⟨m0,m1,-,-⟩:=qG (vB (HRR.out w5 HS15.out) (.int .i64 Q2.op) (.int .i64 (qI Q2.S Q2.op).next))
         go_wp2_with fail
         refine bodyPost_ret (by simp[results,Tryz.results88,go_sem,m0,m1];try rfl) rfl ?_
         rw[HE.out.1,HE.out.2.1,HE.out.2.2]
         exact ⟨rfl,(HP5.out.two (.inl (.inr rfl)) _ _).less λb k=>.inl (.inl k),vz ((qC HBW.out).then' HS15.out λ_ _ k=>.inl k) nL _ _⟩
       . by_cases hq:({ Q2 with S:=(qU Q2.S Q2.op (qI Q2.S Q2.op).next bts).2 } : PS).passed eP=0
         . have HM5:Hid (PS.write n bts k1 { Q2 with S:=(qU Q2.S Q2.op (qI Q2.S Q2.op).next bts).2 } = some (s,er,Q')):=hI (by have hM:=HM4.out;rw[if_neg hp,if_pos hq] at hM;exact hM)
           have HQ0:=hI hq
           clear HM4 hq
           go_upto_region 5 with fail
           go_region_held3 (λV=>V.cell? ⟨p,0,none⟩=some (.pointer (some ⟨c,0,none⟩))/\V.cell? ⟨gz,0,none⟩=some (.int .i64 Q2.op)/\V.cell? ⟨gz,1,none⟩=some (.int .i64 (qI Q2.S Q2.op).next))
            (first | exact ⟨d0,g0,g1⟩ | exact HK5.out)
            (first
             | (go_at_call 119;(with_reducible refine (Pool.prog A bts.length m bts Q2.op (qI Q2.S Q2.op).next rfl (HPV.out.below bR.drew) (HCV.out.keep (λ_ _=>rfl) λ_ k=>k)).mono ?_);rintro e w5 ⟨rfl,h5,hs5⟩;rw[HPE.out];have HP5:=hI h5;have HS5:Hid (Safe (λb=>(x b\/b=w.heap.size)\/New w2 V b) V w5):=hI ((qC bR.drew).then hs5);obtain ⟨l5,f5,hpt5⟩:=h5.parts;have HT5:=hI hpt5;have HK5:Hid (w5.cell? ⟨p,0,none⟩=some (.pointer (some ⟨c,0,none⟩))/\w5.cell? ⟨gz,0,none⟩=some (.int .i64 Q2.op)/\w5.cell? ⟨gz,1,none⟩=some (.int .i64 (qI Q2.S Q2.op).next)):=hI ⟨hpt5.c0,(World.cell?_of_block (a:=⟨gz,0,none⟩) (HS5.out.block hgl (.inr hgn))).trans g0,(World.cell?_of_block (a:=⟨gz,1,none⟩) (HS5.out.block hgl (.inr hgn))).trans g1⟩;have HS15:Hid (Safe (λb=>x b\/b=w.heap.size) W w5):=hI ((HS2.out.then (qC HBV.out)).then' HS5.out λ_ _ k=>.inl k);clear h5 hs5 hpt5))
           go_wp2_with (go_at_call 120;(with_reducible refine (vy eP HT5.out HO5.out).mono ?_);rintro e w6 ⟨rfl,hb6⟩;rw[HQ0.out];have HB6:=hI hb6;clear hb6)
           go_roundg k1
           case measure=>omega
           case rel=>exact ⟨_,(HP5.out.below HB6.out).less λb k=>.inl k,HO5.out,HM5.out,HS15.out.then (qC HB6.out)⟩
         . obtain ⟨eq,heq⟩:∃eq,eq=({ Q2 with S:=(qU Q2.S Q2.op (qI Q2.S Q2.op).next bts).2 } : PS).passed eP:=⟨_,rfl⟩
           have HE:Hid (s=(0,0)/\er=eq/\Q' = { Q2 with S:=(qU Q2.S Q2.op (qI Q2.S Q2.op).next bts).2 }):=hI (by have hM:=HM4.out;rw[if_neg hp,if_neg hq,<- heq] at hM;have:=Option.some.inj hM;exact ⟨(congrArg (λz:P2 × Int × PS=>z.1) this).symm,(congrArg (λz:P2 × Int × PS=>z.2.1) this).symm,(congrArg (λz:P2 × Int × PS=>z.2.2) this).symm⟩)
           rw[<- heq] at hq
           have HQ0:=hI heq
           clear HM4 heq
           go_upto_region 5 with fail
           go_region_held3 (λV=>V.cell? ⟨p,0,none⟩=some (.pointer (some ⟨c,0,none⟩))/\V.cell? ⟨gz,0,none⟩=some (.int .i64 Q2.op)/\V.cell? ⟨gz,1,none⟩=some (.int .i64 (qI Q2.S Q2.op).next))
            (first | exact ⟨d0,g0,g1⟩ | exact HK5.out)
            (first
             | (go_at_call 119;(with_reducible refine (Pool.prog A bts.length m bts Q2.op (qI Q2.S Q2.op).next rfl (HPV.out.below bR.drew) (HCV.out.keep (λ_ _=>rfl) λ_ k=>k)).mono ?_);rintro e w5 ⟨rfl,h5,hs5⟩;rw[HPE.out];have HP5:=hI h5;have HS5:Hid (Safe (λb=>(x b\/b=w.heap.size)\/New w2 V b) V w5):=hI ((qC bR.drew).then hs5);obtain ⟨l5,f5,hpt5⟩:=h5.parts;have HT5:=hI hpt5;have HK5:Hid (w5.cell? ⟨p,0,none⟩=some (.pointer (some ⟨c,0,none⟩))/\w5.cell? ⟨gz,0,none⟩=some (.int .i64 Q2.op)/\w5.cell? ⟨gz,1,none⟩=some (.int .i64 (qI Q2.S Q2.op).next)):=hI ⟨hpt5.c0,(World.cell?_of_block (a:=⟨gz,0,none⟩) (HS5.out.block hgl (.inr hgn))).trans g0,(World.cell?_of_block (a:=⟨gz,1,none⟩) (HS5.out.block hgl (.inr hgn))).trans g1⟩;have HS15:Hid (Safe (λb=>x b\/b=w.heap.size) W w5):=hI ((HS2.out.then (qC HBV.out)).then' HS5.out λ_ _ k=>.inl k);clear h5 hs5 hpt5))
           go_upto_region 10 with (go_at_call 120;(with_reducible refine (vy eP HT5.out HO5.out).mono ?_);rintro e w6 ⟨rfl,hb6⟩;rw[<- HQ0.out];have HB6:=hI hb6;clear hb6)
           have HS16:Hid (Safe (λb=>x b\/b=w.heap.size) W w6):=hI (HS15.out.then (qC HB6.out))
           obtain ⟨f0,f1,fr0,fr1⟩:=qG (HRR.out w6 HS16.out)
           obtain ⟨m0,m1,-,-⟩:=qG (vB (HRR.out w6 HS16.out) (.int .i64 0) (.int .i64 0))
           go_wp2_with fail
           refine bodyPost_ret (by simp[results,Tryz.results88,go_sem,m0,m1];try rfl) rfl ?_
           rw[HE.out.1,HE.out.2.1,HE.out.2.2]
           exact ⟨rfl,((HP5.out.below HB6.out).two (.inl (.inr rfl)) _ _).less λb k=>.inl (.inl k),vz ((qC HBW.out).then' HS16.out λ_ _ k=>.inl k) nL _ _⟩
     . obtain ⟨V,hV⟩:∃V,(w3.setCell ⟨w2.heap.size,0,none⟩ (.int .i64 Q2.op)).setCell ⟨w2.heap.size,1,none⟩ (.int .i64 (qI Q2.S Q2.op).next)=V:=⟨_,rfl⟩
       have HBV:Hid (Below w2.heap.size w2 V):=hI (by rw[<- hV];exact (HBB.out.setCell nL _).setCell nL _)
       have hg:V.heap[w2.heap.size]? = some (.cells #[.int .i64 Q2.op,.int .i64 (qI Q2.S Q2.op).next] 69 (0,0)):=by rw[<- hV];exact vB ((hb3.block w2.heap.size (by simp)).trans (heap_alloc_new w2 _)) _ _
       rw[hV]
       obtain ⟨g0,g1,-,-⟩:=qG hg
       have hgl:=qD hg
       have hgn:New w2 V w2.heap.size:=⟨Nat.le_refl _,hgl⟩
       obtain ⟨gz,hgz⟩:∃gz,gz=w2.heap.size:=⟨_,rfl⟩
       rw[<- hgz] at g0 g1 hgl ⊢
       have hgn':New w2 V gz:=by rw[hgz];exact hgn
       clear hgn
       have hgn:=hgn'
       clear hV hg hb3 n0 n1 n2 n3 hgz hgn' c0 c10 fnx
       have HATV:=hI (HT2.out.below HBV.out)
       have d0:=HATV.out.c0
       have HPV:Hid (Pool V p c (λb=>(x b\/b=w.heap.size)\/New w2 V b) Q2):=hI (HP2.out.more HBV.out)
       have HCV:Hid (CB V (λb=>(x b\/b=w.heap.size)\/New w2 V b) A bts):=hI (((HCB.out.safe HS2.out HX1.out λ_ k=>k).keep (λb k=>HBV.out.block b (Nat.lt_of_lt_of_le (HX1.out b k).2 HS2.out.size)) λb k=>.inl k))
       obtain ⟨⟨eP,S5⟩,hp5⟩:∃R,R=qU Q2.S Q2.op (qI Q2.S Q2.op).next bts:=⟨_,rfl⟩
       have HPE:Hid ((qU Q2.S Q2.op (qI Q2.S Q2.op).next bts).1=eP):=hI (by rw[<- hp5])
       have HPS:Hid ((qU Q2.S Q2.op (qI Q2.S Q2.op).next bts).2=S5):=hI (by rw[<- hp5])
       have HO5:Hid (Ok { Q2 with S:=(qU Q2.S Q2.op (qI Q2.S Q2.op).next bts).2 }):=hI (HO2.out.prog _ _ _)
       have HM4:Hid ((if eP=0 then some (Q2.nextAt,0,({ Q2 with S:=(qU Q2.S Q2.op (qI Q2.S Q2.op).next bts).2 } : PS)) else if ({ Q2 with S:=(qU Q2.S Q2.op (qI Q2.S Q2.op).next bts).2 } : PS).passed eP=0 then PS.write n bts k1 { Q2 with S:=(qU Q2.S Q2.op (qI Q2.S Q2.op).next bts).2 } else some ((0,0),({ Q2 with S:=(qU Q2.S Q2.op (qI Q2.S Q2.op).next bts).2 } : PS).passed eP,{ Q2 with S:=(qU Q2.S Q2.op (qI Q2.S Q2.op).next bts).2 }))=some (s,er,Q')):=hI (by rw[<- HPE.out];exact HM3.out)
       clear hp5
       by_cases hp:eP=0
       . subst hp
         have HE:Hid (s=(Q2.op,(qI Q2.S Q2.op).next)/\er=0/\Q' = { Q2 with S:=(qU Q2.S Q2.op (qI Q2.S Q2.op).next bts).2 }):=hI (by have hM:=HM4.out;rw[if_pos rfl] at hM;have:=Option.some.inj hM;exact ⟨(congrArg (λz:P2 × Int × PS=>z.1) this).symm,(congrArg (λz:P2 × Int × PS=>z.2.1) this).symm,(congrArg (λz:P2 × Int × PS=>z.2.2) this).symm⟩)
         clear HM4
         go_upto_region 5 with fail
         go_region_held3 (λV=>V.cell? ⟨p,0,none⟩=some (.pointer (some ⟨c,0,none⟩))/\V.cell? ⟨gz,0,none⟩=some (.int .i64 Q2.op)/\V.cell? ⟨gz,1,none⟩=some (.int .i64 (qI Q2.S Q2.op).next))
          (first | exact ⟨d0,g0,g1⟩ | exact HK5.out)
          (first
           | (go_at_call 119;(with_reducible refine (Pool.prog A bts.length m bts Q2.op (qI Q2.S Q2.op).next rfl (HPV.out.below bR.drew) (HCV.out.keep (λ_ _=>rfl) λ_ k=>k)).mono ?_);rintro e w5 ⟨rfl,h5,hs5⟩;rw[HPE.out];have HP5:=hI h5;have HS5:Hid (Safe (λb=>(x b\/b=w.heap.size)\/New w2 V b) V w5):=hI ((qC bR.drew).then hs5);obtain ⟨l5,f5,hpt5⟩:=h5.parts;have HT5:=hI hpt5;have HK5:Hid (w5.cell? ⟨p,0,none⟩=some (.pointer (some ⟨c,0,none⟩))/\w5.cell? ⟨gz,0,none⟩=some (.int .i64 Q2.op)/\w5.cell? ⟨gz,1,none⟩=some (.int .i64 (qI Q2.S Q2.op).next)):=hI ⟨hpt5.c0,(World.cell?_of_block (a:=⟨gz,0,none⟩) (HS5.out.block hgl (.inr hgn))).trans g0,(World.cell?_of_block (a:=⟨gz,1,none⟩) (HS5.out.block hgl (.inr hgn))).trans g1⟩;have HS15:Hid (Safe (λb=>x b\/b=w.heap.size) W w5):=hI ((HS2.out.then (qC HBV.out)).then' HS5.out λ_ _ k=>.inl k);clear h5 hs5 hpt5))
         obtain ⟨-,k0,k1⟩:=HK5.out
         obtain ⟨f0,f1,fr0,fr1⟩:=qG (HRR.out w5 HS15.out)
         obtain ⟨m0,m1,-,-⟩:=qG (vB (HRR.out w5 HS15.out) (.int .i64 Q2.op) (.int .i64 (qI Q2.S Q2.op).next))
         go_wp2_with fail
         refine bodyPost_ret (by simp[results,Tryz.results88,go_sem,m0,m1];try rfl) rfl ?_
         rw[HE.out.1,HE.out.2.1,HE.out.2.2]
         exact ⟨rfl,(HP5.out.two (.inl (.inr rfl)) _ _).less λb k=>.inl (.inl k),vz ((qC HBW.out).then' HS15.out λ_ _ k=>.inl k) nL _ _⟩
       . by_cases hq:({ Q2 with S:=(qU Q2.S Q2.op (qI Q2.S Q2.op).next bts).2 } : PS).passed eP=0
         . have HM5:Hid (PS.write n bts k1 { Q2 with S:=(qU Q2.S Q2.op (qI Q2.S Q2.op).next bts).2 } = some (s,er,Q')):=hI (by have hM:=HM4.out;rw[if_neg hp,if_pos hq] at hM;exact hM)
           have HQ0:=hI hq
           clear HM4 hq
           go_upto_region 5 with fail
           go_region_held3 (λV=>V.cell? ⟨p,0,none⟩=some (.pointer (some ⟨c,0,none⟩))/\V.cell? ⟨gz,0,none⟩=some (.int .i64 Q2.op)/\V.cell? ⟨gz,1,none⟩=some (.int .i64 (qI Q2.S Q2.op).next))
            (first | exact ⟨d0,g0,g1⟩ | exact HK5.out)
            (first
             | (go_at_call 119;(with_reducible refine (Pool.prog A bts.length m bts Q2.op (qI Q2.S Q2.op).next rfl (HPV.out.below bR.drew) (HCV.out.keep (λ_ _=>rfl) λ_ k=>k)).mono ?_);rintro e w5 ⟨rfl,h5,hs5⟩;rw[HPE.out];have HP5:=hI h5;have HS5:Hid (Safe (λb=>(x b\/b=w.heap.size)\/New w2 V b) V w5):=hI ((qC bR.drew).then hs5);obtain ⟨l5,f5,hpt5⟩:=h5.parts;have HT5:=hI hpt5;have HK5:Hid (w5.cell? ⟨p,0,none⟩=some (.pointer (some ⟨c,0,none⟩))/\w5.cell? ⟨gz,0,none⟩=some (.int .i64 Q2.op)/\w5.cell? ⟨gz,1,none⟩=some (.int .i64 (qI Q2.S Q2.op).next)):=hI ⟨hpt5.c0,(World.cell?_of_block (a:=⟨gz,0,none⟩) (HS5.out.block hgl (.inr hgn))).trans g0,(World.cell?_of_block (a:=⟨gz,1,none⟩) (HS5.out.block hgl (.inr hgn))).trans g1⟩;have HS15:Hid (Safe (λb=>x b\/b=w.heap.size) W w5):=hI ((HS2.out.then (qC HBV.out)).then' HS5.out λ_ _ k=>.inl k);clear h5 hs5 hpt5))
           go_wp2_with (go_at_call 120;(with_reducible refine (vy eP HT5.out HO5.out).mono ?_);rintro e w6 ⟨rfl,hb6⟩;rw[HQ0.out];have HB6:=hI hb6;clear hb6)
           go_roundg k1
           case measure=>omega
           case rel=>exact ⟨_,(HP5.out.below HB6.out).less λb k=>.inl k,HO5.out,HM5.out,HS15.out.then (qC HB6.out)⟩
         . obtain ⟨eq,heq⟩:∃eq,eq=({ Q2 with S:=(qU Q2.S Q2.op (qI Q2.S Q2.op).next bts).2 } : PS).passed eP:=⟨_,rfl⟩
           have HE:Hid (s=(0,0)/\er=eq/\Q' = { Q2 with S:=(qU Q2.S Q2.op (qI Q2.S Q2.op).next bts).2 }):=hI (by have hM:=HM4.out;rw[if_neg hp,if_neg hq,<- heq] at hM;have:=Option.some.inj hM;exact ⟨(congrArg (λz:P2 × Int × PS=>z.1) this).symm,(congrArg (λz:P2 × Int × PS=>z.2.1) this).symm,(congrArg (λz:P2 × Int × PS=>z.2.2) this).symm⟩)
           rw[<- heq] at hq
           have HQ0:=hI heq
           clear HM4 heq
           go_upto_region 5 with fail
           go_region_held3 (λV=>V.cell? ⟨p,0,none⟩=some (.pointer (some ⟨c,0,none⟩))/\V.cell? ⟨gz,0,none⟩=some (.int .i64 Q2.op)/\V.cell? ⟨gz,1,none⟩=some (.int .i64 (qI Q2.S Q2.op).next))
            (first | exact ⟨d0,g0,g1⟩ | exact HK5.out)
            (first
             | (go_at_call 119;(with_reducible refine (Pool.prog A bts.length m bts Q2.op (qI Q2.S Q2.op).next rfl (HPV.out.below bR.drew) (HCV.out.keep (λ_ _=>rfl) λ_ k=>k)).mono ?_);rintro e w5 ⟨rfl,h5,hs5⟩;rw[HPE.out];have HP5:=hI h5;have HS5:Hid (Safe (λb=>(x b\/b=w.heap.size)\/New w2 V b) V w5):=hI ((qC bR.drew).then hs5);obtain ⟨l5,f5,hpt5⟩:=h5.parts;have HT5:=hI hpt5;have HK5:Hid (w5.cell? ⟨p,0,none⟩=some (.pointer (some ⟨c,0,none⟩))/\w5.cell? ⟨gz,0,none⟩=some (.int .i64 Q2.op)/\w5.cell? ⟨gz,1,none⟩=some (.int .i64 (qI Q2.S Q2.op).next)):=hI ⟨hpt5.c0,(World.cell?_of_block (a:=⟨gz,0,none⟩) (HS5.out.block hgl (.inr hgn))).trans g0,(World.cell?_of_block (a:=⟨gz,1,none⟩) (HS5.out.block hgl (.inr hgn))).trans g1⟩;have HS15:Hid (Safe (λb=>x b\/b=w.heap.size) W w5):=hI ((HS2.out.then (qC HBV.out)).then' HS5.out λ_ _ k=>.inl k);clear h5 hs5 hpt5))
           go_upto_region 10 with (go_at_call 120;(with_reducible refine (vy eP HT5.out HO5.out).mono ?_);rintro e w6 ⟨rfl,hb6⟩;rw[<- HQ0.out];have HB6:=hI hb6;clear hb6)
           have HS16:Hid (Safe (λb=>x b\/b=w.heap.size) W w6):=hI (HS15.out.then (qC HB6.out))
           obtain ⟨f0,f1,fr0,fr1⟩:=qG (HRR.out w6 HS16.out)
           obtain ⟨m0,m1,-,-⟩:=qG (vB (HRR.out w6 HS16.out) (.int .i64 0) (.int .i64 0))
           go_wp2_with fail
           refine bodyPost_ret (by simp[results,Tryz.results88,go_sem,m0,m1];try rfl) rfl ?_
           rw[HE.out.1,HE.out.2.1,HE.out.2.2]
           exact ⟨rfl,((HP5.out.below HB6.out).two (.inl (.inr rfl)) _ _).less λb k=>.inl (.inl k),vz ((qC HBW.out).then' HS16.out λ_ _ k=>.inl k) nL _ _⟩
end
end
section
open Go.RowKit
section
variable {w w' V:World} {p c l f:Nat} {x y X Y Z:Nat->Prop} {Q Q1:PS} {T:List Fd}
abbrev set4 (V:World) (r:Nat) (a b c d:Value):World:=(((V.setCell ⟨r,0,none⟩ a).setCell ⟨r,1,none⟩ b).setCell ⟨r,2,none⟩ c).setCell ⟨r,3,none⟩ d
theorem yN {r:Nat} (h:Safe x w V) (hr:w.heap.size<=r) (a b c d:Value):Safe x w (set4 V r a b c d) :=
 Turned.setCell (Turned.setCell (Turned.setCell (Turned.setCell h (p:=⟨r,0,none⟩) (λk=>absurd k (Nat.not_lt.2 hr)) a) (p:=⟨r,1,none⟩) (λk=>absurd k (Nat.not_lt.2 hr)) b) (p:=⟨r,2,none⟩) (λk=>absurd k (Nat.not_lt.2 hr)) c) (p:=⟨r,3,none⟩) (λk=>absurd k (Nat.not_lt.2 hr)) d
theorem Pool.four {r:Nat} (h:Pool V p c x Q) (hr:x r) (a b e d:Value):Pool (set4 V r a b e d) p c x Q :=
 h.turned (((((Turned.refl x V).setCell (p:=⟨r,0,none⟩) (λ_=>hr) a).setCell (p:=⟨r,1,none⟩) (λ_=>hr) b).setCell (p:=⟨r,2,none⟩) (λ_=>hr) e).setCell (p:=⟨r,3,none⟩) (λ_=>hr) d)
theorem zBe {W:World} {g:Nat} {x y z u:Value} {t:TypeId} (h:W.heap[g]? = some (.cells #[x,y,z,u] t (0,0))) (a b c d:Value):(set4 W g a b c d).heap[g]? = some (.cells #[a,b,c,d] t (0,0)):=by
 unfold set4
 rw[heap_setCell_same _ _ 3 _ _ _ (heap_setCell_same _ _ 2 _ _ _ (heap_setCell_same _ _ 1 _ _ _ (heap_setCell_same _ _ 0 _ _ _ h)))];simp
theorem vM {w:World} {p:Nat} {a b c d:Value} {t:TypeId} (hh:w.heap[p]? = some (.cells #[a,b,c,d] t (0,0))):w.cell? ⟨p,0,none⟩=some a/\w.cell? ⟨p,1,none⟩=some b/\w.cell? ⟨p,2,none⟩=some c/\w.cell? ⟨p,3,none⟩=some d/\w.frozen? ⟨p,0,none⟩=false/\w.frozen? ⟨p,1,none⟩=false/\w.frozen? ⟨p,2,none⟩=false/\w.frozen? ⟨p,3,none⟩=false:=by
 simp[World.cell?,World.frozen?,hh]
theorem set_each {W:World} {g:Nat} {x y z u:Value} {t:TypeId} (h:W.heap[g]? = some (.cells #[x,y,z,u] t (0,0))) (a b c d:Value):(W.setCell ⟨g,0,none⟩ a).cell? ⟨g,0,none⟩=some a/\((W.setCell ⟨g,0,none⟩ a).setCell ⟨g,1,none⟩ b).cell? ⟨g,1,none⟩=some b/\(((W.setCell ⟨g,0,none⟩ a).setCell ⟨g,1,none⟩ b).setCell ⟨g,2,none⟩ c).cell? ⟨g,2,none⟩=some c/\(set4 W g a b c d).cell? ⟨g,3,none⟩=some d:=by
 have h0:=heap_setCell_same _ _ 0 _ _ a h
 have h1:=heap_setCell_same _ _ 1 _ _ b h0
 have h2:=heap_setCell_same _ _ 2 _ _ c h1
 have h3:=heap_setCell_same _ _ 3 _ _ d h2
 refine ⟨?_,?_,?_,?_⟩
 . simp only[World.cell?,h0];simp
 . simp only[World.cell?,h1];simp
 . simp only[World.cell?,h2];simp
 . simp only[World.cell?,set4,h3];simp
abbrev FdV (f:Fd):Value:=.agg #[.int .i64 f.1.1,.int .i64 f.1.2,.int .i64 f.2.1,.int .i64 f.2.2]
theorem Ok.next1 (h:Ok Q) (hs:Q.seq+1<=1099511627776):Ok Q.next := { h with seq:=by have:=h.seq;show 0<=Q.seq+1/\Q.seq+1<=1099511627776;omega }
theorem Ok.give {n:Nat} {page:Int} {b:List UInt8} {er:Int} {fd:Fd} {Q':PS} (h:Ok Q) (hs:Q.seq+1<=1099511627776) (hm:Q.give n page b=some (er,fd,Q')):Ok Q':=by
 unfold PS.give at hm
 split at hm
 . cases hm;exact h.gone
 . split at hm
   . cases hm;exact h.gone
   . split at hm
     . cases hm
     . next h1 =>
       have h2:=Ok.write _ _ (h.gone.next1 hs) h1
       split at hm
       . cases hm;exact h2
       . cases hm;exact h2.undo.gone
theorem q_give (n:Nat) (page:Int) (A:Option Addr) (m:Nat) (bts:List UInt8) {er:Int} {fd:Fd} {Q':PS} (h:Pool w p c x Q) (ok:Ok Q) (hsq:Q.seq+1<=1099511627776) (hb:CB w x A bts) (hm:Q.give n page bts=some (er,fd,Q')):Calls Tryz.prog 55 #[.pointer (some ⟨p,0,none⟩),.int .i64 page,.slice A bts.length m] w λr w'=>r=.returned (.tuple #[FdV fd,.int .i64 er])/\Pool w' p c x Q'/\Safe x w w':=by
 have HX:=hI h.there
 obtain ⟨W,hW⟩:∃W,w.alloc (.cells #[.int .i64 0,.int .i64 0,.int .i64 0,.int .i64 0] 71)=W:=⟨_,rfl⟩
 have HBW:Hid (Below w.heap.size w W):=hI (by rw[<- hW];exact bR.alloc nL _)
 have HRB:Hid (W.heap[w.heap.size]? = some (.cells #[.int .i64 0,.int .i64 0,.int .i64 0,.int .i64 0] 71 (0,0))):=hI (by rw[<- hW];exact heap_alloc_new _ _)
 have hrlt:=qD HRB.out
 have HPW:Hid (Pool W p c (λb=>x b\/b=w.heap.size) Q):=hI ((h.more HBW.out).less λb k=>k.imp id λe=>⟨by omega,by omega⟩)
 have HCB:Hid (CB W (λb=>x b\/b=w.heap.size) A bts):=hI (hb.keep (λb k=>HBW.out.block b (HX.out b k)) λb k=>.inl k)
 have HO:=hI ok
 have HRR:Hid (∀V,Safe (λb=>x b\/b=w.heap.size) W V->V.heap[w.heap.size]? = some (.cells #[.int .i64 0,.int .i64 0,.int .i64 0,.int .i64 0] 71 (0,0))):=hI λV hV=>(hV.block hrlt (.inr rfl)).trans HRB.out
 have HX1:Hid (∀b,(x b\/b=w.heap.size)->(x b\/b=w.heap.size)/\b<W.heap.size):=hI λb k=>⟨k,HPW.out.there b k⟩
 have HSQ:=hI hsq
 have HWS:IntKind.i64.wrap (Q.seq+1)=Q.seq+1:=qp _ (by have:=ok.seq;omega)
 unfold PS.give at hm
 clear h ok hb hsq
 by_cases hd:Q.gone.down=true
 . rw[if_pos hd] at hm
   have HE:Hid (er=2/\fd=((0,0),(0,0))/\Q'=Q.gone):=hI (by have:=Option.some.inj hm;exact ⟨(congrArg (λz:Int × Fd × PS=>z.1) this).symm,(congrArg (λz:Int × Fd × PS=>z.2.1) this).symm,(congrArg (λz:Int × Fd × PS=>z.2.2) this).symm⟩)
   have HD:=hI hd
   clear hm hd HWS
   go_enter Tryz.func55,Tryz.ntmps55
   go_upto_region 2 with (go_at_call 58;(with_reducible refine (zHs HPW.out).mono ?_);rintro e w2 ⟨rfl,h2,hs2⟩;rw[HD.out];have HP2:=hI h2;have HS2:=hI hs2;clear h2 hs2)
   obtain ⟨f0,f1,f2,f3,fr0,fr1,fr2,fr3⟩:=vM (HRR.out w2 HS2.out)
   obtain ⟨m0,m1,m2,m3,-⟩:=vM (zBe (HRR.out w2 HS2.out) (.int .i64 0) (.int .i64 0) (.int .i64 0) (.int .i64 0))
   clear hW
   go_wp2_with fail
   refine bodyPost_ret (by simp[results,Tryz.results55,go_sem,m0,m1,m2,m3];try rfl) rfl ?_
   rw[HE.out.1,HE.out.2.1,HE.out.2.2]
   exact ⟨rfl,(HP2.out.four (.inr rfl) _ _ _ _).less λb k=>.inl k,yN ((qC HBW.out).then' HS2.out λ_ _ k=>.inl k) nL _ _ _ _⟩
 . rw[if_neg hd] at hm
   have HD:Hid (Q.gone.down=false):=hI (by simpa using hd)
   clear hd
   by_cases hov:Q.gone.over=true
   . rw[if_pos hov] at hm
     have HE:Hid (er=6/\fd=((0,0),(0,0))/\Q'=Q.gone):=hI (by have:=Option.some.inj hm;exact ⟨(congrArg (λz:Int × Fd × PS=>z.1) this).symm,(congrArg (λz:Int × Fd × PS=>z.2.1) this).symm,(congrArg (λz:Int × Fd × PS=>z.2.2) this).symm⟩)
     have HV:=hI hov
     clear hm hov HWS
     go_enter Tryz.func55,Tryz.ntmps55
     go_upto_region 4 with (first
      | (go_at_call 58;(with_reducible refine (zHs HPW.out).mono ?_);rintro e w2 ⟨rfl,h2,hs2⟩;rw[HD.out];have HP2:=hI h2;have HS2:=hI hs2;obtain ⟨l2,f2,hpt2⟩:=h2.parts;have HT2:=hI hpt2;clear h2 hs2 hpt2)
      | (go_at_call 33;(with_reducible refine (zAb HT2.out HO.out.gone).mono ?_);rintro e w3 ⟨rfl,hb3⟩;rw[HV.out];have HB3:=hI hb3;clear hb3))
     have HS3:Hid (Safe (λb=>x b\/b=w.heap.size) W w3):=hI (HS2.out.then (qC HB3.out))
     obtain ⟨f0,f1,f2,f3,fr0,fr1,fr2,fr3⟩:=vM (HRR.out w3 HS3.out)
     obtain ⟨m0,m1,m2,m3,-⟩:=vM (zBe (HRR.out w3 HS3.out) (.int .i64 0) (.int .i64 0) (.int .i64 0) (.int .i64 0))
     clear hW
     go_wp2_with fail
     refine bodyPost_ret (by simp[results,Tryz.results55,go_sem,m0,m1,m2,m3];try rfl) rfl ?_
     rw[HE.out.1,HE.out.2.1,HE.out.2.2]
     exact ⟨rfl,((HP2.out.below HB3.out).four (.inr rfl) _ _ _ _).less λb k=>.inl k,yN ((qC HBW.out).then' HS3.out λ_ _ k=>.inl k) nL _ _ _ _⟩
   . rw[if_neg hov] at hm
     have HV:Hid (Q.gone.over=false):=hI (by simpa using hov)
     clear hov
     cases hr:PS.write n bts n Q.gone.next with
     | none=>rw[hr] at hm;cases hm
     | some R =>
      obtain ⟨s,e1,Q2⟩:=R
      rw[hr] at hm
      simp only at hm
      have HR:=hI hr
      have HON:=hI (HO.out.gone.next1 HSQ.out)
      have HM:=hI hm
      clear hm hr
      go_enter Tryz.func55,Tryz.ntmps55
      go_upto_region 5 with (first
       | (go_at_call 58;(with_reducible refine (zHs HPW.out).mono ?_);rintro e w2 ⟨rfl,h2,hs2⟩;rw[HD.out];have HP2:=hI h2;have HS2:=hI hs2;obtain ⟨l2,f2,hpt2⟩:=h2.parts;have HT2:=hI hpt2;clear h2 hs2 hpt2)
       | (go_at_call 33;(with_reducible refine (zAb HT2.out HO.out.gone).mono ?_);rintro e w3 ⟨rfl,hb3⟩;rw[HV.out];have HB3:=hI hb3;clear hb3))
      have HS3:Hid (Safe (λb=>x b\/b=w.heap.size) W w3):=hI (HS2.out.then (qC HB3.out))
      obtain ⟨hp4,hs4⟩:=Pool.set (j:=9) (u:=.int .i64 (Q.seq+1)) (Q':=Q.gone.next) (HP2.out.below HB3.out) rfl rfl rfl (λl f=>by simp[PS.cells,PS.next,PS.gone])
      have HP4:=hI hp4
      have HS4:Hid (Safe (λb=>x b\/b=w.heap.size) W (w3.setCell ⟨p,9,none⟩ (.int .i64 (Q.seq+1)))):=hI (HS3.out.then hs4)
      have c9:w3.cell? ⟨p,9,none⟩=some (.int .i64 Q.seq):=(HT2.out.below HB3.out).c9
      have fr9:=(HT2.out.below HB3.out).fr 9
      clear hp4 hs4 hW
      go_upto_region 6 with fail
      generalize w3.setCell ⟨p,9,none⟩ (.int .i64 (Q.seq+1))=w4 at HP4 HS4 ⊢
      clear c9 fr9 HWS
      go_upto_region 7 with (go_at_call 88;(with_reducible refine (q_write n n A m bts HP4.out HON.out (HCB.out.safe HS4.out HX1.out λ_ k=>k) HR.out).mono ?_);rintro e w5 ⟨rfl,h5,hs5⟩;have HP5:=hI h5;have HS5:Hid (Safe (λb=>x b\/b=w.heap.size) W w5):=hI (HS4.out.then hs5);clear h5 hs5)
      have HB6:Hid (Below w5.heap.size w5 (w5.alloc (.cells #[.int .i64 s.1,.int .i64 s.2] 69))):=hI (bR.alloc nL _)
      have hg6:=heap_alloc_new w5 (.cells #[.int .i64 s.1,.int .i64 s.2] 69)
      generalize w5.alloc (.cells #[.int .i64 s.1,.int .i64 s.2] 69)=w6 at HB6 hg6 ⊢
      obtain ⟨g0,g1,-,-⟩:=qG hg6
      have HP6:=hI (HP5.out.below HB6.out)
      have HS6:Hid (Safe (λb=>x b\/b=w.heap.size) W w6):=hI (HS5.out.then (qC HB6.out))
      clear hg6
      by_cases he:e1=0
      . subst he
        have HE:Hid (er=0/\fd=((page,Q2.seq),s)/\Q'=Q2):=hI (by have hm:=HM.out;rw[if_pos rfl] at hm;have:=Option.some.inj hm;exact ⟨(congrArg (λz:Int × Fd × PS=>z.1) this).symm,(congrArg (λz:Int × Fd × PS=>z.2.1) this).symm,(congrArg (λz:Int × Fd × PS=>z.2.2) this).symm⟩)
        clear HM
        obtain ⟨l6,f6,hpt6⟩:=HP6.out.parts
        have c9:=hpt6.c9
        obtain ⟨f0,f1,f2,f3,fr0,fr1,fr2,fr3⟩:=vM (HRR.out w6 HS6.out)
        clear hpt6
        go_upto_region 11 with fail
        obtain ⟨m0,m1,m2,m3⟩:=set_each (HRR.out w6 HS6.out) (.int .i64 page) (.int .i64 Q2.seq) (.int .i64 s.1) (.int .i64 s.2)
        go_region
        go_wp2_with fail
        refine bodyPost_ret (by simp[results,Tryz.results55,go_sem,m0,m1,m2,m3];try rfl) rfl ?_
        rw[HE.out.1,HE.out.2.1,HE.out.2.2]
        exact ⟨rfl,((HP6.out.four (.inr rfl) _ _ _ _).below bR.drew).less λb k=>.inl k,(yN ((qC HBW.out).then' HS6.out λ_ _ k=>.inl k) nL _ _ _ _).then (qC bR.drew)⟩
      . have HE:Hid (er=e1/\fd=((0,0),(0,0))/\Q'=Q2.undo.gone):=hI (by have hm:=HM.out;rw[if_neg he] at hm;have:=Option.some.inj hm;exact ⟨(congrArg (λz:Int × Fd × PS=>z.1) this).symm,(congrArg (λz:Int × Fd × PS=>z.2.1) this).symm,(congrArg (λz:Int × Fd × PS=>z.2.2) this).symm⟩)
        clear HM
        go_upto_region 10 with (first
         | (go_at_call 12;(with_reducible refine (zRi HP6.out).mono ?_);rintro e w7 ⟨rfl,h7,hs7⟩;have HP7:=hI h7;have HS7:=hI hs7;clear h7 hs7)
         | (go_at_call 58;(with_reducible refine (zHs HP7.out).mono ?_);rintro e w8 ⟨rfl,h8,hs8⟩;have HP8:=hI h8;have HS8:Hid (Safe (λb=>x b\/b=w.heap.size) W w8):=hI ((HS6.out.then HS7.out).then hs8);clear h8 hs8))
        obtain ⟨f0,f1,f2,f3,fr0,fr1,fr2,fr3⟩:=vM (HRR.out w8 HS8.out)
        obtain ⟨m0,m1,m2,m3,-⟩:=vM (zBe (HRR.out w8 HS8.out) (.int .i64 0) (.int .i64 0) (.int .i64 0) (.int .i64 0))
        go_wp2_with fail
        refine bodyPost_ret (by simp[results,Tryz.results55,go_sem,m0,m1,m2,m3];try rfl) rfl ?_
        rw[HE.out.1,HE.out.2.1,HE.out.2.2]
        exact ⟨rfl,(HP8.out.four (.inr rfl) _ _ _ _).less λb k=>.inl k,yN ((qC HBW.out).then' HS8.out λ_ _ k=>.inl k) nL _ _ _ _⟩
end
end
end Go.Proofs.YtinkkmlbhkfmnaaGreat
