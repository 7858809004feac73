/- A part of what the last text proves: PoH1, PoH2. -/
import Derived.Test.YtinkkmlbhkfmnaaGreatQPe
set_option maxRecDepth 100000
set_option maxHeartbeats 8000000
namespace Go.Proofs.YtinkkmlbhkfmnaaGreat
section
open Go.RowKit
theorem zYo {B P S D U:Int} (h:zEm B P S D U):vK B P S D U=D+8:=if_pos h
theorem zXe {B P S D U bad:Int} (h:¬(0<=bad/\bad<=B)):qq B P S D U bad=0:=if_neg λh'=>h h'.2
theorem zSn {B P S D U:Int} (bad:Int) (h:zEm B P S D U):decide (vK B P S D U<=qq B P S D U bad)=decide (yZ B P S D U bad):=by
 refine decide_eq_decide.2 ⟨λh1=>⟨h,?_,h1⟩,λh1=>h1.2.2⟩
 rcases Decidable.em (0<=bad/\bad<=B) with h2 | h2
 . exact h2
 . rw[zXe h2,zYo h] at h1
   have:=h.2.2.2.1
   omega
theorem zZw (B P S D U bad:Int) (w:World) (hbd:(Lit.int .i64 bad).wf=true) :
 Calls Tryz.prog 100 #[.agg #[.int .i64 B,.int .i64 P,.int .i64 S,.int .i64 D,.int .i64 U],.int .i64 bad] w λe w'=>e=.returned (.bool (decide (yZ B P S D U bad)))/\Below w.heap.size w w':=by
 obtain ⟨W,hW⟩:∃W,w.alloc (.cells #[.int .i64 B,.int .i64 P,.int .i64 S,.int .i64 D,.int .i64 U] 23)=W:=⟨_,rfl⟩
 have HB0:Hid (Below w.heap.size w W):=hI (by rw[<- hW];exact bR.alloc nL _)
 have BX0:Hid (W.heap[w.heap.size]? = some (.cells #[.int .i64 B,.int .i64 P,.int .i64 S,.int .i64 D,.int .i64 U] 23 (0,0))):=hI (by rw[<- hW];exact heap_alloc_new _ _)
 have HLT:=hI (qD BX0.out)
 have HBD:=hI hbd
 clear hbd
 by_cases hM:zEm B P S D U
 . have HM:=hI hM
   have HF:=hI (zSn bad hM)
   clear hM
   go_enter Tryz.func100,Tryz.ntmps100
   go_upto_region 1 with fail
   clear hW
   refine qR (λj v w'=>match j with | 0=>v=.agg #[.int .i64 B,.int .i64 P,.int .i64 S,.int .i64 D,.int .i64 U] | 1=>v=.bool true | 2=>v=.bool true | 3=>v=.agg #[.int .i64 B,.int .i64 P,.int .i64 S,.int .i64 D,.int .i64 U] | 4=>v=.int .i64 bad | 5=>v=.int .i64 (qq B P S D U bad) | 6=>v=.agg #[.int .i64 B,.int .i64 P,.int .i64 S,.int .i64 D,.int .i64 U] | 7=>v=.int .i64 (vK B P S D U) | 8=>v=.bool (decide (vK B P S D U<=qq B P S D U bad)) | 9=>v=.bool (decide (vK B P S D U<=qq B P S D U bad)) | 10=>v=.bool (decide (vK B P S D U<=qq B P S D U bad)) | _=>True) (λ_ w'=>Below W.heap.size W w') (λw1 w2=>Below w1.heap.size w1 w2) (by kernel_rfl) (by kernel_rfl) (by kernel_rfl) ?hR ?hG ?hops ?hend
   case hR =>
    intro j v w1 w2 hv hb
    match j,hv with
    | 0,hv | 1,hv | 2,hv | 3,hv | 4,hv | 5,hv | 6,hv | 7,hv | 8,hv | 9,hv | 10,hv=>exact hv
    | _+11,_=>exact trivial
   case hG=>exact bR.drew
   case hops =>
    refine oC ?_ (oC ?_ (oC ?_ (oC ?_ (oC ?_ (oC ?_ (oC ?_ (oC ?_ (oC ?_ (oC ?_ (oC ?_ OpsOkS.nil))))))))))
    . intro a w1 ξ γ ν ω ζ ψ κ
      have e0:=og (v:=.pointer (some ⟨w.heap.size,0,none⟩)) (ω 2 (by kernel_rfl))
      obtain ⟨k1,k2,k3,k4,k5⟩:=qe ((γ.block w.heap.size HLT.out).trans BX0.out)
      refine qB (v:=.agg #[.int .i64 B,.int .i64 P,.int .i64 S,.int .i64 D,.int .i64 U]) (qA rfl) ?_ (κ _ w1 rfl γ bR)
      simp[execOp,go_sem,e0,k1,k2,k3,k4,k5]
    . intro a w1 ξ γ ν ω ζ ψ κ
      have e0:=og (v:=.agg #[.int .i64 B,.int .i64 P,.int .i64 S,.int .i64 D,.int .i64 U]) (ν 0 (by kernel_rfl) (by kernel_rfl))
      refine qM (qA rfl) (f:=109) (args:=#[.agg #[.int .i64 B,.int .i64 P,.int .i64 S,.int .i64 D,.int .i64 U]]) ?run ((vo B P S D U w1).mono ?post)
      case run=>simp[go_sem,e0]
      case post =>
       rintro e w2 ⟨rfl,hb2⟩
       rw[decide_eq_true HM.out]
       exact ⟨_,rfl,κ _ w2 rfl (γ.trans (hb2.mono γ.size)) hb2⟩
    . intro a w1 ξ γ ν ω ζ ψ κ
      have e0:=og (v:=.bool true) (ν 1 (by kernel_rfl) (by kernel_rfl))
      refine qB (v:=.bool true) (qA rfl) ?_ (κ _ w1 rfl γ bR)
      simp[execOp,go_sem,e0]
    . intro a w1 ξ γ ν ω ζ ψ κ
      have e0:=og (v:=.pointer (some ⟨w.heap.size,0,none⟩)) (ω 2 (by kernel_rfl))
      obtain ⟨k1,k2,k3,k4,k5⟩:=qe ((γ.block w.heap.size HLT.out).trans BX0.out)
      refine qB (v:=.agg #[.int .i64 B,.int .i64 P,.int .i64 S,.int .i64 D,.int .i64 U]) (qE (j:=2) rfl (ν 2 (by kernel_rfl) (by kernel_rfl))) ?_ (κ _ w1 rfl γ bR)
      simp[execOp,go_sem,e0,k1,k2,k3,k4,k5]
    . intro a w1 ξ γ ν ω ζ ψ κ
      have e0:=og (v:=.int .i64 bad) (ω 1 (by kernel_rfl))
      refine qB (v:=.int .i64 bad) (qE (j:=2) rfl (ν 2 (by kernel_rfl) (by kernel_rfl))) ?_ (κ _ w1 rfl γ bR)
      simp[execOp,go_sem,e0]
    . intro a w1 ξ γ ν ω ζ ψ κ
      have e0:=og (v:=.agg #[.int .i64 B,.int .i64 P,.int .i64 S,.int .i64 D,.int .i64 U]) (ν 3 (by kernel_rfl) (by kernel_rfl))
      have e1:=og (v:=.int .i64 bad) (ν 4 (by kernel_rfl) (by kernel_rfl))
      refine qM (qE (j:=2) rfl (ν 2 (by kernel_rfl) (by kernel_rfl))) (f:=123) (args:=#[.agg #[.int .i64 B,.int .i64 P,.int .i64 S,.int .i64 D,.int .i64 U],.int .i64 bad]) ?run ((zXc B P S D U bad w1 HBD.out).mono ?post)
      case run=>simp[go_sem,e0,e1]
      case post =>
       rintro e w2 ⟨rfl,hb2⟩
       exact ⟨_,rfl,κ _ w2 rfl (γ.trans (hb2.mono γ.size)) hb2⟩
    . intro a w1 ξ γ ν ω ζ ψ κ
      have e0:=og (v:=.pointer (some ⟨w.heap.size,0,none⟩)) (ω 2 (by kernel_rfl))
      obtain ⟨k1,k2,k3,k4,k5⟩:=qe ((γ.block w.heap.size HLT.out).trans BX0.out)
      refine qB (v:=.agg #[.int .i64 B,.int .i64 P,.int .i64 S,.int .i64 D,.int .i64 U]) (qE (j:=2) rfl (ν 2 (by kernel_rfl) (by kernel_rfl))) ?_ (κ _ w1 rfl γ bR)
      simp[execOp,go_sem,e0,k1,k2,k3,k4,k5]
    . intro a w1 ξ γ ν ω ζ ψ κ
      have e0:=og (v:=.agg #[.int .i64 B,.int .i64 P,.int .i64 S,.int .i64 D,.int .i64 U]) (ν 6 (by kernel_rfl) (by kernel_rfl))
      refine qM (qE (j:=2) rfl (ν 2 (by kernel_rfl) (by kernel_rfl))) (f:=124) (args:=#[.agg #[.int .i64 B,.int .i64 P,.int .i64 S,.int .i64 D,.int .i64 U]]) ?run ((zYn B P S D U w1).mono ?post)
      case run=>simp[go_sem,e0]
      case post =>
       rintro e w2 ⟨rfl,hb2⟩
       exact ⟨_,rfl,κ _ w2 rfl (γ.trans (hb2.mono γ.size)) hb2⟩
    . intro a w1 ξ γ ν ω ζ ψ κ
      have e0:=og (v:=.int .i64 (qq B P S D U bad)) (ν 5 (by kernel_rfl) (by kernel_rfl))
      have e1:=og (v:=.int .i64 (vK B P S D U)) (ν 7 (by kernel_rfl) (by kernel_rfl))
      refine qB (v:=.bool (decide (vK B P S D U<=qq B P S D U bad))) (qE (j:=2) rfl (ν 2 (by kernel_rfl) (by kernel_rfl))) ?_ (κ _ w1 rfl γ bR)
      simp[execOp,go_sem,e0,e1]
    . intro a w1 ξ γ ν ω ζ ψ κ
      have e0:=og (v:=.bool true) (ν 2 (by kernel_rfl) (by kernel_rfl))
      have e1:=og (v:=.bool (decide (vK B P S D U<=qq B P S D U bad))) (ν 8 (by kernel_rfl) (by kernel_rfl))
      refine qB (v:=.bool (decide (vK B P S D U<=qq B P S D U bad))) (qA rfl) ?_ (κ _ w1 rfl γ bR)
      simp[execOp,go_sem,asBool,e0,e1]
    . intro a w1 ξ γ ν ω ζ ψ κ
      have e0:=og (v:=.bool (decide (vK B P S D U<=qq B P S D U bad))) (ν 9 (by kernel_rfl) (by kernel_rfl))
      refine qB (v:=.bool (decide (vK B P S D U<=qq B P S D U bad))) (qA rfl) ?_ (κ _ w1 rfl γ bR)
      simp[execOp,go_sem,e0]
   case hend =>
    intro a w6 hG hde hsz hφ hold
    obtain rfl:=qy [(5,.agg #[.int .i64 B,.int .i64 P,.int .i64 S,.int .i64 D,.int .i64 U]),(6,.bool true),(7,.bool true),(8,.agg #[.int .i64 B,.int .i64 P,.int .i64 S,.int .i64 D,.int .i64 U]),(9,.int .i64 bad),(10,.int .i64 (qq B P S D U bad)),(11,.agg #[.int .i64 B,.int .i64 P,.int .i64 S,.int .i64 D,.int .i64 U]),(12,.int .i64 (vK B P S D U)),(13,.bool (decide (vK B P S D U<=qq B P S D U bad))),(14,.bool (decide (vK B P S D U<=qq B P S D U bad))),(4,.bool (decide (vK B P S D U<=qq B P S D U bad)))] [5,6,7,8,9,10,11,12,13,14,4] rfl (by kernel_rfl) (by kernel_rfl) hde hsz (fC ⟨(hφ 0 (by kernel_rfl)),(fC ⟨(hφ 1 (by kernel_rfl)),(fC ⟨(hφ 2 (by kernel_rfl)),(fC ⟨(hφ 3 (by kernel_rfl)),(fC ⟨(hφ 4 (by kernel_rfl)),(fC ⟨(hφ 5 (by kernel_rfl)),(fC ⟨(hφ 6 (by kernel_rfl)),(fC ⟨(hφ 7 (by kernel_rfl)),(fC ⟨(hφ 8 (by kernel_rfl)),(fC ⟨(hφ 9 (by kernel_rfl)),(fC ⟨(hφ 10 (by kernel_rfl)),(λ_ h=>absurd h (by simp))⟩)⟩)⟩)⟩)⟩)⟩)⟩)⟩)⟩)⟩)⟩) hold
    clear hφ hold hsz hde
    simp only[qd]
    go_frame
    go_wp2_with fail
    go_ret
    exact ⟨by rw[<- HF.out];rfl,HB0.out.trans (hG.mono HB0.out.size)⟩
 . have HM:=hI hM
   have HN:Hid (decide (yZ B P S D U bad)=false):=hI (decide_eq_false λk=>hM k.1)
   clear hM
   go_enter Tryz.func100,Tryz.ntmps100
   go_upto_region 1 with fail
   clear hW
   refine qR (λj v w'=>match j with | 0=>v=.agg #[.int .i64 B,.int .i64 P,.int .i64 S,.int .i64 D,.int .i64 U] | 1=>v=.bool false | 2=>v=.bool false | 3=>v=undef | 4=>v=undef | 5=>v=undef | 6=>v=undef | 7=>v=undef | 8=>v=undef | 9=>v=.bool false | 10=>v=.bool false | _=>True) (λ_ w'=>Below W.heap.size W w') (λw1 w2=>Below w1.heap.size w1 w2) (by kernel_rfl) (by kernel_rfl) (by kernel_rfl) ?hR ?hG ?hops ?hend
   case hR =>
    intro j v w1 w2 hv hb
    match j,hv with
    | 0,hv | 1,hv | 2,hv | 3,hv | 4,hv | 5,hv | 6,hv | 7,hv | 8,hv | 9,hv | 10,hv=>exact hv
    | _+11,_=>exact trivial
   case hG=>exact bR.drew
   case hops =>
    refine oC ?_ (oC ?_ (oC ?_ (oC ?_ (oC ?_ (oC ?_ (oC ?_ (oC ?_ (oC ?_ (oC ?_ (oC ?_ OpsOkS.nil))))))))))
    . intro a w1 ξ γ ν ω ζ ψ κ
      have e0:=og (v:=.pointer (some ⟨w.heap.size,0,none⟩)) (ω 2 (by kernel_rfl))
      obtain ⟨k1,k2,k3,k4,k5⟩:=qe ((γ.block w.heap.size HLT.out).trans BX0.out)
      refine qB (v:=.agg #[.int .i64 B,.int .i64 P,.int .i64 S,.int .i64 D,.int .i64 U]) (qA rfl) ?_ (κ _ w1 rfl γ bR)
      simp[execOp,go_sem,e0,k1,k2,k3,k4,k5]
    . intro a w1 ξ γ ν ω ζ ψ κ
      have e0:=og (v:=.agg #[.int .i64 B,.int .i64 P,.int .i64 S,.int .i64 D,.int .i64 U]) (ν 0 (by kernel_rfl) (by kernel_rfl))
      refine qM (qA rfl) (f:=109) (args:=#[.agg #[.int .i64 B,.int .i64 P,.int .i64 S,.int .i64 D,.int .i64 U]]) ?run ((vo B P S D U w1).mono ?post)
      case run=>simp[go_sem,e0]
      case post =>
       rintro e w2 ⟨rfl,hb2⟩
       rw[decide_eq_false HM.out]
       exact ⟨_,rfl,κ _ w2 rfl (γ.trans (hb2.mono γ.size)) hb2⟩
    . intro a w1 ξ γ ν ω ζ ψ κ
      have e0:=og (v:=.bool false) (ν 1 (by kernel_rfl) (by kernel_rfl))
      refine qB (v:=.bool false) (qA rfl) ?_ (κ _ w1 rfl γ bR)
      simp[execOp,go_sem,e0]
    . intro a w1 ξ γ ν ω ζ ψ κ
      exact qH (j:=2) rfl (ν 2 (by kernel_rfl) (by kernel_rfl)) (by decide) (κ undef w1 rfl γ bR)
    . intro a w1 ξ γ ν ω ζ ψ κ
      exact qH (j:=2) rfl (ν 2 (by kernel_rfl) (by kernel_rfl)) (by decide) (κ undef w1 rfl γ bR)
    . intro a w1 ξ γ ν ω ζ ψ κ
      exact qH (j:=2) rfl (ν 2 (by kernel_rfl) (by kernel_rfl)) (by decide) (κ undef w1 rfl γ bR)
    . intro a w1 ξ γ ν ω ζ ψ κ
      exact qH (j:=2) rfl (ν 2 (by kernel_rfl) (by kernel_rfl)) (by decide) (κ undef w1 rfl γ bR)
    . intro a w1 ξ γ ν ω ζ ψ κ
      exact qH (j:=2) rfl (ν 2 (by kernel_rfl) (by kernel_rfl)) (by decide) (κ undef w1 rfl γ bR)
    . intro a w1 ξ γ ν ω ζ ψ κ
      exact qH (j:=2) rfl (ν 2 (by kernel_rfl) (by kernel_rfl)) (by decide) (κ undef w1 rfl γ bR)
    . intro a w1 ξ γ ν ω ζ ψ κ
      have e0:=og (v:=.bool false) (ν 2 (by kernel_rfl) (by kernel_rfl))
      refine qB (v:=.bool false) (qA rfl) ?_ (κ _ w1 rfl γ bR)
      simp[execOp,go_sem,asBool,e0]
    . intro a w1 ξ γ ν ω ζ ψ κ
      have e0:=og (v:=.bool false) (ν 9 (by kernel_rfl) (by kernel_rfl))
      refine qB (v:=.bool false) (qA rfl) ?_ (κ _ w1 rfl γ bR)
      simp[execOp,go_sem,e0]
   case hend =>
    intro a w6 hG hde hsz hφ hold
    obtain rfl:=qy [(5,.agg #[.int .i64 B,.int .i64 P,.int .i64 S,.int .i64 D,.int .i64 U]),(6,.bool false),(7,.bool false),(8,undef),(9,undef),(10,undef),(11,undef),(12,undef),(13,undef),(14,.bool false),(4,.bool false)] [5,6,7,8,9,10,11,12,13,14,4] rfl (by kernel_rfl) (by kernel_rfl) hde hsz (fC ⟨(hφ 0 (by kernel_rfl)),(fC ⟨(hφ 1 (by kernel_rfl)),(fC ⟨(hφ 2 (by kernel_rfl)),(fC ⟨(hφ 3 (by kernel_rfl)),(fC ⟨(hφ 4 (by kernel_rfl)),(fC ⟨(hφ 5 (by kernel_rfl)),(fC ⟨(hφ 6 (by kernel_rfl)),(fC ⟨(hφ 7 (by kernel_rfl)),(fC ⟨(hφ 8 (by kernel_rfl)),(fC ⟨(hφ 9 (by kernel_rfl)),(fC ⟨(hφ 10 (by kernel_rfl)),(λ_ h=>absurd h (by simp))⟩)⟩)⟩)⟩)⟩)⟩)⟩)⟩)⟩)⟩)⟩) hold
    clear hφ hold hsz hde
    simp only[qd]
    go_frame
    go_wp2_with fail
    go_ret
    exact ⟨by rw[HN.out];rfl,HB0.out.trans (hG.mono HB0.out.size)⟩
theorem zOa (B P S D U bad:Int) (w:World) (hbd:(Lit.int .i64 bad).wf=true) :
 Calls Tryz.prog 39 #[.agg #[.int .i64 B,.int .i64 P,.int .i64 S,.int .i64 D,.int .i64 U],.int .i64 bad] w λe w'=>e=.returned (.bool (decide (yZ B P S D U bad)))/\Below w.heap.size w w':=by
 obtain ⟨W,hW⟩:∃W,w.alloc (.cells #[.int .i64 B,.int .i64 P,.int .i64 S,.int .i64 D,.int .i64 U] 23)=W:=⟨_,rfl⟩
 have HB0:Hid (Below w.heap.size w W):=hI (by rw[<- hW];exact bR.alloc nL _)
 have BX0:Hid (W.heap[w.heap.size]? = some (.cells #[.int .i64 B,.int .i64 P,.int .i64 S,.int .i64 D,.int .i64 U] 23 (0,0))):=hI (by rw[<- hW];exact heap_alloc_new _ _)
 have HLT:=hI (qD BX0.out)
 have HBD:=hI hbd
 clear hbd
 by_cases hM:zEm B P S D U
 . have HM:=hI hM
   have HF:=hI (zSn bad hM)
   by_cases h0:0<=bad
   case neg =>
    have HN:Hid (decide (yZ B P S D U bad)=false):=hI (decide_eq_false λk=>h0 k.2.1.1)
    have h0':bad<0:=by omega
    clear hM h0
    go_enter Tryz.func39,Tryz.ntmps39
    go_upto_region 1 with fail
    clear hW
    refine qR (λj v w'=>match j with | 0=>v=.agg #[.int .i64 B,.int .i64 P,.int .i64 S,.int .i64 D,.int .i64 U] | 1=>v=.bool true | 2=>v=.bool true | 3=>v=.int .i64 bad | 4=>v=.bool false | 5=>v=.bool false | 6=>v=.bool false | 7=>v=undef | 8=>v=undef | 9=>v=undef | 10=>v=undef | 11=>v=.bool false | 12=>v=.bool false | 13=>v=undef | 14=>v=undef | 15=>v=undef | 16=>v=undef | 17=>v=undef | 18=>v=undef | 19=>v=.bool false | 20=>v=.bool false | _=>True) (λ_ w'=>Below W.heap.size W w') (λw1 w2=>Below w1.heap.size w1 w2) (by kernel_rfl) (by kernel_rfl) (by kernel_rfl) ?hR ?hG ?hops ?hend
    case hR =>
     intro j v w1 w2 hv hb
     match j,hv with
     | 0,hv | 1,hv | 2,hv | 3,hv | 4,hv | 5,hv | 6,hv | 7,hv | 8,hv | 9,hv | 10,hv | 11,hv | 12,hv | 13,hv | 14,hv | 15,hv | 16,hv | 17,hv | 18,hv | 19,hv | 20,hv=>exact hv
     | _+21,_=>exact trivial
    case hG=>exact bR.drew
    case hops =>
     refine oC ?_ (oC ?_ (oC ?_ (oC ?_ (oC ?_ (oC ?_ (oC ?_ (oC ?_ (oC ?_ (oC ?_ (oC ?_ (oC ?_ (oC ?_ (oC ?_ (oC ?_ (oC ?_ (oC ?_ (oC ?_ (oC ?_ (oC ?_ (oC ?_ OpsOkS.nil))))))))))))))))))))
     . intro a w1 ξ γ ν ω ζ ψ κ
       have e0:=og (v:=.pointer (some ⟨w.heap.size,0,none⟩)) (ω 2 (by kernel_rfl))
       obtain ⟨k1,k2,k3,k4,k5⟩:=qe ((γ.block w.heap.size HLT.out).trans BX0.out)
       refine qB (v:=.agg #[.int .i64 B,.int .i64 P,.int .i64 S,.int .i64 D,.int .i64 U]) (qA rfl) ?_ (κ _ w1 rfl γ bR)
       simp[execOp,go_sem,e0,k1,k2,k3,k4,k5]
     . intro a w1 ξ γ ν ω ζ ψ κ
       have e0:=og (v:=.agg #[.int .i64 B,.int .i64 P,.int .i64 S,.int .i64 D,.int .i64 U]) (ν 0 (by kernel_rfl) (by kernel_rfl))
       refine qM (qA rfl) (f:=38) (args:=#[.agg #[.int .i64 B,.int .i64 P,.int .i64 S,.int .i64 D,.int .i64 U]]) ?run ((vT B P S D U w1).mono ?post)
       case run=>simp[go_sem,e0]
       case post =>
        rintro e w2 ⟨rfl,hb2⟩
        rw[decide_eq_true HM.out]
        exact ⟨_,rfl,κ _ w2 rfl (γ.trans (hb2.mono γ.size)) hb2⟩
     . intro a w1 ξ γ ν ω ζ ψ κ
       have e0:=og (v:=.bool true) (ν 1 (by kernel_rfl) (by kernel_rfl))
       refine qB (v:=.bool true) (qA rfl) ?_ (κ _ w1 rfl γ bR)
       simp[execOp,go_sem,e0]
     . intro a w1 ξ γ ν ω ζ ψ κ
       have e0:=og (v:=.int .i64 bad) (ω 1 (by kernel_rfl))
       refine qB (v:=.int .i64 bad) (qE (j:=2) rfl (ν 2 (by kernel_rfl) (by kernel_rfl))) ?_ (κ _ w1 rfl γ bR)
       simp[execOp,go_sem,e0]
     . intro a w1 ξ γ ν ω ζ ψ κ
       have e0:=og (v:=.int .i64 bad) (ν 3 (by kernel_rfl) (by kernel_rfl))
       refine qB (v:=.bool false) (qE (j:=2) rfl (ν 2 (by kernel_rfl) (by kernel_rfl))) ?_ (κ _ w1 rfl γ bR)
       simp[execOp,go_sem,e0];omega
     . intro a w1 ξ γ ν ω ζ ψ κ
       have e0:=og (v:=.bool true) (ν 2 (by kernel_rfl) (by kernel_rfl))
       have e1:=og (v:=.bool false) (ν 4 (by kernel_rfl) (by kernel_rfl))
       refine qB (v:=.bool false) (qA rfl) ?_ (κ _ w1 rfl γ bR)
       simp[execOp,go_sem,asBool,e0,e1]
     . intro a w1 ξ γ ν ω ζ ψ κ
       have e0:=og (v:=.bool false) (ν 5 (by kernel_rfl) (by kernel_rfl))
       refine qB (v:=.bool false) (qA rfl) ?_ (κ _ w1 rfl γ bR)
       simp[execOp,go_sem,e0]
     . intro a w1 ξ γ ν ω ζ ψ κ
       exact qH (j:=6) rfl (ν 6 (by kernel_rfl) (by kernel_rfl)) (by decide) (κ undef w1 rfl γ bR)
     . intro a w1 ξ γ ν ω ζ ψ κ
       exact qH (j:=6) rfl (ν 6 (by kernel_rfl) (by kernel_rfl)) (by decide) (κ undef w1 rfl γ bR)
     . intro a w1 ξ γ ν ω ζ ψ κ
       exact qH (j:=6) rfl (ν 6 (by kernel_rfl) (by kernel_rfl)) (by decide) (κ undef w1 rfl γ bR)
     . intro a w1 ξ γ ν ω ζ ψ κ
       exact qH (j:=6) rfl (ν 6 (by kernel_rfl) (by kernel_rfl)) (by decide) (κ undef w1 rfl γ bR)
     . intro a w1 ξ γ ν ω ζ ψ κ
       have e0:=og (v:=.bool false) (ν 6 (by kernel_rfl) (by kernel_rfl))
       refine qB (v:=.bool false) (qA rfl) ?_ (κ _ w1 rfl γ bR)
       simp[execOp,go_sem,asBool,e0]
     . intro a w1 ξ γ ν ω ζ ψ κ
       have e0:=og (v:=.bool false) (ν 11 (by kernel_rfl) (by kernel_rfl))
       refine qB (v:=.bool false) (qA rfl) ?_ (κ _ w1 rfl γ bR)
       simp[execOp,go_sem,e0]
     . intro a w1 ξ γ ν ω ζ ψ κ
       exact qH (j:=12) rfl (ν 12 (by kernel_rfl) (by kernel_rfl)) (by decide) (κ undef w1 rfl γ bR)
     . intro a w1 ξ γ ν ω ζ ψ κ
       exact qH (j:=12) rfl (ν 12 (by kernel_rfl) (by kernel_rfl)) (by decide) (κ undef w1 rfl γ bR)
     . intro a w1 ξ γ ν ω ζ ψ κ
       exact qH (j:=12) rfl (ν 12 (by kernel_rfl) (by kernel_rfl)) (by decide) (κ undef w1 rfl γ bR)
     . intro a w1 ξ γ ν ω ζ ψ κ
       exact qH (j:=12) rfl (ν 12 (by kernel_rfl) (by kernel_rfl)) (by decide) (κ undef w1 rfl γ bR)
     . intro a w1 ξ γ ν ω ζ ψ κ
       exact qH (j:=12) rfl (ν 12 (by kernel_rfl) (by kernel_rfl)) (by decide) (κ undef w1 rfl γ bR)
     . intro a w1 ξ γ ν ω ζ ψ κ
       exact qH (j:=12) rfl (ν 12 (by kernel_rfl) (by kernel_rfl)) (by decide) (κ undef w1 rfl γ bR)
     . intro a w1 ξ γ ν ω ζ ψ κ
       have e0:=og (v:=.bool false) (ν 12 (by kernel_rfl) (by kernel_rfl))
       refine qB (v:=.bool false) (qA rfl) ?_ (κ _ w1 rfl γ bR)
       simp[execOp,go_sem,asBool,e0]
     . intro a w1 ξ γ ν ω ζ ψ κ
       have e0:=og (v:=.bool false) (ν 19 (by kernel_rfl) (by kernel_rfl))
       refine qB (v:=.bool false) (qA rfl) ?_ (κ _ w1 rfl γ bR)
       simp[execOp,go_sem,e0]
    case hend =>
     intro a w6 hG hde hsz hφ hold
     obtain rfl:=qy [(5,.agg #[.int .i64 B,.int .i64 P,.int .i64 S,.int .i64 D,.int .i64 U]),(6,.bool true),(7,.bool true),(8,.int .i64 bad),(9,.bool false),(10,.bool false),(11,.bool false),(12,undef),(13,undef),(14,undef),(15,undef),(16,.bool false),(17,.bool false),(18,undef),(19,undef),(20,undef),(21,undef),(22,undef),(23,undef),(24,.bool false),(4,.bool false)] [5,6,7,8,9,10,11,12,13,14,15,16,17,18,19,20,21,22,23,24,4] rfl (by kernel_rfl) (by kernel_rfl) hde hsz (fC ⟨(hφ 0 (by kernel_rfl)),(fC ⟨(hφ 1 (by kernel_rfl)),(fC ⟨(hφ 2 (by kernel_rfl)),(fC ⟨(hφ 3 (by kernel_rfl)),(fC ⟨(hφ 4 (by kernel_rfl)),(fC ⟨(hφ 5 (by kernel_rfl)),(fC ⟨(hφ 6 (by kernel_rfl)),(fC ⟨(hφ 7 (by kernel_rfl)),(fC ⟨(hφ 8 (by kernel_rfl)),(fC ⟨(hφ 9 (by kernel_rfl)),(fC ⟨(hφ 10 (by kernel_rfl)),(fC ⟨(hφ 11 (by kernel_rfl)),(fC ⟨(hφ 12 (by kernel_rfl)),(fC ⟨(hφ 13 (by kernel_rfl)),(fC ⟨(hφ 14 (by kernel_rfl)),(fC ⟨(hφ 15 (by kernel_rfl)),(fC ⟨(hφ 16 (by kernel_rfl)),(fC ⟨(hφ 17 (by kernel_rfl)),(fC ⟨(hφ 18 (by kernel_rfl)),(fC ⟨(hφ 19 (by kernel_rfl)),(fC ⟨(hφ 20 (by kernel_rfl)),(λ_ h=>absurd h (by simp))⟩)⟩)⟩)⟩)⟩)⟩)⟩)⟩)⟩)⟩)⟩)⟩)⟩)⟩)⟩)⟩)⟩)⟩)⟩)⟩)⟩) hold
     clear hφ hold hsz hde
     simp only[qd]
     go_frame
     go_wp2_with fail
     go_ret
     exact ⟨by rw[HN.out];rfl,HB0.out.trans (hG.mono HB0.out.size)⟩
   case pos =>
    by_cases h1:bad<=B
    case neg =>
     have HN:Hid (decide (yZ B P S D U bad)=false):=hI (decide_eq_false λk=>h1 k.2.1.2)
     clear hM
     go_enter Tryz.func39,Tryz.ntmps39
     go_upto_region 1 with fail
     clear hW
     refine qR (λj v w'=>match j with | 0=>v=.agg #[.int .i64 B,.int .i64 P,.int .i64 S,.int .i64 D,.int .i64 U] | 1=>v=.bool true | 2=>v=.bool true | 3=>v=.int .i64 bad | 4=>v=.bool true | 5=>v=.bool true | 6=>v=.bool true | 7=>v=.int .i64 bad | 8=>v=.pointer (some ⟨w.heap.size,0,none⟩) | 9=>v=.int .i64 B | 10=>v=.bool false | 11=>v=.bool false | 12=>v=.bool false | 13=>v=undef | 14=>v=undef | 15=>v=undef | 16=>v=undef | 17=>v=undef | 18=>v=undef | 19=>v=.bool false | 20=>v=.bool false | _=>True) (λ_ w'=>Below W.heap.size W w') (λw1 w2=>Below w1.heap.size w1 w2) (by kernel_rfl) (by kernel_rfl) (by kernel_rfl) ?hR ?hG ?hops ?hend
     case hR =>
      intro j v w1 w2 hv hb
      match j,hv with
      | 0,hv | 1,hv | 2,hv | 3,hv | 4,hv | 5,hv | 6,hv | 7,hv | 8,hv | 9,hv | 10,hv | 11,hv | 12,hv | 13,hv | 14,hv | 15,hv | 16,hv | 17,hv | 18,hv | 19,hv | 20,hv=>exact hv
      | _+21,_=>exact trivial
     case hG=>exact bR.drew
     case hops =>
      refine oC ?_ (oC ?_ (oC ?_ (oC ?_ (oC ?_ (oC ?_ (oC ?_ (oC ?_ (oC ?_ (oC ?_ (oC ?_ (oC ?_ (oC ?_ (oC ?_ (oC ?_ (oC ?_ (oC ?_ (oC ?_ (oC ?_ (oC ?_ (oC ?_ OpsOkS.nil))))))))))))))))))))
      . intro a w1 ξ γ ν ω ζ ψ κ
        have e0:=og (v:=.pointer (some ⟨w.heap.size,0,none⟩)) (ω 2 (by kernel_rfl))
        obtain ⟨k1,k2,k3,k4,k5⟩:=qe ((γ.block w.heap.size HLT.out).trans BX0.out)
        refine qB (v:=.agg #[.int .i64 B,.int .i64 P,.int .i64 S,.int .i64 D,.int .i64 U]) (qA rfl) ?_ (κ _ w1 rfl γ bR)
        simp[execOp,go_sem,e0,k1,k2,k3,k4,k5]
      . intro a w1 ξ γ ν ω ζ ψ κ
        have e0:=og (v:=.agg #[.int .i64 B,.int .i64 P,.int .i64 S,.int .i64 D,.int .i64 U]) (ν 0 (by kernel_rfl) (by kernel_rfl))
        refine qM (qA rfl) (f:=38) (args:=#[.agg #[.int .i64 B,.int .i64 P,.int .i64 S,.int .i64 D,.int .i64 U]]) ?run ((vT B P S D U w1).mono ?post)
        case run=>simp[go_sem,e0]
        case post =>
         rintro e w2 ⟨rfl,hb2⟩
         rw[decide_eq_true HM.out]
         exact ⟨_,rfl,κ _ w2 rfl (γ.trans (hb2.mono γ.size)) hb2⟩
      . intro a w1 ξ γ ν ω ζ ψ κ
        have e0:=og (v:=.bool true) (ν 1 (by kernel_rfl) (by kernel_rfl))
        refine qB (v:=.bool true) (qA rfl) ?_ (κ _ w1 rfl γ bR)
        simp[execOp,go_sem,e0]
      . intro a w1 ξ γ ν ω ζ ψ κ
        have e0:=og (v:=.int .i64 bad) (ω 1 (by kernel_rfl))
        refine qB (v:=.int .i64 bad) (qE (j:=2) rfl (ν 2 (by kernel_rfl) (by kernel_rfl))) ?_ (κ _ w1 rfl γ bR)
        simp[execOp,go_sem,e0]
      . intro a w1 ξ γ ν ω ζ ψ κ
        have e0:=og (v:=.int .i64 bad) (ν 3 (by kernel_rfl) (by kernel_rfl))
        refine qB (v:=.bool true) (qE (j:=2) rfl (ν 2 (by kernel_rfl) (by kernel_rfl))) ?_ (κ _ w1 rfl γ bR)
        simp[execOp,go_sem,e0];omega
      . intro a w1 ξ γ ν ω ζ ψ κ
        have e0:=og (v:=.bool true) (ν 2 (by kernel_rfl) (by kernel_rfl))
        have e1:=og (v:=.bool true) (ν 4 (by kernel_rfl) (by kernel_rfl))
        refine qB (v:=.bool true) (qA rfl) ?_ (κ _ w1 rfl γ bR)
        simp[execOp,go_sem,asBool,e0,e1]
      . intro a w1 ξ γ ν ω ζ ψ κ
        have e0:=og (v:=.bool true) (ν 5 (by kernel_rfl) (by kernel_rfl))
        refine qB (v:=.bool true) (qA rfl) ?_ (κ _ w1 rfl γ bR)
        simp[execOp,go_sem,e0]
      . intro a w1 ξ γ ν ω ζ ψ κ
        have e0:=og (v:=.int .i64 bad) (ω 1 (by kernel_rfl))
        refine qB (v:=.int .i64 bad) (qE (j:=6) rfl (ν 6 (by kernel_rfl) (by kernel_rfl))) ?_ (κ _ w1 rfl γ bR)
        simp[execOp,go_sem,e0]
      . intro a w1 ξ γ ν ω ζ ψ κ
        have e0:=og (v:=.pointer (some ⟨w.heap.size,0,none⟩)) (ω 2 (by kernel_rfl))
        refine qB (v:=.pointer (some ⟨w.heap.size,0,none⟩)) (qE (j:=6) rfl (ν 6 (by kernel_rfl) (by kernel_rfl))) ?_ (κ _ w1 rfl γ bR)
        simp[execOp,go_sem,e0]
      . intro a w1 ξ γ ν ω ζ ψ κ
        have e0:=og (v:=.pointer (some ⟨w.heap.size,0,none⟩)) (ν 8 (by kernel_rfl) (by kernel_rfl))
        have k0:=(qe ((γ.block w.heap.size HLT.out).trans BX0.out)).1
        refine qB (v:=.int .i64 B) (qE (j:=6) rfl (ν 6 (by kernel_rfl) (by kernel_rfl))) ?_ (κ _ w1 rfl γ bR)
        simp[execOp,go_sem,e0,k0]
      . intro a w1 ξ γ ν ω ζ ψ κ
        have e0:=og (v:=.int .i64 bad) (ν 7 (by kernel_rfl) (by kernel_rfl))
        have e1:=og (v:=.int .i64 B) (ν 9 (by kernel_rfl) (by kernel_rfl))
        refine qB (v:=.bool false) (qE (j:=6) rfl (ν 6 (by kernel_rfl) (by kernel_rfl))) ?_ (κ _ w1 rfl γ bR)
        simp[execOp,go_sem,e0,e1];omega
      . intro a w1 ξ γ ν ω ζ ψ κ
        have e0:=og (v:=.bool true) (ν 6 (by kernel_rfl) (by kernel_rfl))
        have e1:=og (v:=.bool false) (ν 10 (by kernel_rfl) (by kernel_rfl))
        refine qB (v:=.bool false) (qA rfl) ?_ (κ _ w1 rfl γ bR)
        simp[execOp,go_sem,asBool,e0,e1]
      . intro a w1 ξ γ ν ω ζ ψ κ
        have e0:=og (v:=.bool false) (ν 11 (by kernel_rfl) (by kernel_rfl))
        refine qB (v:=.bool false) (qA rfl) ?_ (κ _ w1 rfl γ bR)
        simp[execOp,go_sem,e0]
      . intro a w1 ξ γ ν ω ζ ψ κ
        exact qH (j:=12) rfl (ν 12 (by kernel_rfl) (by kernel_rfl)) (by decide) (κ undef w1 rfl γ bR)
      . intro a w1 ξ γ ν ω ζ ψ κ
        exact qH (j:=12) rfl (ν 12 (by kernel_rfl) (by kernel_rfl)) (by decide) (κ undef w1 rfl γ bR)
      . intro a w1 ξ γ ν ω ζ ψ κ
        exact qH (j:=12) rfl (ν 12 (by kernel_rfl) (by kernel_rfl)) (by decide) (κ undef w1 rfl γ bR)
      . intro a w1 ξ γ ν ω ζ ψ κ
        exact qH (j:=12) rfl (ν 12 (by kernel_rfl) (by kernel_rfl)) (by decide) (κ undef w1 rfl γ bR)
      . intro a w1 ξ γ ν ω ζ ψ κ
        exact qH (j:=12) rfl (ν 12 (by kernel_rfl) (by kernel_rfl)) (by decide) (κ undef w1 rfl γ bR)
      . intro a w1 ξ γ ν ω ζ ψ κ
        exact qH (j:=12) rfl (ν 12 (by kernel_rfl) (by kernel_rfl)) (by decide) (κ undef w1 rfl γ bR)
      . intro a w1 ξ γ ν ω ζ ψ κ
        have e0:=og (v:=.bool false) (ν 12 (by kernel_rfl) (by kernel_rfl))
        refine qB (v:=.bool false) (qA rfl) ?_ (κ _ w1 rfl γ bR)
        simp[execOp,go_sem,asBool,e0]
      . intro a w1 ξ γ ν ω ζ ψ κ
        have e0:=og (v:=.bool false) (ν 19 (by kernel_rfl) (by kernel_rfl))
        refine qB (v:=.bool false) (qA rfl) ?_ (κ _ w1 rfl γ bR)
        simp[execOp,go_sem,e0]
     case hend =>
      intro a w6 hG hde hsz hφ hold
      obtain rfl:=qy [(5,.agg #[.int .i64 B,.int .i64 P,.int .i64 S,.int .i64 D,.int .i64 U]),(6,.bool true),(7,.bool true),(8,.int .i64 bad),(9,.bool true),(10,.bool true),(11,.bool true),(12,.int .i64 bad),(13,.pointer (some ⟨w.heap.size,0,none⟩)),(14,.int .i64 B),(15,.bool false),(16,.bool false),(17,.bool false),(18,undef),(19,undef),(20,undef),(21,undef),(22,undef),(23,undef),(24,.bool false),(4,.bool false)] [5,6,7,8,9,10,11,12,13,14,15,16,17,18,19,20,21,22,23,24,4] rfl (by kernel_rfl) (by kernel_rfl) hde hsz (fC ⟨(hφ 0 (by kernel_rfl)),(fC ⟨(hφ 1 (by kernel_rfl)),(fC ⟨(hφ 2 (by kernel_rfl)),(fC ⟨(hφ 3 (by kernel_rfl)),(fC ⟨(hφ 4 (by kernel_rfl)),(fC ⟨(hφ 5 (by kernel_rfl)),(fC ⟨(hφ 6 (by kernel_rfl)),(fC ⟨(hφ 7 (by kernel_rfl)),(fC ⟨(hφ 8 (by kernel_rfl)),(fC ⟨(hφ 9 (by kernel_rfl)),(fC ⟨(hφ 10 (by kernel_rfl)),(fC ⟨(hφ 11 (by kernel_rfl)),(fC ⟨(hφ 12 (by kernel_rfl)),(fC ⟨(hφ 13 (by kernel_rfl)),(fC ⟨(hφ 14 (by kernel_rfl)),(fC ⟨(hφ 15 (by kernel_rfl)),(fC ⟨(hφ 16 (by kernel_rfl)),(fC ⟨(hφ 17 (by kernel_rfl)),(fC ⟨(hφ 18 (by kernel_rfl)),(fC ⟨(hφ 19 (by kernel_rfl)),(fC ⟨(hφ 20 (by kernel_rfl)),(λ_ h=>absurd h (by simp))⟩)⟩)⟩)⟩)⟩)⟩)⟩)⟩)⟩)⟩)⟩)⟩)⟩)⟩)⟩)⟩)⟩)⟩)⟩)⟩)⟩) hold
      clear hφ hold hsz hde
      simp only[qd]
      go_frame
      go_wp2_with fail
      go_ret
      exact ⟨by rw[HN.out];rfl,HB0.out.trans (hG.mono HB0.out.size)⟩
    case pos =>
     clear hM
     go_enter Tryz.func39,Tryz.ntmps39
     go_upto_region 1 with fail
     clear hW
     refine qR (λj v w'=>match j with | 0=>v=.agg #[.int .i64 B,.int .i64 P,.int .i64 S,.int .i64 D,.int .i64 U] | 1=>v=.bool true | 2=>v=.bool true | 3=>v=.int .i64 bad | 4=>v=.bool true | 5=>v=.bool true | 6=>v=.bool true | 7=>v=.int .i64 bad | 8=>v=.pointer (some ⟨w.heap.size,0,none⟩) | 9=>v=.int .i64 B | 10=>v=.bool true | 11=>v=.bool true | 12=>v=.bool true | 13=>v=.agg #[.int .i64 B,.int .i64 P,.int .i64 S,.int .i64 D,.int .i64 U] | 14=>v=.int .i64 bad | 15=>v=.int .i64 (qq B P S D U bad) | 16=>v=.agg #[.int .i64 B,.int .i64 P,.int .i64 S,.int .i64 D,.int .i64 U] | 17=>v=.int .i64 (vK B P S D U) | 18=>v=.bool (decide (vK B P S D U<=qq B P S D U bad)) | 19=>v=.bool (decide (vK B P S D U<=qq B P S D U bad)) | 20=>v=.bool (decide (vK B P S D U<=qq B P S D U bad)) | _=>True) (λ_ w'=>Below W.heap.size W w') (λw1 w2=>Below w1.heap.size w1 w2) (by kernel_rfl) (by kernel_rfl) (by kernel_rfl) ?hR ?hG ?hops ?hend
     case hR =>
      intro j v w1 w2 hv hb
      match j,hv with
      | 0,hv | 1,hv | 2,hv | 3,hv | 4,hv | 5,hv | 6,hv | 7,hv | 8,hv | 9,hv | 10,hv | 11,hv | 12,hv | 13,hv | 14,hv | 15,hv | 16,hv | 17,hv | 18,hv | 19,hv | 20,hv=>exact hv
      | _+21,_=>exact trivial
     case hG=>exact bR.drew
     case hops =>
      refine oC ?_ (oC ?_ (oC ?_ (oC ?_ (oC ?_ (oC ?_ (oC ?_ (oC ?_ (oC ?_ (oC ?_ (oC ?_ (oC ?_ (oC ?_ (oC ?_ (oC ?_ (oC ?_ (oC ?_ (oC ?_ (oC ?_ (oC ?_ (oC ?_ OpsOkS.nil))))))))))))))))))))
      . intro a w1 ξ γ ν ω ζ ψ κ
        have e0:=og (v:=.pointer (some ⟨w.heap.size,0,none⟩)) (ω 2 (by kernel_rfl))
        obtain ⟨k1,k2,k3,k4,k5⟩:=qe ((γ.block w.heap.size HLT.out).trans BX0.out)
        refine qB (v:=.agg #[.int .i64 B,.int .i64 P,.int .i64 S,.int .i64 D,.int .i64 U]) (qA rfl) ?_ (κ _ w1 rfl γ bR)
        simp[execOp,go_sem,e0,k1,k2,k3,k4,k5]
      . intro a w1 ξ γ ν ω ζ ψ κ
        have e0:=og (v:=.agg #[.int .i64 B,.int .i64 P,.int .i64 S,.int .i64 D,.int .i64 U]) (ν 0 (by kernel_rfl) (by kernel_rfl))
        refine qM (qA rfl) (f:=38) (args:=#[.agg #[.int .i64 B,.int .i64 P,.int .i64 S,.int .i64 D,.int .i64 U]]) ?run ((vT B P S D U w1).mono ?post)
        case run=>simp[go_sem,e0]
        case post =>
         rintro e w2 ⟨rfl,hb2⟩
         rw[decide_eq_true HM.out]
         exact ⟨_,rfl,κ _ w2 rfl (γ.trans (hb2.mono γ.size)) hb2⟩
      . intro a w1 ξ γ ν ω ζ ψ κ
        have e0:=og (v:=.bool true) (ν 1 (by kernel_rfl) (by kernel_rfl))
        refine qB (v:=.bool true) (qA rfl) ?_ (κ _ w1 rfl γ bR)
        simp[execOp,go_sem,e0]
      . intro a w1 ξ γ ν ω ζ ψ κ
        have e0:=og (v:=.int .i64 bad) (ω 1 (by kernel_rfl))
        refine qB (v:=.int .i64 bad) (qE (j:=2) rfl (ν 2 (by kernel_rfl) (by kernel_rfl))) ?_ (κ _ w1 rfl γ bR)
        simp[execOp,go_sem,e0]
      . intro a w1 ξ γ ν ω ζ ψ κ
        have e0:=og (v:=.int .i64 bad) (ν 3 (by kernel_rfl) (by kernel_rfl))
        refine qB (v:=.bool true) (qE (j:=2) rfl (ν 2 (by kernel_rfl) (by kernel_rfl))) ?_ (κ _ w1 rfl γ bR)
        simp[execOp,go_sem,e0];omega
      . intro a w1 ξ γ ν ω ζ ψ κ
        have e0:=og (v:=.bool true) (ν 2 (by kernel_rfl) (by kernel_rfl))
        have e1:=og (v:=.bool true) (ν 4 (by kernel_rfl) (by kernel_rfl))
        refine qB (v:=.bool true) (qA rfl) ?_ (κ _ w1 rfl γ bR)
        simp[execOp,go_sem,asBool,e0,e1]
      . intro a w1 ξ γ ν ω ζ ψ κ
        have e0:=og (v:=.bool true) (ν 5 (by kernel_rfl) (by kernel_rfl))
        refine qB (v:=.bool true) (qA rfl) ?_ (κ _ w1 rfl γ bR)
        simp[execOp,go_sem,e0]
      . intro a w1 ξ γ ν ω ζ ψ κ
        have e0:=og (v:=.int .i64 bad) (ω 1 (by kernel_rfl))
        refine qB (v:=.int .i64 bad) (qE (j:=6) rfl (ν 6 (by kernel_rfl) (by kernel_rfl))) ?_ (κ _ w1 rfl γ bR)
        simp[execOp,go_sem,e0]
      . intro a w1 ξ γ ν ω ζ ψ κ
        have e0:=og (v:=.pointer (some ⟨w.heap.size,0,none⟩)) (ω 2 (by kernel_rfl))
        refine qB (v:=.pointer (some ⟨w.heap.size,0,none⟩)) (qE (j:=6) rfl (ν 6 (by kernel_rfl) (by kernel_rfl))) ?_ (κ _ w1 rfl γ bR)
        simp[execOp,go_sem,e0]
      . intro a w1 ξ γ ν ω ζ ψ κ
        have e0:=og (v:=.pointer (some ⟨w.heap.size,0,none⟩)) (ν 8 (by kernel_rfl) (by kernel_rfl))
        have k0:=(qe ((γ.block w.heap.size HLT.out).trans BX0.out)).1
        refine qB (v:=.int .i64 B) (qE (j:=6) rfl (ν 6 (by kernel_rfl) (by kernel_rfl))) ?_ (κ _ w1 rfl γ bR)
        simp[execOp,go_sem,e0,k0]
      . intro a w1 ξ γ ν ω ζ ψ κ
        have e0:=og (v:=.int .i64 bad) (ν 7 (by kernel_rfl) (by kernel_rfl))
        have e1:=og (v:=.int .i64 B) (ν 9 (by kernel_rfl) (by kernel_rfl))
        refine qB (v:=.bool true) (qE (j:=6) rfl (ν 6 (by kernel_rfl) (by kernel_rfl))) ?_ (κ _ w1 rfl γ bR)
        simp[execOp,go_sem,e0,e1];omega
      . intro a w1 ξ γ ν ω ζ ψ κ
        have e0:=og (v:=.bool true) (ν 6 (by kernel_rfl) (by kernel_rfl))
        have e1:=og (v:=.bool true) (ν 10 (by kernel_rfl) (by kernel_rfl))
        refine qB (v:=.bool true) (qA rfl) ?_ (κ _ w1 rfl γ bR)
        simp[execOp,go_sem,asBool,e0,e1]
      . intro a w1 ξ γ ν ω ζ ψ κ
        have e0:=og (v:=.bool true) (ν 11 (by kernel_rfl) (by kernel_rfl))
        refine qB (v:=.bool true) (qA rfl) ?_ (κ _ w1 rfl γ bR)
        simp[execOp,go_sem,e0]
      . intro a w1 ξ γ ν ω ζ ψ κ
        have e0:=og (v:=.pointer (some ⟨w.heap.size,0,none⟩)) (ω 2 (by kernel_rfl))
        obtain ⟨k1,k2,k3,k4,k5⟩:=qe ((γ.block w.heap.size HLT.out).trans BX0.out)
        refine qB (v:=.agg #[.int .i64 B,.int .i64 P,.int .i64 S,.int .i64 D,.int .i64 U]) (qE (j:=12) rfl (ν 12 (by kernel_rfl) (by kernel_rfl))) ?_ (κ _ w1 rfl γ bR)
        simp[execOp,go_sem,e0,k1,k2,k3,k4,k5]
      . intro a w1 ξ γ ν ω ζ ψ κ
        have e0:=og (v:=.int .i64 bad) (ω 1 (by kernel_rfl))
        refine qB (v:=.int .i64 bad) (qE (j:=12) rfl (ν 12 (by kernel_rfl) (by kernel_rfl))) ?_ (κ _ w1 rfl γ bR)
        simp[execOp,go_sem,e0]
      . intro a w1 ξ γ ν ω ζ ψ κ
        have e0:=og (v:=.agg #[.int .i64 B,.int .i64 P,.int .i64 S,.int .i64 D,.int .i64 U]) (ν 13 (by kernel_rfl) (by kernel_rfl))
        have e1:=og (v:=.int .i64 bad) (ν 14 (by kernel_rfl) (by kernel_rfl))
        refine qM (qE (j:=12) rfl (ν 12 (by kernel_rfl) (by kernel_rfl))) (f:=72) (args:=#[.agg #[.int .i64 B,.int .i64 P,.int .i64 S,.int .i64 D,.int .i64 U],.int .i64 bad]) ?run ((zXb B P S D U bad w1 HBD.out).mono ?post)
        case run=>simp[go_sem,e0,e1]
        case post =>
         rintro e w2 ⟨rfl,hb2⟩
         exact ⟨_,rfl,κ _ w2 rfl (γ.trans (hb2.mono γ.size)) hb2⟩
      . intro a w1 ξ γ ν ω ζ ψ κ
        have e0:=og (v:=.pointer (some ⟨w.heap.size,0,none⟩)) (ω 2 (by kernel_rfl))
        obtain ⟨k1,k2,k3,k4,k5⟩:=qe ((γ.block w.heap.size HLT.out).trans BX0.out)
        refine qB (v:=.agg #[.int .i64 B,.int .i64 P,.int .i64 S,.int .i64 D,.int .i64 U]) (qE (j:=12) rfl (ν 12 (by kernel_rfl) (by kernel_rfl))) ?_ (κ _ w1 rfl γ bR)
        simp[execOp,go_sem,e0,k1,k2,k3,k4,k5]
      . intro a w1 ξ γ ν ω ζ ψ κ
        have e0:=og (v:=.agg #[.int .i64 B,.int .i64 P,.int .i64 S,.int .i64 D,.int .i64 U]) (ν 16 (by kernel_rfl) (by kernel_rfl))
        refine qM (qE (j:=12) rfl (ν 12 (by kernel_rfl) (by kernel_rfl))) (f:=73) (args:=#[.agg #[.int .i64 B,.int .i64 P,.int .i64 S,.int .i64 D,.int .i64 U]]) ?run ((zYm B P S D U w1).mono ?post)
        case run=>simp[go_sem,e0]
        case post =>
         rintro e w2 ⟨rfl,hb2⟩
         exact ⟨_,rfl,κ _ w2 rfl (γ.trans (hb2.mono γ.size)) hb2⟩
      . intro a w1 ξ γ ν ω ζ ψ κ
        have e0:=og (v:=.int .i64 (qq B P S D U bad)) (ν 15 (by kernel_rfl) (by kernel_rfl))
        have e1:=og (v:=.int .i64 (vK B P S D U)) (ν 17 (by kernel_rfl) (by kernel_rfl))
        refine qB (v:=.bool (decide (vK B P S D U<=qq B P S D U bad))) (qE (j:=12) rfl (ν 12 (by kernel_rfl) (by kernel_rfl))) ?_ (κ _ w1 rfl γ bR)
        simp[execOp,go_sem,e0,e1]
      . intro a w1 ξ γ ν ω ζ ψ κ
        have e0:=og (v:=.bool true) (ν 12 (by kernel_rfl) (by kernel_rfl))
        have e1:=og (v:=.bool (decide (vK B P S D U<=qq B P S D U bad))) (ν 18 (by kernel_rfl) (by kernel_rfl))
        refine qB (v:=.bool (decide (vK B P S D U<=qq B P S D U bad))) (qA rfl) ?_ (κ _ w1 rfl γ bR)
        simp[execOp,go_sem,asBool,e0,e1]
      . intro a w1 ξ γ ν ω ζ ψ κ
        have e0:=og (v:=.bool (decide (vK B P S D U<=qq B P S D U bad))) (ν 19 (by kernel_rfl) (by kernel_rfl))
        refine qB (v:=.bool (decide (vK B P S D U<=qq B P S D U bad))) (qA rfl) ?_ (κ _ w1 rfl γ bR)
        simp[execOp,go_sem,e0]
     case hend =>
      intro a w6 hG hde hsz hφ hold
      obtain rfl:=qy [(5,.agg #[.int .i64 B,.int .i64 P,.int .i64 S,.int .i64 D,.int .i64 U]),(6,.bool true),(7,.bool true),(8,.int .i64 bad),(9,.bool true),(10,.bool true),(11,.bool true),(12,.int .i64 bad),(13,.pointer (some ⟨w.heap.size,0,none⟩)),(14,.int .i64 B),(15,.bool true),(16,.bool true),(17,.bool true),(18,.agg #[.int .i64 B,.int .i64 P,.int .i64 S,.int .i64 D,.int .i64 U]),(19,.int .i64 bad),(20,.int .i64 (qq B P S D U bad)),(21,.agg #[.int .i64 B,.int .i64 P,.int .i64 S,.int .i64 D,.int .i64 U]),(22,.int .i64 (vK B P S D U)),(23,.bool (decide (vK B P S D U<=qq B P S D U bad))),(24,.bool (decide (vK B P S D U<=qq B P S D U bad))),(4,.bool (decide (vK B P S D U<=qq B P S D U bad)))] [5,6,7,8,9,10,11,12,13,14,15,16,17,18,19,20,21,22,23,24,4] rfl (by kernel_rfl) (by kernel_rfl) hde hsz (fC ⟨(hφ 0 (by kernel_rfl)),(fC ⟨(hφ 1 (by kernel_rfl)),(fC ⟨(hφ 2 (by kernel_rfl)),(fC ⟨(hφ 3 (by kernel_rfl)),(fC ⟨(hφ 4 (by kernel_rfl)),(fC ⟨(hφ 5 (by kernel_rfl)),(fC ⟨(hφ 6 (by kernel_rfl)),(fC ⟨(hφ 7 (by kernel_rfl)),(fC ⟨(hφ 8 (by kernel_rfl)),(fC ⟨(hφ 9 (by kernel_rfl)),(fC ⟨(hφ 10 (by kernel_rfl)),(fC ⟨(hφ 11 (by kernel_rfl)),(fC ⟨(hφ 12 (by kernel_rfl)),(fC ⟨(hφ 13 (by kernel_rfl)),(fC ⟨(hφ 14 (by kernel_rfl)),(fC ⟨(hφ 15 (by kernel_rfl)),(fC ⟨(hφ 16 (by kernel_rfl)),(fC ⟨(hφ 17 (by kernel_rfl)),(fC ⟨(hφ 18 (by kernel_rfl)),(fC ⟨(hφ 19 (by kernel_rfl)),(fC ⟨(hφ 20 (by kernel_rfl)),(λ_ h=>absurd h (by simp))⟩)⟩)⟩)⟩)⟩)⟩)⟩)⟩)⟩)⟩)⟩)⟩)⟩)⟩)⟩)⟩)⟩)⟩)⟩)⟩)⟩) hold
      clear hφ hold hsz hde
      simp only[qd]
      go_frame
      go_wp2_with fail
      go_ret
      exact ⟨by rw[<- HF.out];rfl,HB0.out.trans (hG.mono HB0.out.size)⟩
 . have HM:=hI hM
   have HN:Hid (decide (yZ B P S D U bad)=false):=hI (decide_eq_false λk=>hM k.1)
   clear hM
   go_enter Tryz.func39,Tryz.ntmps39
   go_upto_region 1 with fail
   clear hW
   refine qR (λj v w'=>match j with | 0=>v=.agg #[.int .i64 B,.int .i64 P,.int .i64 S,.int .i64 D,.int .i64 U] | 1=>v=.bool false | 2=>v=.bool false | 3=>v=undef | 4=>v=undef | 5=>v=.bool false | 6=>v=.bool false | 7=>v=undef | 8=>v=undef | 9=>v=undef | 10=>v=undef | 11=>v=.bool false | 12=>v=.bool false | 13=>v=undef | 14=>v=undef | 15=>v=undef | 16=>v=undef | 17=>v=undef | 18=>v=undef | 19=>v=.bool false | 20=>v=.bool false | _=>True) (λ_ w'=>Below W.heap.size W w') (λw1 w2=>Below w1.heap.size w1 w2) (by kernel_rfl) (by kernel_rfl) (by kernel_rfl) ?hR ?hG ?hops ?hend
   case hR =>
    intro j v w1 w2 hv hb
    match j,hv with
    | 0,hv | 1,hv | 2,hv | 3,hv | 4,hv | 5,hv | 6,hv | 7,hv | 8,hv | 9,hv | 10,hv | 11,hv | 12,hv | 13,hv | 14,hv | 15,hv | 16,hv | 17,hv | 18,hv | 19,hv | 20,hv=>exact hv
    | _+21,_=>exact trivial
   case hG=>exact bR.drew
   case hops =>
    refine oC ?_ (oC ?_ (oC ?_ (oC ?_ (oC ?_ (oC ?_ (oC ?_ (oC ?_ (oC ?_ (oC ?_ (oC ?_ (oC ?_ (oC ?_ (oC ?_ (oC ?_ (oC ?_ (oC ?_ (oC ?_ (oC ?_ (oC ?_ (oC ?_ OpsOkS.nil))))))))))))))))))))
    . intro a w1 ξ γ ν ω ζ ψ κ
      have e0:=og (v:=.pointer (some ⟨w.heap.size,0,none⟩)) (ω 2 (by kernel_rfl))
      obtain ⟨k1,k2,k3,k4,k5⟩:=qe ((γ.block w.heap.size HLT.out).trans BX0.out)
      refine qB (v:=.agg #[.int .i64 B,.int .i64 P,.int .i64 S,.int .i64 D,.int .i64 U]) (qA rfl) ?_ (κ _ w1 rfl γ bR)
      simp[execOp,go_sem,e0,k1,k2,k3,k4,k5]
    . intro a w1 ξ γ ν ω ζ ψ κ
      have e0:=og (v:=.agg #[.int .i64 B,.int .i64 P,.int .i64 S,.int .i64 D,.int .i64 U]) (ν 0 (by kernel_rfl) (by kernel_rfl))
      refine qM (qA rfl) (f:=38) (args:=#[.agg #[.int .i64 B,.int .i64 P,.int .i64 S,.int .i64 D,.int .i64 U]]) ?run ((vT B P S D U w1).mono ?post)
      case run=>simp[go_sem,e0]
      case post =>
       rintro e w2 ⟨rfl,hb2⟩
       rw[decide_eq_false HM.out]
       exact ⟨_,rfl,κ _ w2 rfl (γ.trans (hb2.mono γ.size)) hb2⟩
    . intro a w1 ξ γ ν ω ζ ψ κ
      have e0:=og (v:=.bool false) (ν 1 (by kernel_rfl) (by kernel_rfl))
      refine qB (v:=.bool false) (qA rfl) ?_ (κ _ w1 rfl γ bR)
      simp[execOp,go_sem,e0]
    . intro a w1 ξ γ ν ω ζ ψ κ
      exact qH (j:=2) rfl (ν 2 (by kernel_rfl) (by kernel_rfl)) (by decide) (κ undef w1 rfl γ bR)
    . intro a w1 ξ γ ν ω ζ ψ κ
      exact qH (j:=2) rfl (ν 2 (by kernel_rfl) (by kernel_rfl)) (by decide) (κ undef w1 rfl γ bR)
    . intro a w1 ξ γ ν ω ζ ψ κ
      have e0:=og (v:=.bool false) (ν 2 (by kernel_rfl) (by kernel_rfl))
      refine qB (v:=.bool false) (qA rfl) ?_ (κ _ w1 rfl γ bR)
      simp[execOp,go_sem,asBool,e0]
    . intro a w1 ξ γ ν ω ζ ψ κ
      have e0:=og (v:=.bool false) (ν 5 (by kernel_rfl) (by kernel_rfl))
      refine qB (v:=.bool false) (qA rfl) ?_ (κ _ w1 rfl γ bR)
      simp[execOp,go_sem,e0]
    . intro a w1 ξ γ ν ω ζ ψ κ
      exact qH (j:=6) rfl (ν 6 (by kernel_rfl) (by kernel_rfl)) (by decide) (κ undef w1 rfl γ bR)
    . intro a w1 ξ γ ν ω ζ ψ κ
      exact qH (j:=6) rfl (ν 6 (by kernel_rfl) (by kernel_rfl)) (by decide) (κ undef w1 rfl γ bR)
    . intro a w1 ξ γ ν ω ζ ψ κ
      exact qH (j:=6) rfl (ν 6 (by kernel_rfl) (by kernel_rfl)) (by decide) (κ undef w1 rfl γ bR)
    . intro a w1 ξ γ ν ω ζ ψ κ
      exact qH (j:=6) rfl (ν 6 (by kernel_rfl) (by kernel_rfl)) (by decide) (κ undef w1 rfl γ bR)
    . intro a w1 ξ γ ν ω ζ ψ κ
      have e0:=og (v:=.bool false) (ν 6 (by kernel_rfl) (by kernel_rfl))
      refine qB (v:=.bool false) (qA rfl) ?_ (κ _ w1 rfl γ bR)
      simp[execOp,go_sem,asBool,e0]
    . intro a w1 ξ γ ν ω ζ ψ κ
      have e0:=og (v:=.bool false) (ν 11 (by kernel_rfl) (by kernel_rfl))
      refine qB (v:=.bool false) (qA rfl) ?_ (κ _ w1 rfl γ bR)
      simp[execOp,go_sem,e0]
    . intro a w1 ξ γ ν ω ζ ψ κ
      exact qH (j:=12) rfl (ν 12 (by kernel_rfl) (by kernel_rfl)) (by decide) (κ undef w1 rfl γ bR)
    . intro a w1 ξ γ ν ω ζ ψ κ
      exact qH (j:=12) rfl (ν 12 (by kernel_rfl) (by kernel_rfl)) (by decide) (κ undef w1 rfl γ bR)
    . intro a w1 ξ γ ν ω ζ ψ κ
      exact qH (j:=12) rfl (ν 12 (by kernel_rfl) (by kernel_rfl)) (by decide) (κ undef w1 rfl γ bR)
    . intro a w1 ξ γ ν ω ζ ψ κ
      exact qH (j:=12) rfl (ν 12 (by kernel_rfl) (by kernel_rfl)) (by decide) (κ undef w1 rfl γ bR)
    . intro a w1 ξ γ ν ω ζ ψ κ
      exact qH (j:=12) rfl (ν 12 (by kernel_rfl) (by kernel_rfl)) (by decide) (κ undef w1 rfl γ bR)
    . intro a w1 ξ γ ν ω ζ ψ κ
      exact qH (j:=12) rfl (ν 12 (by kernel_rfl) (by kernel_rfl)) (by decide) (κ undef w1 rfl γ bR)
    . intro a w1 ξ γ ν ω ζ ψ κ
      have e0:=og (v:=.bool false) (ν 12 (by kernel_rfl) (by kernel_rfl))
      refine qB (v:=.bool false) (qA rfl) ?_ (κ _ w1 rfl γ bR)
      simp[execOp,go_sem,asBool,e0]
    . intro a w1 ξ γ ν ω ζ ψ κ
      have e0:=og (v:=.bool false) (ν 19 (by kernel_rfl) (by kernel_rfl))
      refine qB (v:=.bool false) (qA rfl) ?_ (κ _ w1 rfl γ bR)
      simp[execOp,go_sem,e0]
   case hend =>
    intro a w6 hG hde hsz hφ hold
    obtain rfl:=qy [(5,.agg #[.int .i64 B,.int .i64 P,.int .i64 S,.int .i64 D,.int .i64 U]),(6,.bool false),(7,.bool false),(8,undef),(9,undef),(10,.bool false),(11,.bool false),(12,undef),(13,undef),(14,undef),(15,undef),(16,.bool false),(17,.bool false),(18,undef),(19,undef),(20,undef),(21,undef),(22,undef),(23,undef),(24,.bool false),(4,.bool false)] [5,6,7,8,9,10,11,12,13,14,15,16,17,18,19,20,21,22,23,24,4] rfl (by kernel_rfl) (by kernel_rfl) hde hsz (fC ⟨(hφ 0 (by kernel_rfl)),(fC ⟨(hφ 1 (by kernel_rfl)),(fC ⟨(hφ 2 (by kernel_rfl)),(fC ⟨(hφ 3 (by kernel_rfl)),(fC ⟨(hφ 4 (by kernel_rfl)),(fC ⟨(hφ 5 (by kernel_rfl)),(fC ⟨(hφ 6 (by kernel_rfl)),(fC ⟨(hφ 7 (by kernel_rfl)),(fC ⟨(hφ 8 (by kernel_rfl)),(fC ⟨(hφ 9 (by kernel_rfl)),(fC ⟨(hφ 10 (by kernel_rfl)),(fC ⟨(hφ 11 (by kernel_rfl)),(fC ⟨(hφ 12 (by kernel_rfl)),(fC ⟨(hφ 13 (by kernel_rfl)),(fC ⟨(hφ 14 (by kernel_rfl)),(fC ⟨(hφ 15 (by kernel_rfl)),(fC ⟨(hφ 16 (by kernel_rfl)),(fC ⟨(hφ 17 (by kernel_rfl)),(fC ⟨(hφ 18 (by kernel_rfl)),(fC ⟨(hφ 19 (by kernel_rfl)),(fC ⟨(hφ 20 (by kernel_rfl)),(λ_ h=>absurd h (by simp))⟩)⟩)⟩)⟩)⟩)⟩)⟩)⟩)⟩)⟩)⟩)⟩)⟩)⟩)⟩)⟩)⟩)⟩)⟩)⟩)⟩) hold
    clear hφ hold hsz hde
    simp only[qd]
    go_frame
    go_wp2_with fail
    go_ret
    exact ⟨by rw[HN.out];rfl,HB0.out.trans (hG.mono HB0.out.size)⟩
end
section
open Go.RowKit
section
variable {w w' V:World} {p c l f:Nat} {x y X Y Z:Nat->Prop} {Q Q1:PS} {T:List Fd} {S:LS}
theorem zSd:(Tryz.prog.info? 33).map (λi=>(i.zero,i.size,i.bytes))=some (some (.agg #[.int .i64 0,.int .i64 0]),2,16):=by kernel_rfl
def yP (l:List P2):List Value:=l.flatMap λr=>[.int .i64 r.1,.int .i64 r.2]
theorem rcells_len (l:List P2):(yP l).length=l.length * 2:=by
 induction l with
 | nil=>rfl
 | cons r l ih=>unfold yP at ih ⊢;rw[List.flatMap_cons,List.length_append,ih];simp;omega
theorem zFq (l:List P2) (r:P2):yP (l++[r])=yP l++[.int .i64 r.1,.int .i64 r.2]:=by simp[yP]
theorem zHr (l:List P2):∀j (h:j<l.length),(yP l)[j * 2]? = some (.int .i64 l[j].1)/\(yP l)[j * 2+1]? = some (.int .i64 l[j].2):=by
 induction l with
 | nil=>intro j h;cases h
 | cons r l ih =>
  intro j h
  have e:yP (r::l)=.int .i64 r.1::.int .i64 r.2::yP l:=by simp[yP]
  rw[e]
  cases j with
  | zero=>simp
  | succ j =>
   have:=ih j (by simpa using h)
   rw[show (j+1) * 2=j * 2+1+1 by omega]
   simpa using this
def ROwn (w:World) (base:Nat) (v:Value) (l:List P2):Prop:=w.ownsRow base 33 2 v l.length (yP l)
theorem ROwn.nil (w:World) (base:Nat):ROwn w base (.slice none 0 0) []:=World.ownsRow_nil _ _ _ _
theorem ROwn.lies {base m:Nat} {A:Option Addr} {l:List P2} (h:ROwn w base (.slice A l.length m) l):RLies w A l/\(∀ad,A=some ad->base<=ad.block/\ad.block<w.heap.size):=by
 refine ⟨λhn=>?_,λad e=>?_⟩
 . rcases h.2 with ⟨_,e⟩ | ⟨g,cap,cur,e,_,hg,_⟩
   . omega
   . simp at e
     obtain ⟨rfl,_⟩:=e
     have hlt:=World.ownsRow.lt h g rfl
     refine ⟨g,0,rfl,hlt.2,λj hj=>?_⟩
     obtain ⟨g0,g1⟩:=zHr l j hj
     have h':w.ownsRow base 33 2 (.slice (some ⟨g,0,none⟩) l.length m) l.length (yP l):=h
     have k0:=World.ownsRow.cellAt h' (j * 2) (by omega)
     have k1:=World.ownsRow.cellAt h' (j * 2+1) (by omega)
     rw[Nat.zero_add,k0,k1]
     exact ⟨g0,g1⟩
 . subst e
   rcases h.2 with ⟨e2,_⟩ | ⟨g,cap,cur,e2,_⟩
   . simp at e2
   . simp at e2
     obtain ⟨rfl,_⟩:=e2
     exact World.ownsRow.lt h g rfl
theorem q_refs (A:Option Addr) (m:Nat) (l0:List Fd) (w:World) (hl:FLies w A l0) (hlen:l0.length<=1000):Calls Tryz.prog 63 #[.slice A l0.length m] w λe w'=>∃A' m',e=.returned (.slice A' (l0.map (·.1)).length m')/\RLies w' A' (l0.map (·.1))/\(∀ad,A'=some ad->w.heap.size<=ad.block/\ad.block<w'.heap.size)/\ROwn w' w.heap.size (.slice A' (l0.map (·.1)).length m') (l0.map (·.1))/\Below w.heap.size w w':=by
 obtain ⟨i0,hi0,hz0,hs0,hby0⟩:=info_parts zSd
 have HL:=hI hl
 clear hl
 go_enter Tryz.func63,Tryz.ntmps63
 go_wp2_with fail
 go_loopw [3,8] (λv3 v8 wr=>∃j:Nat,j<=l0.length/\v8=.int .i64 j/\ROwn wr w.heap.size v3 ((l0.take j).map (·.1))/\Below w.heap.size w wr) (λ_ v8 _=>l0.length - (intOf v8).toNat)
 case atStart=>exact ⟨0,Nat.zero_le _,rfl,.nil _ _,bR⟩
 case round =>
  obtain ⟨j,hj,rfl,hO,hB⟩:=hrel
  have HB:=hI hB
  have HO:=hI hO
  have hs:=hB.size
  clear hB hO
  by_cases hj1:j<l0.length
  . obtain ⟨B,o,rfl,hBs,hc⟩:=(HL.out.below HB.out) (by omega)
    obtain ⟨k0,k1,k2,k3⟩:=hc j hj1
    have HTK:Hid ((l0.take (j+1)).map (·.1)=(l0.take j).map (·.1)++[l0[j].1]):=hI (by rw[List.take_succ_eq_append_getElem hj1,List.map_append];rfl)
    have hjl:((l0.take j).map (·.1)).length=j:=by simp;omega
    clear hc
    generalize l0[j]=fd at k0 k1 k2 k3 HTK
    obtain ⟨xs,hxs⟩:∃xs,xs=(l0.take j).map (·.1):=⟨_,rfl⟩
    rw[<- hxs] at HO HTK hjl
    have hown:=HO.out
    unfold ROwn at hown
    rw[hjl] at hown
    obtain ⟨V,mv,rfl,_⟩:=qN hown
    have HOW:=hI hown
    have HJL:=hI hjl
    clear hown hjl hxs
    obtain ⟨W2,hW2⟩:∃W2,wr.alloc (.cells #[.int .i64 fd.1.1,.int .i64 fd.1.2,.int .i64 fd.2.1,.int .i64 fd.2.2] 71)=W2:=⟨_,rfl⟩
    have HB2:Hid (Below wr.heap.size wr W2):=hI (by rw[<- hW2];exact bR.alloc nL _)
    have HG2:Hid (W2.heap[wr.heap.size]? = some (.cells #[.int .i64 fd.1.1,.int .i64 fd.1.2,.int .i64 fd.2.1,.int .i64 fd.2.2] 71 (0,0))):=hI (by rw[<- hW2];exact heap_alloc_new _ _)
    obtain ⟨b0,b1,b2,b3,-⟩:=vM HG2.out
    obtain ⟨W3,hW3⟩:∃W3,W2.alloc (.cells #[.int .i64 fd.1.1,.int .i64 fd.1.2] 33)=W3:=⟨_,rfl⟩
    have HB3:Hid (Below wr.heap.size wr W3):=hI (by rw[<- hW3];exact HB2.out.alloc HB2.out.size _)
    have HG3:Hid (W3.heap[W2.heap.size]? = some (.cells #[.int .i64 fd.1.1,.int .i64 fd.1.2] 33 (0,0))):=hI (by rw[<- hW3];exact heap_alloc_new _ _)
    have HOW3:Hid (W3.ownsRow w.heap.size 33 2 (.slice V j mv) j (yP xs)):=hI (vS HOW.out λk e=>HB3.out.block k (World.ownsRow.lt HOW.out k e).2)
    have hs3:w.heap.size<=W3.heap.size:=Nat.le_trans hs HB3.out.size
    go_wp2_with (at_builtin;refine yC rfl _ _ _ rfl w.heap.size 33 i0 _ 2 16 Tryz.underlying64 hi0 hz0 hs0 hby0 rfl (by decide) (.slice V j mv) j (yP xs) rfl HOW3.out ⟨W2.heap.size,0,none⟩ 1 1 [.int .i64 fd.1.1,.int .i64 fd.1.2] rfl rfl (λk u hu=>by match k,hu with | 0,hu=>(simp at hu;subst hu;simp[World.cell?,HG3.out,Addr.add]) | 1,hu=>(simp at hu;subst hu;simp[World.cell?,HG3.out,Addr.add]) | n+2,hu=>simp at hu) (λu hu=>by simp at hu;rcases hu with rfl | rfl<;>rfl) (by unfold maxLen;omega) (by omega) hs3 ?_;intro q3 cap3 w4 hown4 hg4 hob4)
    have HO4:Hid (ROwn w4 w.heap.size (.slice q3 (j+1) cap3) (xs++[fd.1])):=hI (by unfold ROwn;rw[zFq,List.length_append,HJL.out];exact hown4)
    have HB4:Hid (Below w.heap.size w w4):=hI ((HB.out.trans (HB3.out.mono hs)).grown hg4 hs3 λk e=>(World.ownsRow.lt HOW3.out k e).1)
    clear hown4 hg4 hob4 hW2 hW3
    go_roundw
    case rel=>exact ⟨j+1,by omega,by go_num,by rw[HTK.out];exact HO4.out,HB4.out⟩
    case measure=>simp[intOf];omega
  . obtain rfl:j=l0.length:=by omega
    have hz:(l0.take l0.length)=l0:=List.take_length
    rw[hz] at HO
    obtain ⟨V,mv,hv,_⟩:=qN HO.out
    rw[hv] at HO ⊢
    clear hz hv
    go_wp2_with fail
    go_ret
    exact ⟨V,mv,rfl,HO.out.lies.1,HO.out.lies.2,HO.out,HB.out⟩
end
end
end Go.Proofs.YtinkkmlbhkfmnaaGreat
