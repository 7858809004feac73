/- A part of what the last text proves: PoG1, PoG2, PoG3, PoG4, PoG5, PoG6. -/
import Derived.Test.YtinkkmlbhkfmnaaGreatQPd
set_option maxRecDepth 100000
set_option maxHeartbeats 8000000
namespace Go.Proofs.YtinkkmlbhkfmnaaGreat
section
open Go.RowKit
section
variable {w w' V:World} {p c l f:Nat} {x y X Y Z:Nat->Prop} {Q Q1:PS} {T:List Fd}
def PS.sheetB (Q:PS) (page:Int) (d:List UInt8):List UInt8:=if vg page (Q.seq+1) d then qo page.toNat (Q.seq+1).toNat d else []
def PS.sheetE (Q:PS) (page:Int) (d:List UInt8):Int:=if vg page (Q.seq+1) d then 0 else 1
theorem zDj (page:Int) (A:Option Addr) (m:Nat) (d:List UInt8) (h:Parts w p c l f Q) (ok:Ok Q) (hd:RB w w.heap.size A d):Calls Tryz.prog 53 #[.pointer (some ⟨p,0,none⟩),.int .i64 page,.slice A d.length m] w λe w'=>∃A1 c1 L1,e=.returned (.tuple #[.slice A1 L1.length c1,.int .i64 (Q.sheetE page d)])/\Hid (L1=Q.sheetB page d)/\CB w' (New w w') A1 L1/\Below w.heap.size w w':=by
 have c9:=h.c9
 have HWS:IntKind.i64.wrap (Q.seq+1)=Q.seq+1:=qp _ (by have:=ok.seq;omega)
 have HD:=hI hd
 clear h ok hd
 go_enter Tryz.func53,Tryz.ntmps53
 go_wp2_with (go_at_call 87;(with_reducible refine (zOi _ page (Q.seq+1) A m d _ HD.out nL).mono ?_);rintro e w2 ⟨A1,c1,L1,er,rfl,hL,her,-,hr,hn,hb2⟩;have HE:=hI her;have HR:=hI hr;have HN:=hI hn;have HB2:=hI hb2;clear her hr hn hb2)
 go_ret2
 refine ⟨A1,c1,L1,by rw[HE.out];rfl,hL,λh0=>?_,HB2.out⟩
 obtain ⟨ad,e,hlt,hc⟩:=HR.out h0
 exact ⟨ad,e,⟨HN.out ad e,hlt⟩,hc⟩
instance (a:P2):Decidable (WfP a):=inferInstanceAs (Decidable (_/\_))
def PS.put (n:Nat) (Q:PS) (page:Int) (d:List UInt8):Option (Int × P2 × PS) :=
 if page=0 then some (1,(0,0),Q)
 else if ¬vg page (Q.seq+1) d then some (1,(0,0),Q)
 else if Q.K+6<=((Q.L.length+Q.F.length:Nat):Int) then some (18,(0,0),Q)
 else match Q.give n page (qo page.toNat (Q.seq+1).toNat d) with
  | none=>none
  | some (er,fd,Q1) =>
   if er=0 then (if WfP fd.1/\WfP fd.2/\(zD Q1.F fd.1 fd.2).length<=200 then some (0,fd.1,{ Q1 with F:=zD Q1.F fd.1 fd.2 }) else none)
   else some (er,(0,0),Q1)
theorem PoolAt.putF2 (r s:P2) (h1:PoolAt w p c l f X Y Z Q) (h2:∀b,x b->b<w.heap.size/\¬X b/\¬Y b/\¬Z b/\b≠p) (hl:Q.F.length<=1000) (hr:WfP r) (hs:WfP s):Calls Tryz.prog 56 #[.pointer (some ⟨f,0,none⟩),P2V r,P2V s] w λe w'=>e=.returned (.bool (zGr Q.F r s))/\Pool w' p c x { Q with F:=zD Q.F r s } /\ Safe x w w'/\w'.heap[p]? = w.heap[p]? :=by
 refine (zCn r s h1.fresh hl hr hs).mono ?_
 rintro e w' ⟨rfl,k1,k2⟩
 have h0:=qD h1.self
 have k3:=h1.fresh_op h2 k1 k2
 exact ⟨rfl,k3.1,k3.2,k2.block h0 ⟨h0,λk=>(h1.zp p k).1 rfl⟩⟩
theorem give_len {n:Nat} {page:Int} {b:List UInt8} {er:Int} {fd:Fd} {Q':PS} (h:Ok Q) (hs:Q.seq+1<=1099511627776) (hm:Q.give n page b=some (er,fd,Q')):Q'.F.length<=1000:=by have:=(h.give hs hm).tabs;omega
theorem Ok.put {n:Nat} {page:Int} {d:List UInt8} {er:Int} {r:P2} {Q':PS} (h:Ok Q) (hm:Q.put n page d=some (er,r,Q')):Ok Q':=by
 unfold PS.put at hm
 split at hm
 . cases hm;exact h
 . split at hm
   . cases hm;exact h
   . next h2 =>
     have h3:vg page (Q.seq+1) d:=Classical.not_not.1 h2
     split at hm
     . cases hm;exact h
     . split at hm
       . cases hm
       . next h1 =>
         have h4:=h.give h3.2.1.2 h1
         split at hm
         . split at hm
           . next h5=>cases hm;exact { h4 with tabs:=⟨h4.tabs.1,h5.2.2⟩ }
           . cases hm
         . cases hm;exact h4
theorem q_put (n:Nat) (page:Int) (A:Option Addr) (m:Nat) (d:List UInt8) {er:Int} {r:P2} {Q':PS} (h:Pool w p c x Q) (ok:Ok Q) (hd:RB w w.heap.size A d) (hm:Q.put n page d=some (er,r,Q')):Calls Tryz.prog 25 #[.pointer (some ⟨p,0,none⟩),.int .i64 page,.slice A d.length m] w λe w'=>e=.returned (.tuple #[P2V r,.int .i64 er])/\Pool w' p c x Q'/\Safe x w w':=by
 have HX:=hI h.there
 obtain ⟨W,hW⟩:∃W,w.alloc (.cells #[.int .i64 0,.int .i64 0] 33)=W:=⟨_,rfl⟩
 have HBW:Hid (Below w.heap.size w W):=hI (by rw[<- hW];exact bR.alloc nL _)
 have HRB:Hid (W.heap[w.heap.size]? = some (.cells #[.int .i64 0,.int .i64 0] 33 (0,0))):=hI (by rw[<- hW];exact heap_alloc_new _ _)
 have hrlt:=qD HRB.out
 have HPW:Hid (Pool W p c (λb=>x b\/b=w.heap.size) Q):=hI ((h.more HBW.out).less λb k=>k.imp id λe=>⟨by omega,by omega⟩)
 obtain ⟨l0,f0,hpt0⟩:=HPW.out.parts
 have HTW:=hI hpt0
 have HDW:Hid (RB W W.heap.size A d):=hI ((hd.below HBW.out nL).mono HBW.out.size)
 have HO:=hI ok
 have HRR:Hid (∀V,Safe (λb=>x b\/b=w.heap.size) W V->V.heap[w.heap.size]? = some (.cells #[.int .i64 0,.int .i64 0] 33 (0,0))):=hI λV hV=>(hV.block hrlt (.inr rfl)).trans HRB.out
 unfold PS.put at hm
 clear h ok hd hpt0
 by_cases h1:page=0
 . rw[if_pos h1] at hm
   have HE:Hid (er=1/\r=(0,0)/\Q'=Q):=hI (by have:=Option.some.inj hm;exact ⟨(congrArg (λz:Int × P2 × PS=>z.1) this).symm,(congrArg (λz:Int × P2 × PS=>z.2.1) this).symm,(congrArg (λz:Int × P2 × PS=>z.2.2) this).symm⟩)
   subst h1
   clear hm
   go_enter Tryz.func25,Tryz.ntmps25
   go_upto_region 2 with (go_at_call 52;(with_reducible refine (q_is HTW.out).mono ?_);rintro e w1 ⟨rfl,hw1⟩;subst hw1)
   obtain ⟨f0,f1,fr0,fr1⟩:=qG (HRR.out W (show Safe (λb=>x b\/b=w.heap.size) W W from .refl _ _))
   obtain ⟨m0,m1,-,-⟩:=qG (vB (HRR.out W (show Safe (λb=>x b\/b=w.heap.size) W W from .refl _ _)) (.int .i64 0) (.int .i64 0))
   clear hW
   go_wp2_with fail
   refine bodyPost_ret (by simp[results,Tryz.results25,go_sem,m0,m1];try rfl) rfl ?_
   rw[HE.out.1,HE.out.2.1,HE.out.2.2]
   exact ⟨rfl,((HPW.out).two (.inr rfl) _ _).less λb k=>.inl k,vz ((qC HBW.out).then' (show Safe (λb=>x b\/b=w.heap.size) W W from .refl _ _) λ_ _ k=>.inl k) nL _ _⟩
 . rw[if_neg h1] at hm
   by_cases h2:vg page (Q.seq+1) d
   case neg =>
    rw[if_pos h2] at hm
    have HE:Hid (er=1/\r=(0,0)/\Q'=Q):=hI (by have:=Option.some.inj hm;exact ⟨(congrArg (λz:Int × P2 × PS=>z.1) this).symm,(congrArg (λz:Int × P2 × PS=>z.2.1) this).symm,(congrArg (λz:Int × P2 × PS=>z.2.2) this).symm⟩)
    have HSE:Hid (Q.sheetE page d=1):=hI (if_neg h2)
    clear hm h2
    go_enter Tryz.func25,Tryz.ntmps25
    go_upto_region 5 with (first | (go_at_call 52;(with_reducible refine (q_is HTW.out).mono ?_);rintro e w1 ⟨rfl,hw1⟩;subst hw1) | (go_at_call 53;(with_reducible refine (zDj page A m d HTW.out HO.out HDW.out).mono ?_);rintro e w2 ⟨A2,c2,L2,rfl,hL2,hc2,hb2⟩;rw[HSE.out];have HC2:=hI hc2;have HB2:=hI hb2;clear hc2 hb2))
    obtain ⟨f0,f1,fr0,fr1⟩:=qG (HRR.out w2 (show Safe (λb=>x b\/b=w.heap.size) W w2 from qC HB2.out))
    obtain ⟨m0,m1,-,-⟩:=qG (vB (HRR.out w2 (show Safe (λb=>x b\/b=w.heap.size) W w2 from qC HB2.out)) (.int .i64 0) (.int .i64 0))
    clear hW
    go_wp2_with fail
    refine bodyPost_ret (by simp[results,Tryz.results25,go_sem,m0,m1];try rfl) rfl ?_
    rw[HE.out.1,HE.out.2.1,HE.out.2.2]
    exact ⟨rfl,((HPW.out.below HB2.out).two (.inr rfl) _ _).less λb k=>.inl k,vz ((qC HBW.out).then' (show Safe (λb=>x b\/b=w.heap.size) W w2 from qC HB2.out) λ_ _ k=>.inl k) nL _ _⟩
   case pos =>
    rw[if_neg (λk=>k h2)] at hm
    have HSE:Hid (Q.sheetE page d=0):=hI (if_pos h2)
    have HSB:Hid (Q.sheetB page d=qo page.toNat (Q.seq+1).toNat d):=hI (if_pos h2)
    have HSQ:=hI h2.2.1.2
    have HLL:Hid (Q.L.length<=1000/\Q.F.length<=1000):=hI (by have:=HO.out.tabs;omega)
    have HWL:Hid (IntKind.i64.wrap ((Q.L.length:Int)+(Q.F.length:Int))=(Q.L.length:Int)+(Q.F.length:Int)):=hI (qp _ (by have:=HO.out.tabs;omega))
    have HWK:Hid (IntKind.i64.wrap (Q.K+1)=Q.K+1/\IntKind.i64.wrap (Q.K+1+5)=Q.K+6):=hI (by have:=HO.out.may.2.2.2.1;exact ⟨qp _ (by omega),(qp _ (by omega)).trans (by omega)⟩)
    clear h2
    by_cases h3:Q.K+6<=((Q.L.length+Q.F.length:Nat):Int)
    . rw[if_pos h3] at hm
      have HE:Hid (er=18/\r=(0,0)/\Q'=Q):=hI (by have:=Option.some.inj hm;exact ⟨(congrArg (λz:Int × P2 × PS=>z.1) this).symm,(congrArg (λz:Int × P2 × PS=>z.2.1) this).symm,(congrArg (λz:Int × P2 × PS=>z.2.2) this).symm⟩)
      have HGE:Hid (Q.K+6<=(Q.L.length:Int)+(Q.F.length:Int)):=hI (by omega)
      clear hm h3
      go_enter Tryz.func25,Tryz.ntmps25
      go_upto_region 6 with (first | (go_at_call 52;(with_reducible refine (q_is HTW.out).mono ?_);rintro e w1 ⟨rfl,hw1⟩;subst hw1) | (go_at_call 53;(with_reducible refine (zDj page A m d HTW.out HO.out HDW.out).mono ?_);rintro e w2 ⟨A2,c2,L2,rfl,hL2,hc2,hb2⟩;rw[HSE.out];have HC2:=hI hc2;have HB2:=hI hb2;clear hc2 hb2))
      have HT2:=hI (HTW.out.below HB2.out)
      have HS2:Hid (Safe (λb=>x b\/b=w.heap.size) W w2):=hI (qC HB2.out)
      refine qR (λj v w'=>match j with | 0=>v=.pointer (some ⟨p,0,none⟩) | 1=>v=.pointer (some ⟨p,0,none⟩) | 2=>v=.pointer (some ⟨p,7,none⟩) | 3=>v=.pointer (some ⟨l0,0,none⟩) | 4=>v=.int .i64 (Q.L.length:Int) | 5=>v=.pointer (some ⟨p,0,none⟩) | 6=>v=.pointer (some ⟨p,0,none⟩) | 7=>v=.pointer (some ⟨p,8,none⟩) | 8=>v=.pointer (some ⟨f0,0,none⟩) | 9=>v=.int .i64 (Q.F.length:Int) | 10=>v=.int .i64 ((Q.L.length:Int)+(Q.F.length:Int)) | 11=>v=.pointer (some ⟨p,0,none⟩) | 12=>v=.pointer (some ⟨p,0,none⟩) | 13=>v=.pointer (some ⟨p,1,none⟩) | 14=>v=.pointer (some ⟨p,4,none⟩) | 15=>v=.int .i64 Q.K | 16=>v=.int .i64 (Q.K+1) | 17=>v=.int .i64 (Q.K+6) | 18=>v=.bool true | _=>True) (λ_ w'=>Below w2.heap.size w2 w') (λw1 w2=>Below w1.heap.size w1 w2) (by kernel_rfl) (by kernel_rfl) (by kernel_rfl) ?hR ?hG ?hops ?hend
      case hR =>
       intro j v w1 w2 hv hb
       match j,hv with
       | 0,hv | 1,hv | 2,hv | 3,hv | 4,hv | 5,hv | 6,hv | 7,hv | 8,hv | 9,hv | 10,hv | 11,hv | 12,hv | 13,hv | 14,hv | 15,hv | 16,hv | 17,hv | 18,hv=>exact hv
       | _+19,_=>exact trivial
      case hG=>exact bR.drew
      case hops =>
       refine oC ?_ (oC ?_ (oC ?_ (oC ?_ (oC ?_ (oC ?_ (oC ?_ (oC ?_ (oC ?_ (oC ?_ (oC ?_ (oC ?_ (oC ?_ (oC ?_ (oC ?_ (oC ?_ (oC ?_ (oC ?_ (oC ?_ OpsOkS.nil))))))))))))))))))
       . intro a w1 ξ γ ν ω ζ ψ κ
         have e0:=og (v:=.pointer (some ⟨p,0,none⟩)) (ω 0 (by kernel_rfl))
         refine qB (v:=.pointer (some ⟨p,0,none⟩)) (qA rfl) ?_ (κ _ w1 rfl γ bR)
         simp[execOp,go_sem,e0]
       . intro a w1 ξ γ ν ω ζ ψ κ
         have e0:=og (v:=.pointer (some ⟨p,0,none⟩)) (ν 0 (by kernel_rfl) (by kernel_rfl))
         refine qB (v:=.pointer (some ⟨p,0,none⟩)) (qA rfl) ?_ (κ _ w1 rfl γ bR)
         simp[execOp,go_sem,e0]
       . intro a w1 ξ γ ν ω ζ ψ κ
         have e0:=og (v:=.pointer (some ⟨p,0,none⟩)) (ν 1 (by kernel_rfl) (by kernel_rfl))
         refine qB (v:=.pointer (some ⟨p,7,none⟩)) (qA rfl) ?_ (κ _ w1 rfl γ bR)
         simp[execOp,go_sem,e0]
       . intro a w1 ξ γ ν ω ζ ψ κ
         have e0:=og (v:=.pointer (some ⟨p,7,none⟩)) (ν 2 (by kernel_rfl) (by kernel_rfl))
         have k0:=(γ.cell (p:=⟨p,7,none⟩) HT2.out.lt).trans HT2.out.c7
         refine qB (v:=.pointer (some ⟨l0,0,none⟩)) (qA rfl) ?_ (κ _ w1 rfl γ bR)
         simp[execOp,go_sem,e0,k0]
       . intro a w1 ξ γ ν ω ζ ψ κ
         have e0:=og (v:=.pointer (some ⟨l0,0,none⟩)) (ν 3 (by kernel_rfl) (by kernel_rfl))
         refine qM (qA rfl) (f:=54) (args:=#[.pointer (some ⟨l0,0,none⟩)]) ?run ((zEr (HT2.out.live.below γ) HLL.out.1).mono ?post)
         case run=>simp[go_sem,e0]
         case post =>
          rintro e w2 ⟨rfl,hb2⟩
          exact ⟨_,rfl,κ _ w2 rfl (γ.trans (hb2.mono γ.size)) hb2⟩
       . intro a w1 ξ γ ν ω ζ ψ κ
         have e0:=og (v:=.pointer (some ⟨p,0,none⟩)) (ω 0 (by kernel_rfl))
         refine qB (v:=.pointer (some ⟨p,0,none⟩)) (qA rfl) ?_ (κ _ w1 rfl γ bR)
         simp[execOp,go_sem,e0]
       . intro a w1 ξ γ ν ω ζ ψ κ
         have e0:=og (v:=.pointer (some ⟨p,0,none⟩)) (ν 5 (by kernel_rfl) (by kernel_rfl))
         refine qB (v:=.pointer (some ⟨p,0,none⟩)) (qA rfl) ?_ (κ _ w1 rfl γ bR)
         simp[execOp,go_sem,e0]
       . intro a w1 ξ γ ν ω ζ ψ κ
         have e0:=og (v:=.pointer (some ⟨p,0,none⟩)) (ν 6 (by kernel_rfl) (by kernel_rfl))
         refine qB (v:=.pointer (some ⟨p,8,none⟩)) (qA rfl) ?_ (κ _ w1 rfl γ bR)
         simp[execOp,go_sem,e0]
       . intro a w1 ξ γ ν ω ζ ψ κ
         have e0:=og (v:=.pointer (some ⟨p,8,none⟩)) (ν 7 (by kernel_rfl) (by kernel_rfl))
         have k0:=(γ.cell (p:=⟨p,8,none⟩) HT2.out.lt).trans HT2.out.c8
         refine qB (v:=.pointer (some ⟨f0,0,none⟩)) (qA rfl) ?_ (κ _ w1 rfl γ bR)
         simp[execOp,go_sem,e0,k0]
       . intro a w1 ξ γ ν ω ζ ψ κ
         have e0:=og (v:=.pointer (some ⟨f0,0,none⟩)) (ν 8 (by kernel_rfl) (by kernel_rfl))
         refine qM (qA rfl) (f:=54) (args:=#[.pointer (some ⟨f0,0,none⟩)]) ?run ((zEr (HT2.out.fresh.below γ) HLL.out.2).mono ?post)
         case run=>simp[go_sem,e0]
         case post =>
          rintro e w2 ⟨rfl,hb2⟩
          exact ⟨_,rfl,κ _ w2 rfl (γ.trans (hb2.mono γ.size)) hb2⟩
       . intro a w1 ξ γ ν ω ζ ψ κ
         have e0:=og (v:=.int .i64 (Q.L.length:Int)) (ν 4 (by kernel_rfl) (by kernel_rfl))
         have e1:=og (v:=.int .i64 (Q.F.length:Int)) (ν 9 (by kernel_rfl) (by kernel_rfl))
         refine qB (v:=.int .i64 ((Q.L.length:Int)+(Q.F.length:Int))) (qA rfl) ?_ (κ _ w1 rfl γ bR)
         simp[execOp,go_sem,e0,e1,HWL.out]
       . intro a w1 ξ γ ν ω ζ ψ κ
         have e0:=og (v:=.pointer (some ⟨p,0,none⟩)) (ω 0 (by kernel_rfl))
         refine qB (v:=.pointer (some ⟨p,0,none⟩)) (qA rfl) ?_ (κ _ w1 rfl γ bR)
         simp[execOp,go_sem,e0]
       . intro a w1 ξ γ ν ω ζ ψ κ
         have e0:=og (v:=.pointer (some ⟨p,0,none⟩)) (ν 11 (by kernel_rfl) (by kernel_rfl))
         refine qB (v:=.pointer (some ⟨p,0,none⟩)) (qA rfl) ?_ (κ _ w1 rfl γ bR)
         simp[execOp,go_sem,e0]
       . intro a w1 ξ γ ν ω ζ ψ κ
         have e0:=og (v:=.pointer (some ⟨p,0,none⟩)) (ν 12 (by kernel_rfl) (by kernel_rfl))
         refine qB (v:=.pointer (some ⟨p,1,none⟩)) (qA rfl) ?_ (κ _ w1 rfl γ bR)
         simp[execOp,go_sem,e0]
       . intro a w1 ξ γ ν ω ζ ψ κ
         have e0:=og (v:=.pointer (some ⟨p,1,none⟩)) (ν 13 (by kernel_rfl) (by kernel_rfl))
         refine qB (v:=.pointer (some ⟨p,4,none⟩)) (qA rfl) ?_ (κ _ w1 rfl γ bR)
         simp[execOp,go_sem,e0]
       . intro a w1 ξ γ ν ω ζ ψ κ
         have e0:=og (v:=.pointer (some ⟨p,4,none⟩)) (ν 14 (by kernel_rfl) (by kernel_rfl))
         have k0:=(γ.cell (p:=⟨p,4,none⟩) HT2.out.lt).trans HT2.out.c4
         refine qB (v:=.int .i64 Q.K) (qA rfl) ?_ (κ _ w1 rfl γ bR)
         simp[execOp,go_sem,e0,k0]
       . intro a w1 ξ γ ν ω ζ ψ κ
         have e0:=og (v:=.int .i64 Q.K) (ν 15 (by kernel_rfl) (by kernel_rfl))
         refine qB (v:=.int .i64 (Q.K+1)) (qA rfl) ?_ (κ _ w1 rfl γ bR)
         simp[execOp,go_sem,e0,HWK.out.1]
       . intro a w1 ξ γ ν ω ζ ψ κ
         have e0:=og (v:=.int .i64 (Q.K+1)) (ν 16 (by kernel_rfl) (by kernel_rfl))
         refine qB (v:=.int .i64 (Q.K+6)) (qA rfl) ?_ (κ _ w1 rfl γ bR)
         simp[execOp,go_sem,e0,HWK.out.2]
       . intro a w1 ξ γ ν ω ζ ψ κ
         have e0:=og (v:=.int .i64 ((Q.L.length:Int)+(Q.F.length:Int))) (ν 10 (by kernel_rfl) (by kernel_rfl))
         have e1:=og (v:=.int .i64 (Q.K+6)) (ν 17 (by kernel_rfl) (by kernel_rfl))
         refine qB (v:=.bool true) (qA rfl) ?_ (κ _ w1 rfl γ bR)
         simp[execOp,go_sem,e0,e1];have:=HGE.out;omega
      case hend =>
       intro a w6 hG hde hsz hφ hold
       obtain rfl:=qy [(30,.pointer (some ⟨p,0,none⟩)),(31,.pointer (some ⟨p,0,none⟩)),(32,.pointer (some ⟨p,7,none⟩)),(33,.pointer (some ⟨l0,0,none⟩)),(34,.int .i64 (Q.L.length:Int)),(35,.pointer (some ⟨p,0,none⟩)),(36,.pointer (some ⟨p,0,none⟩)),(37,.pointer (some ⟨p,8,none⟩)),(38,.pointer (some ⟨f0,0,none⟩)),(39,.int .i64 (Q.F.length:Int)),(40,.int .i64 ((Q.L.length:Int)+(Q.F.length:Int))),(41,.pointer (some ⟨p,0,none⟩)),(42,.pointer (some ⟨p,0,none⟩)),(43,.pointer (some ⟨p,1,none⟩)),(44,.pointer (some ⟨p,4,none⟩)),(45,.int .i64 Q.K),(46,.int .i64 (Q.K+1)),(47,.int .i64 (Q.K+6)),(48,.bool true)] [30,31,32,33,34,35,36,37,38,39,40,41,42,43,44,45,46,47,48] rfl (by kernel_rfl) (by kernel_rfl) hde hsz (fC ⟨(hφ 0 (by kernel_rfl)),(fC ⟨(hφ 1 (by kernel_rfl)),(fC ⟨(hφ 2 (by kernel_rfl)),(fC ⟨(hφ 3 (by kernel_rfl)),(fC ⟨(hφ 4 (by kernel_rfl)),(fC ⟨(hφ 5 (by kernel_rfl)),(fC ⟨(hφ 6 (by kernel_rfl)),(fC ⟨(hφ 7 (by kernel_rfl)),(fC ⟨(hφ 8 (by kernel_rfl)),(fC ⟨(hφ 9 (by kernel_rfl)),(fC ⟨(hφ 10 (by kernel_rfl)),(fC ⟨(hφ 11 (by kernel_rfl)),(fC ⟨(hφ 12 (by kernel_rfl)),(fC ⟨(hφ 13 (by kernel_rfl)),(fC ⟨(hφ 14 (by kernel_rfl)),(fC ⟨(hφ 15 (by kernel_rfl)),(fC ⟨(hφ 16 (by kernel_rfl)),(fC ⟨(hφ 17 (by kernel_rfl)),(fC ⟨(hφ 18 (by kernel_rfl)),(λ_ h=>absurd h (by simp))⟩)⟩)⟩)⟩)⟩)⟩)⟩)⟩)⟩)⟩)⟩)⟩)⟩)⟩)⟩)⟩)⟩)⟩)⟩) hold
       clear hφ hold hsz hde
       simp only[qd]
       go_frame
       clear hW
       have HS6:Hid (Safe (λb=>x b\/b=w.heap.size) W w6):=hI (HS2.out.then (qC hG))
       obtain ⟨f0,f1,fr0,fr1⟩:=qG (HRR.out w6 HS6.out)
       obtain ⟨m0,m1,-,-⟩:=qG (vB (HRR.out w6 HS6.out) (.int .i64 0) (.int .i64 0))
       go_wp2_with fail
       refine bodyPost_ret (by simp[results,Tryz.results25,go_sem,m0,m1];try rfl) rfl ?_
       rw[HE.out.1,HE.out.2.1,HE.out.2.2]
       exact ⟨rfl,(((HPW.out.below HB2.out).below hG).two (.inr rfl) _ _).less λb k=>.inl k,vz ((qC HBW.out).then' HS6.out λ_ _ k=>.inl k) nL _ _⟩
    . rw[if_neg h3] at hm
      have HGE:Hid (¬Q.K+6<=(Q.L.length:Int)+(Q.F.length:Int)):=hI (by omega)
      clear h3
      cases hg:Q.give n page (qo page.toNat (Q.seq+1).toNat d) with
      | none=>rw[hg] at hm;cases hm
      | some R =>
       obtain ⟨e1,fd,Q1⟩:=R
       rw[hg] at hm
       simp only at hm
       have HG:=hI hg
       have HL1:=hI (give_len HO.out HSQ.out hg)
       have HM:=hI hm
       clear hm hg
       go_enter Tryz.func25,Tryz.ntmps25
       go_upto_region 6 with (first | (go_at_call 52;(with_reducible refine (q_is HTW.out).mono ?_);rintro e w1 ⟨rfl,hw1⟩;subst hw1) | (go_at_call 53;(with_reducible refine (zDj page A m d HTW.out HO.out HDW.out).mono ?_);rintro e w2 ⟨A2,c2,L2,rfl,hL2,hc2,hb2⟩;rw[HSE.out];have HC2:=hI hc2;have HB2:=hI hb2;clear hc2 hb2))
       have HT2:=hI (HTW.out.below HB2.out)
       have HS2:Hid (Safe (λb=>x b\/b=w.heap.size) W w2):=hI (qC HB2.out)
       refine qR (λj v w'=>match j with | 0=>v=.pointer (some ⟨p,0,none⟩) | 1=>v=.pointer (some ⟨p,0,none⟩) | 2=>v=.pointer (some ⟨p,7,none⟩) | 3=>v=.pointer (some ⟨l0,0,none⟩) | 4=>v=.int .i64 (Q.L.length:Int) | 5=>v=.pointer (some ⟨p,0,none⟩) | 6=>v=.pointer (some ⟨p,0,none⟩) | 7=>v=.pointer (some ⟨p,8,none⟩) | 8=>v=.pointer (some ⟨f0,0,none⟩) | 9=>v=.int .i64 (Q.F.length:Int) | 10=>v=.int .i64 ((Q.L.length:Int)+(Q.F.length:Int)) | 11=>v=.pointer (some ⟨p,0,none⟩) | 12=>v=.pointer (some ⟨p,0,none⟩) | 13=>v=.pointer (some ⟨p,1,none⟩) | 14=>v=.pointer (some ⟨p,4,none⟩) | 15=>v=.int .i64 Q.K | 16=>v=.int .i64 (Q.K+1) | 17=>v=.int .i64 (Q.K+6) | 18=>v=.bool false | _=>True) (λ_ w'=>Below w2.heap.size w2 w') (λw1 w2=>Below w1.heap.size w1 w2) (by kernel_rfl) (by kernel_rfl) (by kernel_rfl) ?hR ?hG ?hops ?hend
       case hR =>
        intro j v w1 w2 hv hb
        match j,hv with
        | 0,hv | 1,hv | 2,hv | 3,hv | 4,hv | 5,hv | 6,hv | 7,hv | 8,hv | 9,hv | 10,hv | 11,hv | 12,hv | 13,hv | 14,hv | 15,hv | 16,hv | 17,hv | 18,hv=>exact hv
        | _+19,_=>exact trivial
       case hG=>exact bR.drew
       case hops =>
        refine oC ?_ (oC ?_ (oC ?_ (oC ?_ (oC ?_ (oC ?_ (oC ?_ (oC ?_ (oC ?_ (oC ?_ (oC ?_ (oC ?_ (oC ?_ (oC ?_ (oC ?_ (oC ?_ (oC ?_ (oC ?_ (oC ?_ OpsOkS.nil))))))))))))))))))
        . intro a w1 ξ γ ν ω ζ ψ κ
          have e0:=og (v:=.pointer (some ⟨p,0,none⟩)) (ω 0 (by kernel_rfl))
          refine qB (v:=.pointer (some ⟨p,0,none⟩)) (qA rfl) ?_ (κ _ w1 rfl γ bR)
          simp[execOp,go_sem,e0]
        . intro a w1 ξ γ ν ω ζ ψ κ
          have e0:=og (v:=.pointer (some ⟨p,0,none⟩)) (ν 0 (by kernel_rfl) (by kernel_rfl))
          refine qB (v:=.pointer (some ⟨p,0,none⟩)) (qA rfl) ?_ (κ _ w1 rfl γ bR)
          simp[execOp,go_sem,e0]
        . intro a w1 ξ γ ν ω ζ ψ κ
          have e0:=og (v:=.pointer (some ⟨p,0,none⟩)) (ν 1 (by kernel_rfl) (by kernel_rfl))
          refine qB (v:=.pointer (some ⟨p,7,none⟩)) (qA rfl) ?_ (κ _ w1 rfl γ bR)
          simp[execOp,go_sem,e0]
        . intro a w1 ξ γ ν ω ζ ψ κ
          have e0:=og (v:=.pointer (some ⟨p,7,none⟩)) (ν 2 (by kernel_rfl) (by kernel_rfl))
          have k0:=(γ.cell (p:=⟨p,7,none⟩) HT2.out.lt).trans HT2.out.c7
          refine qB (v:=.pointer (some ⟨l0,0,none⟩)) (qA rfl) ?_ (κ _ w1 rfl γ bR)
          simp[execOp,go_sem,e0,k0]
        . intro a w1 ξ γ ν ω ζ ψ κ
          have e0:=og (v:=.pointer (some ⟨l0,0,none⟩)) (ν 3 (by kernel_rfl) (by kernel_rfl))
          refine qM (qA rfl) (f:=54) (args:=#[.pointer (some ⟨l0,0,none⟩)]) ?run ((zEr (HT2.out.live.below γ) HLL.out.1).mono ?post)
          case run=>simp[go_sem,e0]
          case post =>
           rintro e w2 ⟨rfl,hb2⟩
           exact ⟨_,rfl,κ _ w2 rfl (γ.trans (hb2.mono γ.size)) hb2⟩
        . intro a w1 ξ γ ν ω ζ ψ κ
          have e0:=og (v:=.pointer (some ⟨p,0,none⟩)) (ω 0 (by kernel_rfl))
          refine qB (v:=.pointer (some ⟨p,0,none⟩)) (qA rfl) ?_ (κ _ w1 rfl γ bR)
          simp[execOp,go_sem,e0]
        . intro a w1 ξ γ ν ω ζ ψ κ
          have e0:=og (v:=.pointer (some ⟨p,0,none⟩)) (ν 5 (by kernel_rfl) (by kernel_rfl))
          refine qB (v:=.pointer (some ⟨p,0,none⟩)) (qA rfl) ?_ (κ _ w1 rfl γ bR)
          simp[execOp,go_sem,e0]
        . intro a w1 ξ γ ν ω ζ ψ κ
          have e0:=og (v:=.pointer (some ⟨p,0,none⟩)) (ν 6 (by kernel_rfl) (by kernel_rfl))
          refine qB (v:=.pointer (some ⟨p,8,none⟩)) (qA rfl) ?_ (κ _ w1 rfl γ bR)
          simp[execOp,go_sem,e0]
        . intro a w1 ξ γ ν ω ζ ψ κ
          have e0:=og (v:=.pointer (some ⟨p,8,none⟩)) (ν 7 (by kernel_rfl) (by kernel_rfl))
          have k0:=(γ.cell (p:=⟨p,8,none⟩) HT2.out.lt).trans HT2.out.c8
          refine qB (v:=.pointer (some ⟨f0,0,none⟩)) (qA rfl) ?_ (κ _ w1 rfl γ bR)
          simp[execOp,go_sem,e0,k0]
        . intro a w1 ξ γ ν ω ζ ψ κ
          have e0:=og (v:=.pointer (some ⟨f0,0,none⟩)) (ν 8 (by kernel_rfl) (by kernel_rfl))
          refine qM (qA rfl) (f:=54) (args:=#[.pointer (some ⟨f0,0,none⟩)]) ?run ((zEr (HT2.out.fresh.below γ) HLL.out.2).mono ?post)
          case run=>simp[go_sem,e0]
          case post =>
           rintro e w2 ⟨rfl,hb2⟩
           exact ⟨_,rfl,κ _ w2 rfl (γ.trans (hb2.mono γ.size)) hb2⟩
        . intro a w1 ξ γ ν ω ζ ψ κ
          have e0:=og (v:=.int .i64 (Q.L.length:Int)) (ν 4 (by kernel_rfl) (by kernel_rfl))
          have e1:=og (v:=.int .i64 (Q.F.length:Int)) (ν 9 (by kernel_rfl) (by kernel_rfl))
          refine qB (v:=.int .i64 ((Q.L.length:Int)+(Q.F.length:Int))) (qA rfl) ?_ (κ _ w1 rfl γ bR)
          simp[execOp,go_sem,e0,e1,HWL.out]
        . intro a w1 ξ γ ν ω ζ ψ κ
          have e0:=og (v:=.pointer (some ⟨p,0,none⟩)) (ω 0 (by kernel_rfl))
          refine qB (v:=.pointer (some ⟨p,0,none⟩)) (qA rfl) ?_ (κ _ w1 rfl γ bR)
          simp[execOp,go_sem,e0]
        . intro a w1 ξ γ ν ω ζ ψ κ
          have e0:=og (v:=.pointer (some ⟨p,0,none⟩)) (ν 11 (by kernel_rfl) (by kernel_rfl))
          refine qB (v:=.pointer (some ⟨p,0,none⟩)) (qA rfl) ?_ (κ _ w1 rfl γ bR)
          simp[execOp,go_sem,e0]
        . intro a w1 ξ γ ν ω ζ ψ κ
          have e0:=og (v:=.pointer (some ⟨p,0,none⟩)) (ν 12 (by kernel_rfl) (by kernel_rfl))
          refine qB (v:=.pointer (some ⟨p,1,none⟩)) (qA rfl) ?_ (κ _ w1 rfl γ bR)
          simp[execOp,go_sem,e0]
        . intro a w1 ξ γ ν ω ζ ψ κ
          have e0:=og (v:=.pointer (some ⟨p,1,none⟩)) (ν 13 (by kernel_rfl) (by kernel_rfl))
          refine qB (v:=.pointer (some ⟨p,4,none⟩)) (qA rfl) ?_ (κ _ w1 rfl γ bR)
          simp[execOp,go_sem,e0]
        . intro a w1 ξ γ ν ω ζ ψ κ
          have e0:=og (v:=.pointer (some ⟨p,4,none⟩)) (ν 14 (by kernel_rfl) (by kernel_rfl))
          have k0:=(γ.cell (p:=⟨p,4,none⟩) HT2.out.lt).trans HT2.out.c4
          refine qB (v:=.int .i64 Q.K) (qA rfl) ?_ (κ _ w1 rfl γ bR)
          simp[execOp,go_sem,e0,k0]
        . intro a w1 ξ γ ν ω ζ ψ κ
          have e0:=og (v:=.int .i64 Q.K) (ν 15 (by kernel_rfl) (by kernel_rfl))
          refine qB (v:=.int .i64 (Q.K+1)) (qA rfl) ?_ (κ _ w1 rfl γ bR)
          simp[execOp,go_sem,e0,HWK.out.1]
        . intro a w1 ξ γ ν ω ζ ψ κ
          have e0:=og (v:=.int .i64 (Q.K+1)) (ν 16 (by kernel_rfl) (by kernel_rfl))
          refine qB (v:=.int .i64 (Q.K+6)) (qA rfl) ?_ (κ _ w1 rfl γ bR)
          simp[execOp,go_sem,e0,HWK.out.2]
        . intro a w1 ξ γ ν ω ζ ψ κ
          have e0:=og (v:=.int .i64 ((Q.L.length:Int)+(Q.F.length:Int))) (ν 10 (by kernel_rfl) (by kernel_rfl))
          have e1:=og (v:=.int .i64 (Q.K+6)) (ν 17 (by kernel_rfl) (by kernel_rfl))
          refine qB (v:=.bool false) (qA rfl) ?_ (κ _ w1 rfl γ bR)
          simp[execOp,go_sem,e0,e1];have:=HGE.out;omega
       case hend =>
        intro a w6 hG hde hsz hφ hold
        obtain rfl:=qy [(30,.pointer (some ⟨p,0,none⟩)),(31,.pointer (some ⟨p,0,none⟩)),(32,.pointer (some ⟨p,7,none⟩)),(33,.pointer (some ⟨l0,0,none⟩)),(34,.int .i64 (Q.L.length:Int)),(35,.pointer (some ⟨p,0,none⟩)),(36,.pointer (some ⟨p,0,none⟩)),(37,.pointer (some ⟨p,8,none⟩)),(38,.pointer (some ⟨f0,0,none⟩)),(39,.int .i64 (Q.F.length:Int)),(40,.int .i64 ((Q.L.length:Int)+(Q.F.length:Int))),(41,.pointer (some ⟨p,0,none⟩)),(42,.pointer (some ⟨p,0,none⟩)),(43,.pointer (some ⟨p,1,none⟩)),(44,.pointer (some ⟨p,4,none⟩)),(45,.int .i64 Q.K),(46,.int .i64 (Q.K+1)),(47,.int .i64 (Q.K+6)),(48,.bool false)] [30,31,32,33,34,35,36,37,38,39,40,41,42,43,44,45,46,47,48] rfl (by kernel_rfl) (by kernel_rfl) hde hsz (fC ⟨(hφ 0 (by kernel_rfl)),(fC ⟨(hφ 1 (by kernel_rfl)),(fC ⟨(hφ 2 (by kernel_rfl)),(fC ⟨(hφ 3 (by kernel_rfl)),(fC ⟨(hφ 4 (by kernel_rfl)),(fC ⟨(hφ 5 (by kernel_rfl)),(fC ⟨(hφ 6 (by kernel_rfl)),(fC ⟨(hφ 7 (by kernel_rfl)),(fC ⟨(hφ 8 (by kernel_rfl)),(fC ⟨(hφ 9 (by kernel_rfl)),(fC ⟨(hφ 10 (by kernel_rfl)),(fC ⟨(hφ 11 (by kernel_rfl)),(fC ⟨(hφ 12 (by kernel_rfl)),(fC ⟨(hφ 13 (by kernel_rfl)),(fC ⟨(hφ 14 (by kernel_rfl)),(fC ⟨(hφ 15 (by kernel_rfl)),(fC ⟨(hφ 16 (by kernel_rfl)),(fC ⟨(hφ 17 (by kernel_rfl)),(fC ⟨(hφ 18 (by kernel_rfl)),(λ_ h=>absurd h (by simp))⟩)⟩)⟩)⟩)⟩)⟩)⟩)⟩)⟩)⟩)⟩)⟩)⟩)⟩)⟩)⟩)⟩)⟩)⟩) hold
        clear hφ hold hsz hde
        simp only[qd]
        go_frame
        clear hW
        have HS6:Hid (Safe (λb=>x b\/b=w.heap.size) W w6):=hI (HS2.out.then (qC hG))
        have HP6:Hid (Pool w6 p c (λb=>(x b\/b=w.heap.size)\/New W w6 b) Q):=hI (HPW.out.more (HB2.out.trans (hG.mono HB2.out.size)))
        have HC6:Hid (CB w6 (λb=>(x b\/b=w.heap.size)\/New W w6 b) A2 L2):=hI (HC2.out.keep (λb k=>hG.block b k.2) λb k=>.inr ⟨k.1,Nat.lt_of_lt_of_le k.2 hG.size⟩)
        have HL2:Hid (Q.give n page L2=some (e1,fd,Q1)):=hI (by rw[hL2.out,HSB.out];exact HG.out)
        clear hL2 HC2
        go_upto_region 9 with (go_at_call 55;(with_reducible refine (q_give n page A2 c2 L2 HP6.out HO.out HSQ.out HC6.out HL2.out).mono ?_);rintro e w7 ⟨rfl,h7,hs7⟩;have HP7:=hI h7;have HS7:Hid (Safe (λb=>x b\/b=w.heap.size) W w7):=hI (HS6.out.then' hs7 λ_ _ k=>.inl k);clear h7 hs7)
        have HB8:Hid (Below w7.heap.size w7 (w7.alloc (.cells #[.int .i64 fd.1.1,.int .i64 fd.1.2,.int .i64 fd.2.1,.int .i64 fd.2.2] 71))):=hI (bR.alloc nL _)
        have hg8:=heap_alloc_new w7 (.cells #[.int .i64 fd.1.1,.int .i64 fd.1.2,.int .i64 fd.2.1,.int .i64 fd.2.2] 71)
        generalize w7.alloc (.cells #[.int .i64 fd.1.1,.int .i64 fd.1.2,.int .i64 fd.2.1,.int .i64 fd.2.2] 71)=w8 at HB8 hg8 ⊢
        have HG8:=hI hg8
        have hg8l:=qD hg8
        have HS8:Hid (Safe (λb=>x b\/b=w.heap.size) W w8):=hI (HS7.out.then (qC HB8.out))
        have HP8:Hid (Pool w8 p c (λb=>(x b\/b=w.heap.size)\/b=w7.heap.size) Q1):=hI ((HP7.out.more HB8.out).less λb k=>by
         rcases k with k | k
         . exact .inl (.inl k)
         . exact .inr ⟨by omega,by omega⟩)
        clear hg8
        by_cases he:e1=0
        . subst he
          have hm:=HM.out
          rw[if_pos rfl] at hm
          by_cases hw:WfP fd.1/\WfP fd.2/\(zD Q1.F fd.1 fd.2).length<=200
          case neg=>rw[if_neg hw] at hm;cases hm
          case pos =>
           rw[if_pos hw] at hm
           have HE:Hid (er=0/\r=fd.1/\Q' = { Q1 with F:=zD Q1.F fd.1 fd.2 }):=hI (by have:=Option.some.inj hm;exact ⟨(congrArg (λz:Int × P2 × PS=>z.1) this).symm,(congrArg (λz:Int × P2 × PS=>z.2.1) this).symm,(congrArg (λz:Int × P2 × PS=>z.2.2) this).symm⟩)
           have HWF:=hI hw
           clear hm hw HM
           obtain ⟨l8,f8,X,Y,Z,hat,hout⟩:=HP8.out
           have c8:=hat.parts.c8
           obtain ⟨b0,b1,b2,b3,-⟩:=vM HG8.out
           have HAT:=hI hat
           have HOUT:=hI hout
           clear hat hout
           go_upto_region 11 with fail
           go_region_held3 (λV=>V.cell? ⟨p,8,none⟩=some (.pointer (some ⟨f8,0,none⟩))/\V.cell? ⟨w7.heap.size,0,none⟩=some (.int .i64 fd.1.1)/\V.cell? ⟨w7.heap.size,1,none⟩=some (.int .i64 fd.1.2)/\V.cell? ⟨w7.heap.size,2,none⟩=some (.int .i64 fd.2.1)/\V.cell? ⟨w7.heap.size,3,none⟩=some (.int .i64 fd.2.2))
            (first | exact ⟨c8,b0,b1,b2,b3⟩ | exact HK9.out)
            (first
             | (go_at_call 56;(with_reducible refine (PoolAt.putF2 fd.1 fd.2 (HAT.out.below bR.drew) HOUT.out HL1.out HWF.out.1 HWF.out.2.1).mono ?_);rintro e w9 ⟨rfl,h9,hs9,hp9⟩;have HP9:=hI h9;have HS9:Hid (Safe (λb=>(x b\/b=w.heap.size)\/b=w7.heap.size) w8 w9):=hI ((qC bR.drew).then hs9);have HK9:Hid (w9.cell? ⟨p,8,none⟩=some (.pointer (some ⟨f8,0,none⟩))/\w9.cell? ⟨w7.heap.size,0,none⟩=some (.int .i64 fd.1.1)/\w9.cell? ⟨w7.heap.size,1,none⟩=some (.int .i64 fd.1.2)/\w9.cell? ⟨w7.heap.size,2,none⟩=some (.int .i64 fd.2.1)/\w9.cell? ⟨w7.heap.size,3,none⟩=some (.int .i64 fd.2.2)):=hI (by have k:=vM ((HS9.out.block hg8l (.inr rfl)).trans HG8.out);exact ⟨(World.cell?_of_block (a:=⟨p,8,none⟩) hp9).trans c8,k.1,k.2.1,k.2.2.1,k.2.2.2.1⟩);clear h9 hs9 hp9))
           have HS19:Hid (Safe (λb=>x b\/b=w.heap.size) W w9):=hI (HS8.out.then' HS9.out λ_ _ k=>.inl k)
           obtain ⟨d0,d1,-,-,-⟩:=vM ((HS9.out.block hg8l (.inr rfl)).trans HG8.out)
           obtain ⟨f0,f1,fr0,fr1⟩:=qG (HRR.out w9 HS19.out)
           obtain ⟨m0,m1,-,-⟩:=qG (vB (HRR.out w9 HS19.out) (.int .i64 fd.1.1) (.int .i64 fd.1.2))
           clear c8 b0 b1 b2 b3
           go_wp2_with fail
           refine bodyPost_ret (by simp[results,Tryz.results25,go_sem,m0,m1];try rfl) rfl ?_
           rw[HE.out.1,HE.out.2.1,HE.out.2.2]
           exact ⟨rfl,(HP9.out.two (.inl (.inr rfl)) _ _).less λb k=>.inl (.inl k),vz ((qC HBW.out).then' HS19.out λ_ _ k=>.inl k) nL _ _⟩
        . have HE:Hid (er=e1/\r=(0,0)/\Q'=Q1):=hI (by have hm:=HM.out;rw[if_neg he] at hm;have:=Option.some.inj hm;exact ⟨(congrArg (λz:Int × P2 × PS=>z.1) this).symm,(congrArg (λz:Int × P2 × PS=>z.2.1) this).symm,(congrArg (λz:Int × P2 × PS=>z.2.2) this).symm⟩)
          clear HM
          go_upto_region 10 with fail
          obtain ⟨f0,f1,fr0,fr1⟩:=qG (HRR.out w8 HS8.out)
          obtain ⟨m0,m1,-,-⟩:=qG (vB (HRR.out w8 HS8.out) (.int .i64 0) (.int .i64 0))
          go_wp2_with fail
          refine bodyPost_ret (by simp[results,Tryz.results25,go_sem,m0,m1];try rfl) rfl ?_
          rw[HE.out.1,HE.out.2.1,HE.out.2.2]
          exact ⟨rfl,(HP8.out.two (.inl (.inr rfl)) _ _).less λb k=>.inl (.inl k),vz ((qC HBW.out).then' HS8.out λ_ _ k=>.inl k) nL _ _⟩
end
end
section
open Go.RowKit
section
variable {w w' V:World} {p c l f:Nat} {x y X Y Z:Nat->Prop} {Q Q1:PS} {T:List Fd} {S:LS}
theorem Held.page_len (h:Held w c x S) (b pg:Int):(rdL S b pg).1.length<=2000:=by
 obtain ⟨q,cap,g,C,h1,-⟩:=h
 unfold rdL
 split
 . simp
 . split
   . simp
   . unfold zHd
     cases e:S.bl[b.toNat]? with
     | none=>simp
     | some y =>
      obtain ⟨hi,rfl⟩:=List.getElem?_eq_some_iff.1 e
      show ((S.bl[b.toNat]).pages.getD pg.toNat []).length<=2000
      rw[List.getD_eq_getElem?_getD]
      cases e2:(S.bl[b.toNat]).pages[pg.toNat]? with
      | none=>simp
      | some l =>
       obtain ⟨hj,rfl⟩:=List.getElem?_eq_some_iff.1 e2
       obtain ⟨A,cc,-,-,k,-⟩:=(h1.blocks _ hi).pages pg.toNat hj
       exact k
def PS.readQ (Q:PS) (r:P2):PS:=match Q.at r with
 | none=>Q
 | some s=>if Q.gone.down=true then Q.gone else { Q.gone with S:=(rdL Q.S s.1 s.2).2.2 }
def PS.tells (Q:PS) (r:P2) (er:Int) (d:List UInt8):Prop:=match Q.at r with
 | none=>er=8/\d = []
 | some s=>if Q.gone.down=true then er=2/\d = [] else if (rdL Q.S s.1 s.2).2.1≠0 then er=(rdL Q.S s.1 s.2).2.1/\d = []
  else (er=0/\∃pg sq:Int,(rdL Q.S s.1 s.2).1=qo pg.toNat sq.toNat d/\vg pg sq d)\/(er=5/\d = []/\zKp (rdL Q.S s.1 s.2).1)
theorem Ok.readQ (h:Ok Q) (r:P2):Ok (Q.readQ r):=by
 unfold PS.readQ
 split
 . exact h
 . split
   . exact h.gone
   . exact h.gone.read _ _
theorem q_seq (h:Parts w p c l f Q):Calls Tryz.prog 31 #[.pointer (some ⟨p,0,none⟩)] w λe w'=>e=.returned (.int .i64 Q.seq)/\w=w':=by
 have c9:=h.c9
 clear h
 go_enter Tryz.func31,Tryz.ntmps31
 go_wp2_with fail
 go_ret
 exact ⟨rfl,rfl⟩
theorem q_live (h:Parts w p c l f Q) (ok:Ok Q):Calls Tryz.prog 29 #[.pointer (some ⟨p,0,none⟩)] w (yBi (zKq Q.L) w):=by
 have c7:=h.c7
 have HP:=hI h
 have HL:Hid (Q.L.length<=1000):=hI (by have:=ok.tabs;omega)
 clear h ok
 go_enter Tryz.func29,Tryz.ntmps29
 go_wp2_with (go_at_call 67;(with_reducible refine (zTf HP.out.live HL.out).mono ?_);rintro e w2 ⟨A,m,rfl,h1,h2,h3,h4⟩)
 go_ret
 exact ⟨A,m,rfl,h1,h2,h3,h4⟩
theorem zXj (r:P2) (h:Pool w p c x Q) (ok:Ok Q) (hr:WfP r):Calls Tryz.prog 26 #[.pointer (some ⟨p,0,none⟩),P2V r] w λe w'=>∃A m d er,e=.returned (.tuple #[.slice A d.length m,.int .i64 er])/\RB w' w'.heap.size A d/\Hid (Q.tells r er d)/\Pool w' p c x (Q.readQ r)/\Safe x w w':=by
 obtain ⟨W,hW⟩:∃W,w.alloc (.cells #[.int .i64 r.1,.int .i64 r.2] 33)=W:=⟨_,rfl⟩
 have HBW:Hid (Below w.heap.size w W):=hI (by rw[<- hW];exact bR.alloc nL _)
 have hRB:W.heap[w.heap.size]? = some (.cells #[.int .i64 r.1,.int .i64 r.2] 33 (0,0)):=by rw[<- hW];exact heap_alloc_new _ _
 have HPW:Hid (Pool W p c x Q):=hI (h.below HBW.out)
 obtain ⟨l0,f0,hpt0⟩:=HPW.out.parts
 have HTW:=hI hpt0
 have HO:=hI ok
 have HR:=hI hr
 obtain ⟨r0,r1,-,-⟩:=qG hRB
 have HW0:Hid (∀w1,W=w1->w1=W):=hI λw1 e=>e.symm
 clear h ok hr hpt0 hRB
 cases hat:Q.at r with
 | none =>
  have HAT:=hI hat
  have HT:Hid (Q.tells r 8 []):=hI (by unfold PS.tells;rw[hat];exact ⟨rfl,rfl⟩)
  have HQ:Hid (Q.readQ r=Q):=hI (by unfold PS.readQ;rw[hat])
  clear hat
  go_enter Tryz.func26,Tryz.ntmps26
  go_wp2_with (first
   | (go_at_call 52;(with_reducible refine (q_is HTW.out).mono ?_);rintro e w1 ⟨rfl,hw1⟩;subst hw1)
   | (go_at_call 57;(with_reducible refine (q_at r HTW.out HO.out HR.out).mono ?_);rintro e w2 ⟨rfl,hb2⟩;rw[HAT.out];have HB2:=hI hb2;clear hb2))
  go_ret2
  have hb3:Below W.heap.size W (w2.alloc (.cells #[.int .i64 0,.int .i64 0] 69)):=HB2.out.alloc HB2.out.size _
  rw[HQ.out]
  exact ⟨none,0,[],8,rfl,.nil,HT,HPW.out.below hb3,(qC HBW.out).then (qC hb3)⟩
 | some s =>
  have HAT:=hI hat
  cases hd:Q.gone.down with
  | true =>
   have HD:=hI hd
   have HT:Hid (Q.tells r 2 []):=hI (by unfold PS.tells;rw[hat];simp[hd])
   have HQ:Hid (Q.readQ r=Q.gone):=hI (by unfold PS.readQ;rw[hat];simp only;rw[if_pos hd])
   clear hat hd
   go_enter Tryz.func26,Tryz.ntmps26
   go_wp2_with (first
    | (go_at_call 52;(with_reducible refine (q_is HTW.out).mono ?_);rintro e w1 ⟨rfl,hw1⟩;subst hw1)
    | (go_at_call 57;(with_reducible refine (q_at r HTW.out HO.out HR.out).mono ?_);rintro e w2 ⟨rfl,hb2⟩;rw[HAT.out];have HB2:Hid (Below W.heap.size W (w2.alloc (.cells #[.int .i64 s.1,.int .i64 s.2] 69))):=hI (hb2.alloc hb2.size _);clear hb2)
    | (go_at_call 58;(with_reducible refine (zHs (HPW.out.below HB2.out)).mono ?_);rintro e w3 ⟨rfl,h3,hs3⟩;rw[HD.out];have HP3:=hI h3;have HS3:=hI hs3;clear h3 hs3))
   go_ret2
   rw[HQ.out]
   exact ⟨none,0,[],2,rfl,.nil,HT,HP3.out,((qC HBW.out).then (qC HB2.out)).then HS3.out⟩
  | false =>
   have HD:=hI hd
   have HQ:Hid (Q.readQ r = { Q.gone with S:=(rdL Q.S s.1 s.2).2.2 }):=hI (by unfold PS.readQ;rw[hat];simp[hd])
   have HTE:Hid (∀er d,((rdL Q.S s.1 s.2).2.1≠0->er=(rdL Q.S s.1 s.2).2.1/\d = [])->((rdL Q.S s.1 s.2).2.1=0->((er=0/\∃pg sq:Int,(rdL Q.S s.1 s.2).1=qo pg.toNat sq.toNat d/\vg pg sq d)\/(er=5/\d = []/\zKp (rdL Q.S s.1 s.2).1)))->Q.tells r er d):=hI λer d k1 k2=>by
    unfold PS.tells
    rw[hat]
    simp only
    rw[if_neg (by rw[hd];decide)]
    by_cases e:(rdL Q.S s.1 s.2).2.1=0
    . rw[if_neg (λk=>k e)];exact k2 e
    . rw[if_pos e];exact k1 e
   clear hat hd
   go_enter Tryz.func26,Tryz.ntmps26
   go_upto_region 8 with (first
    | (go_at_call 52;(with_reducible refine (q_is HTW.out).mono ?_);rintro e w1 ⟨rfl,hw1⟩;subst hw1)
    | (go_at_call 57;(with_reducible refine (q_at r HTW.out HO.out HR.out).mono ?_);rintro e w2 ⟨rfl,hb2⟩;rw[HAT.out];have HB2:Hid (Below W.heap.size W (w2.alloc (.cells #[.int .i64 s.1,.int .i64 s.2] 69))):=hI (hb2.alloc hb2.size _);have HG2:=hI (heap_alloc_new w2 (.cells #[.int .i64 s.1,.int .i64 s.2] 69));have HP2:Hid (Pool (w2.alloc (.cells #[.int .i64 s.1,.int .i64 s.2] 69)) p c (λb=>x b\/b=w2.heap.size) Q):=hI ((HPW.out.more HB2.out).less λb k=>k.imp id λe=>⟨by have:=hb2.size;omega,by rw[e];simp⟩);clear hb2)
    | (go_at_call 58;(with_reducible refine (zHs HP2.out).mono ?_);rintro e w3 ⟨rfl,h3,hs3⟩;rw[HD.out];have HP3:=hI h3;have HS3:=hI hs3;clear h3 hs3))
   have hg3:=(HS3.out.block (qD HG2.out) (.inr rfl)).trans HG2.out
   have hgl:=qD hg3
   obtain ⟨g0,g1,-,-⟩:=qG hg3
   obtain ⟨l3,f3,hpt3⟩:=HP3.out.parts
   have c0:=hpt3.c0
   have HPL:=hI (hpt3.chip.page_len s.1 s.2)
   clear hW hpt3 hg3 r0 r1
   go_region_held3 (λV=>V.cell? ⟨p,0,none⟩=some (.pointer (some ⟨c,0,none⟩))/\V.cell? ⟨w2.heap.size,0,none⟩=some (.int .i64 s.1)/\V.cell? ⟨w2.heap.size,1,none⟩=some (.int .i64 s.2))
    (first | exact ⟨c0,g0,g1⟩ | exact HK4.out)
    (first
     | (go_at_call 59;(with_reducible refine (Pool.readc s.1 s.2 (HP3.out.below bR.drew)).mono ?_);rintro e w4 ⟨A4,L4,rfl,hL4,hc4,h4,hs4⟩;have HP4:=hI h4;have HS4:Hid (Safe (λb=>x b\/b=w2.heap.size) w3 w4):=hI ((qC bR.drew).then hs4);have HC4:=hI hc4;have HK4:Hid (w4.cell? ⟨p,0,none⟩=some (.pointer (some ⟨c,0,none⟩))/\w4.cell? ⟨w2.heap.size,0,none⟩=some (.int .i64 s.1)/\w4.cell? ⟨w2.heap.size,1,none⟩=some (.int .i64 s.2)):=hI (by obtain ⟨l4,f4,k4⟩:=HP4.out.parts;exact ⟨k4.c0,(World.cell?_of_block (a:=⟨w2.heap.size,0,none⟩) (HS4.out.block hgl (.inr rfl))).trans g0,(World.cell?_of_block (a:=⟨w2.heap.size,1,none⟩) (HS4.out.block hgl (.inr rfl))).trans g1⟩);clear h4 hs4 hc4))
   have HS14:Hid (Safe x w w4):=hI ((((qC HBW.out).then (qC HB2.out)).then' HS3.out λ_ _ k=>.inl k).then' HS4.out λ_ _ k=>.inl k)
   have hLe:Hid (L4=(rdL Q.S s.1 s.2).1):=hL4
   have HRB4:Hid (RB w4 w4.heap.size A4 L4):=hI λh0=>by
    obtain ⟨ad,e,k,hc⟩:=HC4.out h0
    exact ⟨ad,e,k.2,hc⟩
   have hl4:L4.length<=2000:=by rw[hLe.out];exact HPL.out
   clear c0 g0 g1 HC4 hL4
   by_cases he:(rdL Q.S s.1 s.2).2.1=0
   . have HE0:Hid ((rdL Q.gone.S s.1 s.2).2.1=0):=hI he
     rw[HE0.out]
     clear he
     go_upto_region 12 with (go_at_call 60;(with_reducible refine (zPo _ A4 _ L4 _ HRB4.out nL (by omega)).mono ?_);rintro e w5 ⟨hb5,hpp⟩;have HB5:=hI hb5;clear hb5;rcases hpp with ⟨pg,sq,A5,c5,d5,hl5,hm5,hr5,rfl⟩ | ⟨hn5,rfl⟩)
     . have hb6:Below w4.heap.size w4 (w5.alloc (.cells #[.int .i64 pg,.int .i64 sq,.slice A5 d5.length c5] 47)):=HB5.out.alloc HB5.out.size _
       have HRA:Hid (RB (w5.alloc (.cells #[.int .i64 pg,.int .i64 sq,.slice A5 d5.length c5] 47)) (w5.alloc (.cells #[.int .i64 pg,.int .i64 sq,.slice A5 d5.length c5] 47)).heap.size A5 d5):=hI ((hr5.alloc nL _).mono (by simp))
       obtain ⟨q0,q1,q2⟩:=zCy (heap_alloc_new w5 (.cells #[.int .i64 pg,.int .i64 sq,.slice A5 d5.length c5] 47))
       have HB6:=hI hb6
       clear hb6 hr5
       go_wp2_with fail
       go_ret2
       rw[HQ.out]
       exact ⟨A5,c5,d5,0,rfl,HRA.out,hI (HTE.out 0 d5 (λk=>absurd HE0.out k) λ_=>.inl ⟨rfl,pg,sq,by rw[<- hLe.out];exact hl5.out,hm5.out⟩),(HP4.out.below HB6.out).less λb k=>.inl (.inl k),HS14.out.then (qC HB6.out)⟩
     . have hb6:Below w4.heap.size w4 (w5.alloc (.cells #[.int .i64 0,.int .i64 0,.slice none 0 0] 47)):=HB5.out.alloc HB5.out.size _
       obtain ⟨q0,q1,q2⟩:=zCy (heap_alloc_new w5 (.cells #[.int .i64 0,.int .i64 0,.slice none 0 0] 47))
       have HB6:=hI hb6
       clear hb6
       go_wp2_with fail
       go_ret2
       rw[HQ.out]
       exact ⟨none,0,[],5,rfl,.nil,hI (HTE.out 5 [] (λk=>absurd HE0.out k) λ_=>.inr ⟨rfl,rfl,by rw[<- hLe.out];exact hn5.out⟩),(HP4.out.below HB6.out).less λb k=>.inl (.inl k),HS14.out.then (qC HB6.out)⟩
   . obtain ⟨e1,he1⟩:∃e1,e1=(rdL Q.S s.1 s.2).2.1:=⟨_,rfl⟩
     have HE1:Hid ((rdL Q.gone.S s.1 s.2).2.1=e1):=hI he1.symm
     have HT:Hid (Q.tells r e1 []):=hI (HTE.out e1 [] (λ_=>⟨he1,rfl⟩) λk=>absurd k he)
     rw[HE1.out]
     rw[<- he1] at he
     clear he1
     go_wp2_with fail
     go_ret2
     rw[HQ.out]
     exact ⟨none,0,[],e1,rfl,.nil,HT,HP4.out.less λb k=>.inl (.inl k),HS14.out⟩
end
end
section
open Go.RowKit
section
variable {w w' V:World} {p c l f:Nat} {x y X Y Z:Nat->Prop} {Q Q1:PS} {T:List Fd} {S:LS}
def RLies (w:World) (A:Option Addr) (l:List P2):Prop :=
 0<l.length->∃B o,A=some ⟨B,o,none⟩/\B<w.heap.size/\∀j (h:j<l.length),w.cell? ⟨B,o+j * 2,none⟩=some (.int .i64 l[j].1)/\w.cell? ⟨B,o+j * 2+1,none⟩=some (.int .i64 l[j].2)
theorem RLies.below {A:Option Addr} {l:List P2} (h:RLies w A l) (hb:Below w.heap.size w w'):RLies w' A l:=λhn=>by
 obtain ⟨B,o,e,hB,hc⟩:=h hn
 exact ⟨B,o,e,Nat.lt_of_lt_of_le hB hb.size,λj hj=>⟨(hb.cell (p:=⟨B,o+j * 2,none⟩) hB).trans (hc j hj).1,(hb.cell (p:=⟨B,o+j * 2+1,none⟩) hB).trans (hc j hj).2⟩⟩
def PS.name1 (Q:PS) (T:List Fd) (r:P2):List Fd:=match Q.at r with
 | none=>T
 | some s=>zD T r s
def PS.nameTo (Q:PS) (l:List P2):List Fd:=l.foldl Q.name1 []
def PS.named (Q:PS) (rt:Fd) (l:List P2):List Fd:=zD (Q.nameTo l) rt.1 rt.2
theorem zPu (Q:PS) (l:List P2) {j:Nat} (h:j<l.length):Q.nameTo (l.take (j+1))=Q.name1 (Q.nameTo (l.take j)) l[j]:=by
 unfold PS.nameTo
 rw[List.take_succ_eq_append_getElem h,List.foldl_append];rfl
theorem at_wf (h:Parts w p c l f Q) {r s:P2} (e:Q.at r=some s):WfP s:=by
 unfold PS.at at e
 split at e
 . exact (h.fresh.ints _ (zCz e)).2
 . exact (h.live.ints _ (zCz e)).2
theorem q_named (rt:Fd) (A:Option Addr) (m:Nat) (l0:List P2) (h:Parts w p c l f Q) (ok:Ok Q) (hl:RLies w A l0) (hlen:l0.length<=200) (hwf:∀r∈l0,WfP r) (hrt:WfP rt.1/\WfP rt.2):Calls Tryz.prog 66 #[.pointer (some ⟨p,0,none⟩),FdV rt,.slice A l0.length m] w λe w'=>∃t,e=.returned (.pointer (some ⟨t,0,none⟩))/\Tab w' t (λb=>b<w.heap.size) (Q.named rt l0)/\Below w.heap.size w w':=by
 obtain ⟨W,hW⟩:∃W,w.alloc (.cells #[.int .i64 rt.1.1,.int .i64 rt.1.2,.int .i64 rt.2.1,.int .i64 rt.2.2] 71)=W:=⟨_,rfl⟩
 have HBW:Hid (Below w.heap.size w W):=hI (by rw[<- hW];exact bR.alloc nL _)
 have HRB:Hid (W.heap[w.heap.size]? = some (.cells #[.int .i64 rt.1.1,.int .i64 rt.1.2,.int .i64 rt.2.1,.int .i64 rt.2.2] 71 (0,0))):=hI (by rw[<- hW];exact heap_alloc_new _ _)
 have hrlt:=qD HRB.out
 have HP:=hI h
 have HO:=hI ok
 have HL:=hI hl
 have HWF:=hI hwf
 have HRT:=hI hrt
 clear h ok hl hwf hrt
 go_enter Tryz.func66,Tryz.ntmps66
 go_wp2_with (go_at_call 43;(with_reducible refine (zEp _).mono ?_);rintro e w1 ⟨t,rfl,ht,hb1⟩;have HT1:=hI ht;have HB1:=hI hb1;clear ht hb1)
 clear hW
 have HS1:=hI (Turned.refl (λb=>¬b<W.heap.size) w1)
 have hs1:=HB1.out.size
 have hsW:=HBW.out.size
 go_loopw [11,15] (λ_ v15 wr=>∃j:Nat,j<=l0.length/\v15=.int .i64 j/\Tab wr t (λb=>b<W.heap.size) (Q.nameTo (l0.take j))/\(Q.nameTo (l0.take j)).length<=j/\Safe (λb=>b<W.heap.size) w1 wr) (λ_ v15 _=>l0.length - (intOf v15).toNat)
 case atStart=>exact ⟨0,Nat.zero_le _,rfl,HT1.out,Nat.le_refl _,.refl _ _⟩
 case round =>
  obtain ⟨j,hj,rfl,hT,hn,hS⟩:=hrel
  have HBr:Hid (Below W.heap.size W wr):=hI ⟨hS.os.trans HB1.out.os,hS.tape.trans HB1.out.tape,hS.output.trans HB1.out.output,Nat.le_trans hs1 hS.size,λi hi=>(hS.block (Nat.lt_of_lt_of_le hi hs1) hi).trans (HB1.out.block i hi)⟩
  have HBw:Hid (Below w.heap.size w wr):=hI (HBW.out.trans (HBr.out.mono hsW))
  have HTr:=hI hT
  have HSr:=hI hS
  have hwr:=HBr.out.size
  clear hT hS
  by_cases hj1:j<l0.length
  . obtain ⟨B,o,rfl,hB,hc⟩:=(HL.out.below HBw.out) (by omega)
    obtain ⟨k0,k1⟩:=hc j hj1
    have HNX:=hI (zPu Q l0 hj1)
    have HWJ:=hI (HWF.out l0[j] (List.getElem_mem hj1))
    clear hc
    generalize l0[j]=r at k0 k1 HNX HWJ
    obtain ⟨W2,hW2⟩:∃W2,wr.alloc (.cells #[.int .i64 r.1,.int .i64 r.2] 33)=W2:=⟨_,rfl⟩
    have HB2:Hid (Below wr.heap.size wr W2):=hI (by rw[<- hW2];exact bR.alloc nL _)
    have HG2:Hid (W2.heap[wr.heap.size]? = some (.cells #[.int .i64 r.1,.int .i64 r.2] 33 (0,0))):=hI (by rw[<- hW2];exact heap_alloc_new _ _)
    obtain ⟨b0,b1,-,-⟩:=qG HG2.out
    have HP2:=hI (HP.out.below (HBw.out.trans (HB2.out.mono HBw.out.size)))
    have hg2:=qD HG2.out
    cases hat:Q.at r with
    | none =>
     have HAT:=hI hat
     have HN:Hid (Q.nameTo (l0.take (j+1))=Q.nameTo (l0.take j)):=hI (by rw[HNX.out];unfold PS.name1;rw[hat])
     clear hat
     go_wp2_with (go_at_call 57;(with_reducible refine (q_at r HP2.out HO.out HWJ.out).mono ?_);rintro e w3 ⟨rfl,hb3⟩;rw[HAT.out];have HB3:Hid (Below wr.heap.size wr (w3.alloc (.cells #[.int .i64 0,.int .i64 0] 69))):=hI (HB2.out.trans ((hb3.alloc hb3.size _).mono HB2.out.size));clear hb3)
     clear hW2
     go_roundw
     case rel=>exact ⟨j+1,by omega,by go_num,by rw[HN.out];exact HTr.out.below HB3.out,by rw[HN.out];omega,HSr.out.then (qC HB3.out)⟩
     case measure=>simp[intOf];omega
    | some s =>
     have HAT:=hI hat
     have HN:Hid (Q.nameTo (l0.take (j+1))=zD (Q.nameTo (l0.take j)) r s):=hI (by rw[HNX.out];unfold PS.name1;rw[hat])
     have HWS:=hI (at_wf HP.out hat)
     have hn10:(Q.nameTo (l0.take j)).length<=1000:=by omega
     have HLN:=hI (zCm (Q.nameTo (l0.take j)) r s)
     clear hat
     go_wp2_with (first
      | (go_at_call 57;(with_reducible refine (q_at r HP2.out HO.out HWJ.out).mono ?_);rintro e w3 ⟨rfl,hb3⟩;rw[HAT.out];have HB3:Hid (Below wr.heap.size wr (w3.alloc (.cells #[.int .i64 s.1,.int .i64 s.2] 69))):=hI (HB2.out.trans ((hb3.alloc hb3.size _).mono HB2.out.size));obtain ⟨d0,d1,-,-⟩:=qG ((qF w3 (.cells #[.int .i64 s.1,.int .i64 s.2] 69) (Nat.lt_of_lt_of_le hg2 hb3.size)).trans ((hb3.block _ hg2).trans HG2.out));clear hb3)
      | (go_at_call 56;(with_reducible refine (zCn r s (HTr.out.below HB3.out) hn10 HWJ.out HWS.out).mono ?_);rintro e w4 ⟨rfl,h4,hs4⟩;have HT4:=hI h4;have HS4:=hI hs4;clear h4 hs4))
     clear hW2
     go_roundw
     case rel=>exact ⟨j+1,by omega,by go_num,by rw[HN.out];exact HT4.out,by rw[HN.out];have:=HLN.out;omega,(HSr.out.then (qC HB3.out)).then HS4.out⟩
     case measure=>simp[intOf];omega
  . obtain rfl:j=l0.length:=by omega
    have hz:l0.take l0.length=l0:=List.take_length
    rw[hz] at HTr hn
    obtain ⟨b0,b1,b2,b3,-⟩:=vM ((HBr.out.block _ hrlt).trans HRB.out)
    have hn10:(Q.nameTo l0).length<=1000:=by omega
    clear hz
    go_wp2_with (go_at_call 56;(with_reducible refine (zCn rt.1 rt.2 HTr.out hn10 HRT.out.1 HRT.out.2).mono ?_);rintro e w4 ⟨rfl,h4,hs4⟩;have HT4:=hI h4;have HS4:=hI hs4;clear h4 hs4)
    go_ret
    refine ⟨t,rfl,HT4.out.less λb k=>by omega,?_⟩
    have hS:Safe (λb=>b<W.heap.size) w1 w4:=HSr.out.then HS4.out
    exact HBW.out.trans (Below.mono ⟨hS.os.trans HB1.out.os,hS.tape.trans HB1.out.tape,hS.output.trans HB1.out.output,Nat.le_trans hs1 hS.size,λi hi=>(hS.block (Nat.lt_of_lt_of_le hi hs1) hi).trans (HB1.out.block i hi)⟩ hsW)
end
end
section
open Go.RowKit Go.Maps
section
variable {w w' V:World} {p c l f:Nat} {x y X Y Z:Nat->Prop} {Q Q1:PS} {T:List Fd} {S:LS}
def RU (_:Value):Option (DataW Unit × List MemPlace):=some (.agg [],[])
theorem twkeyed:Keyed Tryz.prog 3:=int_keyed Tryz.underlying3
theorem twkey {a:Int} (h:(Lit.int .i64 a).wf=true):keyOf Tryz.prog 3 (.int .i64 a)=some (.int .i64 a):=keyOf_int_mk Tryz.underlying3 h
structure Tw (w:World) (b:Nat) (n:Nat) (L:List Int):Prop where
 own:∃D:DataW Unit,w.ownsMap Tryz.prog 3 RU b n D/\Tidy D/\(∀k:Int,(Lit.int .i64 k).wf=true->(Maps.has D (.int .i64 k)=true↔k∈L))/\Maps.size D<=L.length/\(Maps.size D=L.length↔L.Nodup)
theorem Tw.step {D:DataW Unit} {L:List Int} {k:Int} (hk:(Lit.int .i64 k).wf=true) (h1:Tidy D) (h2:∀k:Int,(Lit.int .i64 k).wf=true->(Maps.has D (.int .i64 k)=true↔k∈L)) (h3:Maps.size D<=L.length) (h4:Maps.size D=L.length↔L.Nodup) :
 Tidy (D.put (.int .i64 k) (.agg []))/\(∀j:Int,(Lit.int .i64 j).wf=true->(Maps.has (D.put (.int .i64 k) (.agg [])) (.int .i64 j)=true↔j∈L++[k]))/\Maps.size (D.put (.int .i64 k) (.agg []))<=(L++[k]).length/\(Maps.size (D.put (.int .i64 k) (.agg []))=(L++[k]).length↔(L++[k]).Nodup):=by
 have hkl:=twkeyed.key (twkey hk)
 refine ⟨h1.put hkl _,λj hj=>?_,?_,?_⟩
 . by_cases e:j=k
   . subst e
     rw[has_put_same h1.isMap hkl];simp
   . rw[has_put_other (by simpa using e),h2 j hj];simp[e]
 . rw[size_put h1]
   split<;>simp<;>omega
 . rw[size_put h1,List.length_append,List.nodup_append]
   cases hh:Maps.has D (.int .i64 k) with
   | true =>
    have hm:=(h2 k hk).1 hh
    simp only[if_true,List.length_singleton]
    constructor
    . intro e;omega
    . intro e;exact absurd rfl (e.2.2 k hm k (by simp))
   | false =>
    have hm:k∉L:=λe=>by rw[(h2 k hk).2 e] at hh;cases hh
    simp only[Bool.false_eq_true,if_false,List.length_singleton]
    constructor
    . intro e;exact ⟨h4.1 (by omega),by simp,λa ha b hb=>by simp at hb;subst hb;exact λe=>hm (e ▸ ha)⟩
    . intro e;rw[h4.2 e.1]
def ya (l:List P2):Bool := !decide (l.map (·.1)).Nodup
theorem zPi (A:Option Addr) (m:Nat) (l0:List P2) (w:World) (hl:RLies w A l0) (hlen:l0.length<=1000) (hwf:∀r∈l0,WfP r):Calls Tryz.prog 62 #[.slice A l0.length m] w λe w'=>e=.returned (.bool (ya l0))/\Below w.heap.size w w':=by
 have hmm := @run_makeMap Tryz.prog
 have HL:=hI hl
 have HWF:=hI hwf
 have HM0:=hI (World.ownsMap_made (H:=Unit) w Tryz.prog 3 RU)
 have HB0:Hid (Below w.heap.size w (w.alloc (.map #[] 0))):=hI (bR.alloc nL _)
 clear hl hwf
 go_enter Tryz.func62,Tryz.ntmps62
 go_wp2_with fail
 obtain ⟨b,hb⟩:∃b,b=w.heap.size:=⟨_,rfl⟩
 have HBb:=hI hb
 rw[<- hb] at HM0 ⊢
 generalize w.alloc (.map #[] 0)=w1 at HM0 HB0 ⊢
 clear hmm hb
 go_loopw [9] (λv9 wr=>∃j:Nat,j<=l0.length/\v9=.int .i64 j/\Tw wr b j ((l0.take j).map (·.1))/\Below w.heap.size w wr) (λv9 _=>l0.length - (intOf v9).toNat)
 case atStart=>exact ⟨0,Nat.zero_le _,rfl,⟨_,HM0.out,tidy_empty,λk _=>by simp[Maps.has],by simp[Maps.size],by simp[Maps.size]⟩,HB0.out⟩
 case round =>
  obtain ⟨j,hj,rfl,⟨D,hD,t1,t2,t3,t4⟩,hB⟩:=hrel
  have HB:=hI hB
  have HD:=hI hD
  have H4:=hI (And.intro t1 (And.intro t2 (And.intro t3 t4)))
  have hs:=hB.size
  clear hB hD t1 t2 t3 t4
  by_cases hj1:j<l0.length
  . obtain ⟨B,o,rfl,hBs,hc⟩:=(HL.out.below HB.out) (by omega)
    obtain ⟨k0,k1⟩:=hc j hj1
    have HW:=hI (HWF.out l0[j] (List.getElem_mem hj1)).1
    have HTK:Hid ((l0.take (j+1)).map (·.1)=(l0.take j).map (·.1)++[l0[j].1]):=hI (by rw[List.take_succ_eq_append_getElem hj1,List.map_append];rfl)
    clear hc
    generalize l0[j]=r at k0 k1 HW HTK
    have HD2:Hid ((wr.alloc (.cells #[.int .i64 r.1,.int .i64 r.2] 33)).ownsMap Tryz.prog 3 RU b j D):=hI (HD.out.kept (World.grownBy_alloc wr _ none) (by simp))
    have HKEY:=hI (twkey HW.out)
    go_wp2_with (at_mapUpdate;refine wpList_mapUpdate_own _ rfl _ _ _ 161 rfl 3 162 twkeyed Tryz.underlying161 RU b j D rfl HD2.out (by unfold maxLen;omega) _ _ _ rfl rfl HKEY.out (.agg []) [] rfl ?_;intro w5 hown5 hg5)
    have HO5:=hI hown5
    have HB5:Hid (Below w.heap.size w w5):=hI ((HB.out.alloc hs _).grown hg5 (by simp;omega) λk e=>by cases e;rw[HBb.out];exact Nat.le_refl _)
    clear hown5 hg5
    go_roundw
    case rel =>
     obtain ⟨t1,t2,t3,t4⟩:=Tw.step HW.out H4.out.1 H4.out.2.1 H4.out.2.2.1 H4.out.2.2.2
     exact ⟨j+1,by omega,by go_num,by rw[HTK.out];exact ⟨_,HO5.out,t1,t2,t3,t4⟩,HB5.out⟩
    case measure=>simp[intOf];omega
  . obtain rfl:j=l0.length:=by omega
    have hln:=λty=>HD.out.len Tryz.underlying161 ty
    obtain ⟨n,hn⟩:∃n,n=Maps.size D:=⟨_,rfl⟩
    rw[<- hn] at hln
    have HE:Hid (ya l0=decide (n<l0.length)):=hI (by
     obtain ⟨t1,t2,t3,t4⟩:=H4.out
     rw[List.take_length,List.length_map,<- hn] at t3 t4
     unfold ya
     by_cases e:(l0.map (·.1)).Nodup
     . rw[decide_eq_true e,decide_eq_false (by have:=t4.2 e;omega)];rfl
     . rw[decide_eq_false e,decide_eq_true (by have:n≠l0.length:=λk=>e (t4.1 k);omega)];rfl)
    clear hn
    go_wp2_with fail
    go_ret
    exact ⟨by rw[HE.out];rfl,HB.out⟩
end
end
section
open Go.RowKit
section
variable {w w' V:World} {p c l f:Nat} {x y X Y Z:Nat->Prop} {Q Q1:PS} {T:List Fd} {S:LS}
theorem RLies.safe {A:Option Addr} {l:List P2} (h:RLies w A l) (hs:Safe x w w') (hx:0<l.length->∀ad,A=some ad->x ad.block):RLies w' A l:=λhn=>by
 obtain ⟨B,o,e,hB,hc⟩:=h hn
 have hk:=hs.block hB (hx hn _ e)
 exact ⟨B,o,e,Nat.lt_of_lt_of_le hB hs.size,λj hj=>⟨(World.cell?_of_block (a:=⟨B,o+j * 2,none⟩) hk).trans (hc j hj).1,(World.cell?_of_block (a:=⟨B,o+j * 2+1,none⟩) hk).trans (hc j hj).2⟩⟩
def PS.okRef (Q:PS) (r:P2):Bool:=(Q.at r).isSome&&r.1 != 0
def PS.may (Q:PS) (l:List P2):Bool:=decide ((l.length:Int)<=Q.K) && !ya l&&l.all Q.okRef
theorem q_may (A:Option Addr) (m:Nat) (l0:List P2) (h:Parts w p c l f Q) (ok:Ok Q) (hl:RLies w A l0) (hlen:l0.length<=1000) (hwf:∀r∈l0,WfP r):Calls Tryz.prog 101 #[.pointer (some ⟨p,0,none⟩),.slice A l0.length m] w λe w'=>e=.returned (.bool (Q.may l0))/\Below w.heap.size w w':=by
 have c4:=h.c4
 have HP:=hI h
 have HO:=hI ok
 have HL:=hI hl
 have HWF:=hI hwf
 obtain ⟨K,hK⟩:∃K,K=Q.K:=⟨_,rfl⟩
 rw[<- hK] at c4
 have HKK:=hI hK
 clear h ok hl hwf hK
 by_cases h1:K<(l0.length:Int)
 . have HE:Hid (Q.may l0=false):=hI (by unfold PS.may;rw[decide_eq_false (by rw[<- HKK.out];omega)];rfl)
   go_enter Tryz.func101,Tryz.ntmps101
   go_wp2_with fail
   go_ret
   exact ⟨by rw[HE.out];rfl,bR⟩
 . have h1f:decide (K<(l0.length:Int))=false:=decide_eq_false h1
   have HK1:Hid (decide ((l0.length:Int)<=Q.K)=true):=hI (decide_eq_true (by rw[<- HKK.out];omega))
   cases h2:ya l0 with
   | true =>
    have HE:Hid (Q.may l0=false):=hI (by unfold PS.may;rw[h2];simp)
    have HT:=hI h2
    clear h2
    go_enter Tryz.func101,Tryz.ntmps101
    go_wp2_with (go_at_call 62;(with_reducible refine (zPi A m l0 _ HL.out hlen HWF.out).mono ?_);rintro e w2 ⟨rfl,hb2⟩;rw[HT.out];have HB2:=hI hb2;clear hb2)
    go_ret
    exact ⟨by rw[HE.out];rfl,HB2.out⟩
   | false =>
    have HM:Hid (Q.may l0=l0.all Q.okRef):=hI (by unfold PS.may;rw[h2,HK1.out];rfl)
    have HT:=hI h2
    clear h2
    go_enter Tryz.func101,Tryz.ntmps101
    go_wp2_with (go_at_call 62;(with_reducible refine (zPi A m l0 _ HL.out hlen HWF.out).mono ?_);rintro e w2 ⟨rfl,hb2⟩;rw[HT.out];have HB2:=hI hb2;clear hb2)
    go_loopw [8,23] (λ_ v23 wr=>∃j:Nat,j<=l0.length/\v23=.int .i64 j/\(l0.take j).all Q.okRef=true/\Below w.heap.size w wr) (λ_ v23 _=>l0.length - (intOf v23).toNat)
    case atStart=>exact ⟨0,Nat.zero_le _,rfl,rfl,HB2.out⟩
    case round =>
     obtain ⟨j,hj,rfl,hA,hB⟩:=hrel
     have HB:=hI hB
     have HAL:=hI hA
     have hs:=hB.size
     clear hB hA
     by_cases hj1:j<l0.length
     . obtain ⟨B,o,rfl,hBs,hc⟩:=(HL.out.below HB.out) (by omega)
       obtain ⟨k0,k1⟩:=hc j hj1
       have HWJ:=hI (HWF.out l0[j] (List.getElem_mem hj1))
       have HMEM:=hI (List.getElem_mem hj1 (l:=l0))
       have HTK:Hid ((l0.take (j+1)).all Q.okRef=((l0.take j).all Q.okRef&&Q.okRef l0[j])):=hI (by rw[List.take_succ_eq_append_getElem hj1,List.all_append];simp)
       clear hc
       generalize l0[j]=r at k0 k1 HWJ HTK HMEM
       have HNO:Hid (Q.okRef r=false->Q.may l0=false):=hI λe=>by
        rw[HM.out,Bool.eq_false_iff]
        intro k
        have:=List.all_eq_true.1 k r HMEM.out
        rw[e] at this;cases this
       obtain ⟨W2,hW2⟩:∃W2,wr.alloc (.cells #[.int .i64 r.1,.int .i64 r.2] 33)=W2:=⟨_,rfl⟩
       have HBW2:Hid (Below wr.heap.size wr W2):=hI (by rw[<- hW2];exact bR.alloc nL _)
       have HG2:Hid (W2.heap[wr.heap.size]? = some (.cells #[.int .i64 r.1,.int .i64 r.2] 33 (0,0))):=hI (by rw[<- hW2];exact heap_alloc_new _ _)
       obtain ⟨b0,b1,-,-⟩:=qG HG2.out
       have HP2:=hI (HP.out.below (HB.out.trans (HBW2.out.mono hs)))
       have hg2:=qD HG2.out
       cases hat:Q.at r with
       | none =>
        have HAT:=hI hat
        have HE:Hid (Q.may l0=false):=hI (HNO.out (by unfold PS.okRef;rw[hat];rfl))
        clear hat
        go_wp2_with (go_at_call 57;(with_reducible refine (q_at r HP2.out HO.out HWJ.out).mono ?_);rintro e w3 ⟨rfl,hb3⟩;rw[HAT.out];have HB3:Hid (Below wr.heap.size wr (w3.alloc (.cells #[.int .i64 0,.int .i64 0] 69))):=hI (HBW2.out.trans ((hb3.alloc hb3.size _).mono HBW2.out.size));clear hb3)
        go_ret
        exact ⟨by rw[HE.out];rfl,HB.out.trans (HB3.out.mono hs)⟩
       | some s =>
        have HAT:=hI hat
        by_cases hz:r.1=0
        . have HE:Hid (Q.may l0=false):=hI (HNO.out (by unfold PS.okRef;rw[hat,hz];rfl))
          have HZ:=hI hz
          clear hat hz
          go_wp2_with (go_at_call 57;(with_reducible refine (q_at r HP2.out HO.out HWJ.out).mono ?_);rintro e w3 ⟨rfl,hb3⟩;rw[HAT.out];have HB3:Hid (Below wr.heap.size wr (w3.alloc (.cells #[.int .i64 s.1,.int .i64 s.2] 69))):=hI (HBW2.out.trans ((hb3.alloc hb3.size _).mono HBW2.out.size));obtain ⟨d0,d1,-,-⟩:=qG ((qF w3 (.cells #[.int .i64 s.1,.int .i64 s.2] 69) (Nat.lt_of_lt_of_le hg2 hb3.size)).trans ((hb3.block _ hg2).trans HG2.out));rw[HZ.out] at d0;clear hb3)
          go_ret
          exact ⟨by rw[HE.out];rfl,HB.out.trans (HB3.out.mono hs)⟩
        . have HOK:Hid (Q.okRef r=true):=hI (by unfold PS.okRef;rw[hat];simpa using hz)
          obtain ⟨r1,hr1⟩:∃r1,r1=r.1:=⟨_,rfl⟩
          rw[<- hr1] at hz
          have HR1:=hI hr1
          clear hat hr1
          have hzf:decide (r1=0)=false:=decide_eq_false hz
          have hzg:(r1==0)=false:=by simpa using hz
          go_wp2_with (go_at_call 57;(with_reducible refine (q_at r HP2.out HO.out HWJ.out).mono ?_);rintro e w3 ⟨rfl,hb3⟩;rw[HAT.out];have HB3:Hid (Below wr.heap.size wr (w3.alloc (.cells #[.int .i64 s.1,.int .i64 s.2] 69))):=hI (HBW2.out.trans ((hb3.alloc hb3.size _).mono HBW2.out.size));obtain ⟨d0,d1,-,-⟩:=qG ((qF w3 (.cells #[.int .i64 s.1,.int .i64 s.2] 69) (Nat.lt_of_lt_of_le hg2 hb3.size)).trans ((hb3.block _ hg2).trans HG2.out));rw[<- HR1.out] at d0;clear hb3)
          clear hW2
          go_roundw
          case rel=>exact ⟨j+1,by omega,by go_num,by rw[HTK.out,HAL.out,HOK.out];rfl,HB.out.trans (HB3.out.mono hs)⟩
          case measure=>simp[intOf];omega
     . obtain rfl:j=l0.length:=by omega
       have HE:Hid (Q.may l0=true):=hI (by rw[HM.out];have:=HAL.out;rwa [List.take_length] at this)
       go_wp2_with fail
       go_ret
       exact ⟨by rw[HE.out];rfl,HB.out⟩
def PS.root (n:Nat) (Q:PS) (d:List UInt8) (l:List P2):Option (Int × Fd × PS) :=
 if Q.sheetE 0 d≠0\/Q.may l=false then some (1,((0,0),(0,0)),Q) else Q.give n 0 (Q.sheetB 0 d)
theorem zHq {d:List UInt8} {pg:Int} (h:Q.sheetE pg d=0):vg pg (Q.seq+1) d:=by
 unfold PS.sheetE at h
 by_cases k:vg pg (Q.seq+1) d
 . exact k
 . rw[if_neg k] at h;cases h
theorem Ok.root {n:Nat} {d:List UInt8} {l:List P2} {er:Int} {rt:Fd} {Q':PS} (h:Ok Q) (hm:Q.root n d l=some (er,rt,Q')):Ok Q':=by
 unfold PS.root at hm
 split at hm
 . cases hm;exact h
 . next k=>exact h.give (zHq (Classical.not_not.1 λe=>k (.inl e))).2.1.2 hm
end
end
section
open Go.RowKit
section
variable {w w' V:World} {p c l f:Nat} {x y X Y Z:Nat->Prop} {Q Q1:PS} {T:List Fd} {S:LS}
theorem q_root (n:Nat) (A:Option Addr) (m:Nat) (d:List UInt8) (A0:Option Addr) (m0:Nat) (l0:List P2) {er:Int} {rt:Fd} {Q':PS} (h:Pool w p c x Q) (ok:Ok Q) (hd:RB w w.heap.size A d) (hl:RLies w A0 l0) (hlen:l0.length<=1000) (hwf:∀r∈l0,WfP r) (hm:Q.root n d l0=some (er,rt,Q')):Calls Tryz.prog 65 #[.pointer (some ⟨p,0,none⟩),.slice A d.length m,.slice A0 l0.length m0] w λe w'=>e=.returned (.tuple #[FdV rt,.int .i64 er])/\Pool w' p c x Q'/\Safe x w w':=by
 obtain ⟨W,hW⟩:∃W,w.alloc (.cells #[.int .i64 0,.int .i64 0,.int .i64 0,.int .i64 0] 71)=W:=⟨_,rfl⟩
 have HBW:Hid (Below w.heap.size w W):=hI (by rw[<- hW];exact bR.alloc nL _)
 have HRB:Hid (W.heap[w.heap.size]? = some (.cells #[.int .i64 0,.int .i64 0,.int .i64 0,.int .i64 0] 71 (0,0))):=hI (by rw[<- hW];exact heap_alloc_new _ _)
 have hrlt:=qD HRB.out
 have HPW:Hid (Pool W p c (λb=>x b\/b=w.heap.size) Q):=hI ((h.more HBW.out).less λb k=>k.imp id λe=>⟨by omega,by omega⟩)
 obtain ⟨lw,fw,hptw⟩:=HPW.out.parts
 have HTW:=hI hptw
 have HDW:Hid (RB W W.heap.size A d):=hI ((hd.below HBW.out nL).mono HBW.out.size)
 have HLW:=hI (hl.below HBW.out)
 have HO:=hI ok
 have HWF:=hI hwf
 have HRR:Hid (∀V,Safe (λb=>x b\/b=w.heap.size) W V->V.heap[w.heap.size]? = some (.cells #[.int .i64 0,.int .i64 0,.int .i64 0,.int .i64 0] 71 (0,0))):=hI λV hV=>(hV.block hrlt (.inr rfl)).trans HRB.out
 unfold PS.root at hm
 clear h ok hd hl hwf hptw
 by_cases hs:Q.sheetE 0 d=0
 case neg =>
  rw[if_pos (.inl hs)] at hm
  have HE:Hid (er=1/\rt=((0,0),(0,0))/\Q'=Q):=hI (by have:=Option.some.inj hm;exact ⟨(congrArg (λz:Int × Fd × PS=>z.1) this).symm,(congrArg (λz:Int × Fd × PS=>z.2.1) this).symm,(congrArg (λz:Int × Fd × PS=>z.2.2) this).symm⟩)
  obtain ⟨es,hes⟩:∃es,es=Q.sheetE 0 d:=⟨_,rfl⟩
  rw[<- hes] at hs
  have HES:=hI hes
  clear hm hes
  go_enter Tryz.func65,Tryz.ntmps65
  go_upto_region 3 with (go_at_call 53;(with_reducible refine (zDj 0 A m d HTW.out HO.out HDW.out).mono ?_);rintro e w2 ⟨A2,c2,L2,rfl,hL2,hc2,hb2⟩;rw[<- HES.out];have HB2:=hI hb2;clear hc2 hb2 hL2)
  have HS2:Hid (Safe (λb=>x b\/b=w.heap.size) W w2):=hI (qC HB2.out)
  obtain ⟨f0,f1,f2,f3,fr0,fr1,fr2,fr3⟩:=vM (HRR.out w2 HS2.out)
  obtain ⟨m0',m1,m2,m3,-⟩:=vM (zBe (HRR.out w2 HS2.out) (.int .i64 0) (.int .i64 0) (.int .i64 0) (.int .i64 0))
  clear hW
  go_wp2_with fail
  refine bodyPost_ret (by simp[results,Tryz.results65,go_sem,m0',m1,m2,m3];try rfl) rfl ?_
  rw[HE.out.1,HE.out.2.1,HE.out.2.2]
  exact ⟨rfl,((HPW.out.below HB2.out).four (.inr rfl) _ _ _ _).less λb k=>.inl k,yN ((qC HBW.out).then' HS2.out λ_ _ k=>.inl k) nL _ _ _ _⟩
 case pos =>
  have HES:=hI hs
  have HSQ:=hI (zHq hs).2.1.2
  cases hy:Q.may l0 with
  | false =>
   rw[if_pos (.inr hy)] at hm
   have HE:Hid (er=1/\rt=((0,0),(0,0))/\Q'=Q):=hI (by have:=Option.some.inj hm;exact ⟨(congrArg (λz:Int × Fd × PS=>z.1) this).symm,(congrArg (λz:Int × Fd × PS=>z.2.1) this).symm,(congrArg (λz:Int × Fd × PS=>z.2.2) this).symm⟩)
   have HY:=hI hy
   clear hm hy hs
   go_enter Tryz.func65,Tryz.ntmps65
   go_upto_region 3 with (first
    | (go_at_call 53;(with_reducible refine (zDj 0 A m d HTW.out HO.out HDW.out).mono ?_);rintro e w2 ⟨A2,c2,L2,rfl,hL2,hc2,hb2⟩;rw[HES.out];have HB2:=hI hb2;clear hc2 hb2 hL2)
    | (go_at_call 101;(with_reducible refine (q_may A0 m0 l0 (HTW.out.below HB2.out) HO.out (HLW.out.below HB2.out) hlen HWF.out).mono ?_);rintro e w3 ⟨rfl,hb3⟩;rw[HY.out];have HB3:=hI (HB2.out.trans (hb3.mono HB2.out.size));clear hb3))
   have HS2:Hid (Safe (λb=>x b\/b=w.heap.size) W w3):=hI (qC HB3.out)
   obtain ⟨f0,f1,f2,f3,fr0,fr1,fr2,fr3⟩:=vM (HRR.out w3 HS2.out)
   obtain ⟨m0',m1,m2,m3,-⟩:=vM (zBe (HRR.out w3 HS2.out) (.int .i64 0) (.int .i64 0) (.int .i64 0) (.int .i64 0))
   clear hW
   go_wp2_with fail
   refine bodyPost_ret (by simp[results,Tryz.results65,go_sem,m0',m1,m2,m3];try rfl) rfl ?_
   rw[HE.out.1,HE.out.2.1,HE.out.2.2]
   exact ⟨rfl,((HPW.out.below HB3.out).four (.inr rfl) _ _ _ _).less λb k=>.inl k,yN ((qC HBW.out).then' HS2.out λ_ _ k=>.inl k) nL _ _ _ _⟩
  | true =>
   rw[if_neg (by rintro (k | k);exact k hs;rw[hy] at k;cases k)] at hm
   have HM:=hI hm
   have HY:=hI hy
   clear hm hy hs
   go_enter Tryz.func65,Tryz.ntmps65
   go_upto_region 4 with (first
    | (go_at_call 53;(with_reducible refine (zDj 0 A m d HTW.out HO.out HDW.out).mono ?_);rintro e w2 ⟨A2,c2,L2,rfl,hL2,hc2,hb2⟩;rw[HES.out];have HB2:=hI hb2;have HC2:=hI hc2;clear hc2 hb2)
    | (go_at_call 101;(with_reducible refine (q_may A0 m0 l0 (HTW.out.below HB2.out) HO.out (HLW.out.below HB2.out) hlen HWF.out).mono ?_);rintro e w3 ⟨rfl,hb3⟩;rw[HY.out];have HB3:=hI (HB2.out.trans (hb3.mono HB2.out.size));have HC3:Hid (CB w3 (λb=>(x b\/b=w.heap.size)\/New W w3 b) A2 L2):=hI (HC2.out.keep (λb k=>hb3.block b k.2) λb k=>.inr ⟨k.1,Nat.lt_of_lt_of_le k.2 hb3.size⟩);clear hb3))
   have HS3:Hid (Safe (λb=>x b\/b=w.heap.size) W w3):=hI (qC HB3.out)
   have HP3:=hI (HPW.out.more HB3.out)
   have HG3:Hid (Q.give n 0 L2=some (er,rt,Q')):=hI (by rw[hL2.out];exact HM.out)
   clear hL2 hW
   go_wp2_with (go_at_call 55;(with_reducible refine (q_give n 0 A2 c2 L2 HP3.out HO.out HSQ.out HC3.out HG3.out).mono ?_);rintro e w4 ⟨rfl,h4,hs4⟩;have HP4:=hI h4;have HS4:Hid (Safe (λb=>x b\/b=w.heap.size) W w4):=hI (HS3.out.then' hs4 λ_ _ k=>.inl k);obtain ⟨f0,f1,f2,f3,fr0,fr1,fr2,fr3⟩:=vM (HRR.out w4 HS4.out);clear h4 hs4)
   obtain ⟨m0',m1,m2,m3,-⟩:=vM (zBe (HRR.out w4 HS4.out) (.int .i64 rt.1.1) (.int .i64 rt.1.2) (.int .i64 rt.2.1) (.int .i64 rt.2.2))
   refine bodyPost_ret (by simp[results,Tryz.results65,go_sem,m0',m1,m2,m3];try rfl) rfl ?_
   exact ⟨rfl,(HP4.out.four (.inl (.inr rfl)) _ _ _ _).less λb k=>.inl (.inl k),yN ((qC HBW.out).then' HS4.out λ_ _ k=>.inl k) nL _ _ _ _⟩
def PS.sealQ (n:Nat) (Q:PS) (d:List UInt8) (l:List P2):Option (Int × PS) :=
 match Q.root n d l with
 | none=>none
 | some (er,rt,Q1) =>
  if er=0 then (if WfP rt.1/\WfP rt.2/\(Q1.named rt l).length<=200 then some (0,({ Q1 with L:=Q1.named rt l } : PS).undo) else none)
  else some (er,Q1.undo)
theorem Ok.sealQ {n:Nat} {d:List UInt8} {l:List P2} {er:Int} {Q':PS} (h:Ok Q) (hm:Q.sealQ n d l=some (er,Q')):Ok Q':=by
 unfold PS.sealQ at hm
 split at hm
 . cases hm
 . next h1 =>
   have h2:=h.root h1
   split at hm
   . split at hm
     . next h5=>cases hm;exact { h2 with tabs:=⟨h5.2.2,by simp[PS.undo]⟩ }
     . cases hm
   . cases hm;exact h2.undo
theorem q_seal (n:Nat) (A:Option Addr) (m:Nat) (d:List UInt8) (A0:Option Addr) (m0:Nat) (l0:List P2) {er:Int} {Q':PS} (h:Pool w p c x Q) (ok:Ok Q) (hd:RB w w.heap.size A d) (hl:RLies w A0 l0) (hx:0<l0.length->∀ad,A0=some ad->x ad.block) (hlen:l0.length<=200) (hwf:∀r∈l0,WfP r) (hm:Q.sealQ n d l0=some (er,Q')):Calls Tryz.prog 28 #[.pointer (some ⟨p,0,none⟩),.slice A d.length m,.slice A0 l0.length m0] w λe w'=>e=.returned (.int .i64 er)/\Pool w' p c x Q'/\Safe x w w':=by
 obtain ⟨lw,fw,hptw⟩:=h.parts
 have HTW:=hI hptw
 have HP:=hI h
 have HD:=hI hd
 have HL:=hI hl
 have HX:=hI hx
 have HO:=hI ok
 have HWF:=hI hwf
 unfold PS.sealQ at hm
 cases hr:Q.root n d l0 with
 | none=>rw[hr] at hm;cases hm
 | some R =>
  obtain ⟨e1,rt,Q1⟩:=R
  rw[hr] at hm
  simp only at hm
  have HR:=hI hr
  have HO1:=hI (ok.root hr)
  have HM:=hI hm
  clear h ok hd hl hx hwf hptw hm hr
  go_enter Tryz.func28,Tryz.ntmps28
  go_upto_region 4 with (first
   | (go_at_call 52;(with_reducible refine (q_is HTW.out).mono ?_);rintro e w1 ⟨rfl,hw1⟩;subst hw1)
   | (go_at_call 65;(with_reducible refine (q_root n A m d A0 m0 l0 HP.out HO.out HD.out HL.out (by omega) HWF.out HR.out).mono ?_);rintro e w2 ⟨rfl,h2,hs2⟩;have HP2:=hI h2;have HS2:=hI hs2;clear h2 hs2))
  have HB3:Hid (Below w2.heap.size w2 (w2.alloc (.cells #[.int .i64 rt.1.1,.int .i64 rt.1.2,.int .i64 rt.2.1,.int .i64 rt.2.2] 71))):=hI (bR.alloc nL _)
  have hg3:=heap_alloc_new w2 (.cells #[.int .i64 rt.1.1,.int .i64 rt.1.2,.int .i64 rt.2.1,.int .i64 rt.2.2] 71)
  generalize w2.alloc (.cells #[.int .i64 rt.1.1,.int .i64 rt.1.2,.int .i64 rt.2.1,.int .i64 rt.2.2] 71)=w3 at HB3 hg3 ⊢
  have HP3:=hI (HP2.out.below HB3.out)
  have HS3:Hid (Safe x w w3):=hI (HS2.out.then (qC HB3.out))
  by_cases he:e1=0
  . subst he
    have hm:=HM.out
    rw[if_pos rfl] at hm
    by_cases hw:WfP rt.1/\WfP rt.2/\(Q1.named rt l0).length<=200
    case neg=>rw[if_neg hw] at hm;cases hm
    case pos =>
     rw[if_pos hw] at hm
     have HE:Hid (er=0/\Q'=({ Q1 with L:=Q1.named rt l0 } : PS).undo):=hI (by have:=Option.some.inj hm;exact ⟨(congrArg (λz:Int × PS=>z.1) this).symm,(congrArg (λz:Int × PS=>z.2) this).symm⟩)
     have HW:=hI hw
     clear hm hw HM
     obtain ⟨l3,f3,hpt3⟩:=HP3.out.parts
     have HT3:=hI hpt3
     obtain ⟨b0,b1,b2,b3,-⟩:=vM hg3
     have HL3:=hI (HL.out.safe HS3.out HX.out)
     clear hpt3 hg3
     go_upto_region 6 with (go_at_call 66;(with_reducible refine (q_named rt A0 m0 l0 HT3.out HO1.out HL3.out hlen HWF.out ⟨HW.out.1,HW.out.2.1⟩).mono ?_);rintro e w4 ⟨t,rfl,ht4,hb4⟩;have HT4:=hI ht4;have HB4:=hI hb4;have c7:=(HT3.out.below hb4).c7;have fr7:=(HT3.out.below hb4).fr 7;clear ht4 hb4)
     obtain ⟨hp5,hs5⟩:=Pool.relive HP3.out HB4.out HT4.out
     have HP5:=hI hp5
     have HS5:=hI (HS3.out.then hs5)
     clear hp5 hs5 b0 b1 b2 b3 c7 fr7
     generalize w4.setCell ⟨p,7,none⟩ (.pointer (some ⟨t,0,none⟩))=w5 at HP5 HS5 ⊢
     go_wp2_with (go_at_call 12;(with_reducible refine (zRi HP5.out).mono ?_);rintro e w6 ⟨rfl,h6,hs6⟩;have HP6:=hI h6;have HS6:=hI hs6;clear h6 hs6)
     go_ret
     rw[HE.out.1,HE.out.2]
     exact ⟨rfl,HP6.out,HS5.out.then HS6.out⟩
  . have HE:Hid (er=e1/\Q'=Q1.undo):=hI (by have hm:=HM.out;rw[if_neg he] at hm;have:=Option.some.inj hm;exact ⟨(congrArg (λz:Int × PS=>z.1) this).symm,(congrArg (λz:Int × PS=>z.2) this).symm⟩)
    clear HM hg3
    go_wp2_with (go_at_call 12;(with_reducible refine (zRi HP3.out).mono ?_);rintro e w6 ⟨rfl,h6,hs6⟩;have HP6:=hI h6;have HS6:=hI hs6;clear h6 hs6)
    go_ret
    rw[HE.out.1,HE.out.2]
    exact ⟨rfl,HP6.out,HS3.out.then HS6.out⟩
end
end
end Go.Proofs.YtinkkmlbhkfmnaaGreat
