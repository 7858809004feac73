/- A part of what the last text proves: PoL4, PoM19, PoM20. -/
import Derived.Test.YtinkkmlbhkfmnaaGreatQLa
set_option maxRecDepth 100000
set_option maxHeartbeats 8000000
namespace Go.Proofs.YtinkkmlbhkfmnaaGreat
section
open Go.RowKit
attribute [local go_sem] Oper.semAt_some
section
variable {P:Program} {ops:Array Oper} {Q:Exit->Act->World->Prop}
theorem zJb {a:Act} {j:Nat} (h:yJ ops a j=undef):yielded ops a.tmps j=none:=by
 unfold yJ at h
 unfold yielded
 cases hj:(ops[j]?).bind (·.dst) with
 | none=>rfl
 | some t =>
  rw[hj] at h
  simp only[Option.bind_some]
  simp only[Array.getD_eq_getD_getElem?] at h
  cases ht:a.tmps[t]? with
  | none=>rfl
  | some v =>
   rw[ht] at h
   simp only[Option.getD_some] at h
   rw[h]
   rfl
theorem qa {o:Oper} {a:Act} {w:World} {K:Act->World->Prop} {j:Nat} {b:Bool} (hg:o.guard=some (j,b)) (h:yJ ops a j=undef) (hK:K (a.put o.dst undef) w) :
 if Region.wanted o (yielded ops a.tmps)=true then o.wp P a w K Q else K (a.put o.dst undef) w:=by
 have hw:Region.wanted o (yielded ops a.tmps)=false:=by
  unfold Region.wanted
  rw[hg]
  simp[zJb h]
 rw[hw]
 exact hK
end
structure SC (w:World) (s c p:Nat) (g:Cf) (vl vf:Value):Prop where
 lt:s<w.heap.size
 c0:w.cell? ⟨s,0,none⟩=some (.pointer (some ⟨c,0,none⟩))
 c1:w.cell? ⟨s,1,none⟩=some (.pointer (some ⟨p,0,none⟩))
 c2:w.cell? ⟨s,2,none⟩=some (.int .i64 g.B)
 c3:w.cell? ⟨s,3,none⟩=some (.int .i64 g.P)
 c4:w.cell? ⟨s,4,none⟩=some (.int .i64 g.Sp)
 c5:w.cell? ⟨s,5,none⟩=some (.int .i64 g.K)
 c6:w.cell? ⟨s,6,none⟩=some (.int .i64 g.U)
 c7:w.cell? ⟨s,7,none⟩=some (.int .i64 g.bad)
 c8:w.cell? ⟨s,8,none⟩=some vl
 c9:w.cell? ⟨s,9,none⟩=some vf
 c13:w.cell? ⟨s,13,none⟩=some (.int .i64 0)
section
variable {w w':World} {s p c:Nat} {x k:Nat->Prop} {g:Cf} {Q Q':PS} {lv fr:List Pg} {Al Af:Option Addr} {cl cf:Nat} {vl vf:Value}
theorem SC.block (h:SC w s c p g vl vf) (hb:w'.heap[s]? = w.heap[s]?):SC w' s c p g vl vf:=by
 have hlt:s<w'.heap.size:=by
  have h1:=h.lt
  rw[Array.getElem?_eq_getElem h1] at hb
  exact (Array.getElem?_eq_some_iff.1 hb).1
 exact ⟨hlt,(World.cell?_of_block (a:=⟨s,0,none⟩) hb).trans h.c0,(World.cell?_of_block (a:=⟨s,1,none⟩) hb).trans h.c1,(World.cell?_of_block (a:=⟨s,2,none⟩) hb).trans h.c2,(World.cell?_of_block (a:=⟨s,3,none⟩) hb).trans h.c3,(World.cell?_of_block (a:=⟨s,4,none⟩) hb).trans h.c4,(World.cell?_of_block (a:=⟨s,5,none⟩) hb).trans h.c5,(World.cell?_of_block (a:=⟨s,6,none⟩) hb).trans h.c6,(World.cell?_of_block (a:=⟨s,7,none⟩) hb).trans h.c7,(World.cell?_of_block (a:=⟨s,8,none⟩) hb).trans h.c8,(World.cell?_of_block (a:=⟨s,9,none⟩) hb).trans h.c9,(World.cell?_of_block (a:=⟨s,13,none⟩) hb).trans h.c13⟩
theorem SC.below (h:SC w s c p g vl vf) (hb:Below w.heap.size w w'):SC w' s c p g vl vf:=h.block (hb.block s h.lt)
theorem StAt.sc (h:StAt w s p c x g Q lv fr Al cl Af cf):SC w s c p g (.slice Al lv.length cl) (.slice Af fr.length cf):=by
 obtain ⟨c0,c1,c2,c3,c4,c5,c6,c7,c8,c9,c13⟩:=h.cells
 exact ⟨h.lt,c0,c1,c2,c3,c4,c5,c6,c7,c8,c9,c13⟩
structure Bx (w:World) (b10 b11:Nat) (dr dp de m0 m1 m2:Int):Prop where
 lt_b10:b10<w.heap.size
 lt_b11:b11<w.heap.size
 b10_0:w.cell? ⟨b10,0,none⟩=some (.int .i64 dr)
 b10_1:w.cell? ⟨b10,1,none⟩=some (.int .i64 dp)
 b10_2:w.cell? ⟨b10,2,none⟩=some (.int .i64 de)
 b11_0:w.cell? ⟨b11,0,none⟩=some (.int .i64 m0)
 b11_1:w.cell? ⟨b11,1,none⟩=some (.int .i64 m1)
 b11_2:w.cell? ⟨b11,2,none⟩=some (.int .i64 m2)
theorem Bx.of {w:World} {b10 b11:Nat} {dr dp de m0 m1 m2:Int} {t:TypeId} (h:w.heap[b10]? = some (.cells #[.int .i64 dr,.int .i64 dp,.int .i64 de] t (0,0))) (h':w.heap[b11]? = some (.cells #[.int .i64 m0,.int .i64 m1,.int .i64 m2] t (0,0))):Bx w b10 b11 dr dp de m0 m1 m2:=by
 obtain ⟨k0,k1,k2,-⟩:=qT h
 obtain ⟨j0,j1,j2,-⟩:=qT h'
 exact ⟨qD h,qD h',k0,k1,k2,j0,j1,j2⟩
theorem apart_n {n:Nat} (A A':Option Addr) (c c':Nat) (C:List Int) (b:List Bool) (w:World) (h1:C.length=n) (h2:b.length=n) (hn:n<=1000) (hA:IA w A C) (hA':BA w A' b) (hw:∀x∈C,(Lit.int .i64 x).wf=true) (hR:zHh A' c' n) :
 Calls Tryz.prog 77 #[.slice A n c,.slice A' n c'] w λe w'=>e=.returned (.int .i64 (vk (C.zip b)))/\Below w.heap.size w w':=by
 have:=zOo A A' c c' C b w (by omega) (by omega) hA hA' hw (by rw[h2];exact hR)
 rw[h1,h2] at this;exact this
structure Fit (Q:PS) (rd0 pr0 er0 b0 dr dp de t:Int):Prop where
 r:IntKind.i64.wrap (Q.S.rd - rd0)=dr
 p:IntKind.i64.wrap (Q.S.pr - pr0)=dp
 e:IntKind.i64.wrap (Q.S.er - er0)=de
 b:IntKind.i64.wrap (Q.bads - b0)=t
 t0:0<=t
 cost:∀f,(t<=7->f=t)->(7<t->f=7)->dr<=vs Q.B f * Q.P/\dp<=vs Q.B f * Q.P/\de<=vs Q.B f
 good:Q.over=false->Q.floor<=((qK Q.S.bl).length:Int)/\vk (Q.counts.zip (Q.S.bl.map λb:Bk => !b.bad))<=Q.U+1
theorem zCr (h:SC w s c p g vl vf) (hcf:Q.cf=g) {l f:Nat} (hp:Parts w p c l f Q) (ok:Ok Q) (rd0 pr0 er0 b0 dr dp de t:Int) (hF:Fit Q rd0 pr0 er0 b0 dr dp de t) :
 Calls Tryz.prog 42 #[.pointer (some ⟨s,0,none⟩),.agg #[.int .i64 rd0,.int .i64 pr0,.int .i64 er0],.int .i64 b0] w λe w'=>e=.returned (.bool true)/\Below w.heap.size w w':=by
 obtain ⟨ov,hov⟩:∃ov,Q.over=ov:=⟨_,rfl⟩
 obtain ⟨B,P,Sp,K,U,bad⟩:=g
 have eB:Q.B=B:=congrArg Cf.B hcf
 have eP:Q.P=P:=congrArg Cf.P hcf
 have eSp:Q.Sp=Sp:=congrArg Cf.Sp hcf
 have eK:Q.K=K:=congrArg Cf.K hcf
 have eU:Q.U=U:=congrArg Cf.U hcf
 have ebad:Q.bad=bad:=congrArg Cf.bad hcf
 have hmay:=ok.may
 have hbd:=ok.bads
 rw[eB,eP,eSp,eK,eU] at hmay
 obtain ⟨fx,hfx⟩:∃f:Int,f=max 0 (min t 7):=⟨_,rfl⟩
 have hf1:t<=7->fx=t:=λh=>by have:=hF.t0;omega
 have hf2:7<t->fx=7:=λh=>by omega
 have hcost:=hF.cost fx hf1 hf2
 rw[eB,eP] at hcost
 have ht0:=hF.t0
 obtain ⟨N,hN⟩:∃N,N=vs B fx:=⟨_,rfl⟩
 rw[<- hN] at hcost
 have HN:=hI hN
 have HM:=hI hmay
 have HO:=hI ok
 have HPw:=hI hp
 have HSw:=hI h
 have HLn:Hid (Q.S.bl.length<=1000):=hI (by have:=ok.lenN;omega)
 have HB1:Hid (1<=Q.S.bl.length):=hI (by have:=ok.lenN;omega)
 have HW:Hid (IntKind.i64.wrap ((qx Q.S.bl:Int) - bad)=Q.bads):=hI (by rw[<- ebad];exact qp _ (by unfold PS.bads at hbd;omega))
 have HOV:Hid (Q.over=ov/\decide (Sp<Q.bads)=ov):=hI ⟨hov,by rw[<- hov,<- eSp];rfl⟩
 have HBw:Hid ((Lit.int .i64 Q.bads).wf=true):=hI (yg (by omega))
 have HFl:Hid (zAj B P Sp K U Q.bads=Q.floor):=hI (by unfold PS.floor;rw[eB,eP,eSp,eK,eU])
 have HU1:Hid (IntKind.i64.wrap (U+1)=U+1):=hI (qp _ (by have:=hmay.2.2.2.2;omega))
 have HGd0:Hid (ov=false->Q.floor<=((qK Q.S.bl).length:Int)/\vk (Q.counts.zip (Q.S.bl.map λb:Bk => !b.bad))<=U+1):=hI (by rw[<- hov,<- eU];exact hF.good)
 have HcN:Hid (Q.counts.length=Q.S.bl.length):=hI (by simp[PS.counts])
 have HgN:Hid ((Q.S.bl.map λb:Bk => !b.bad).length=Q.S.bl.length):=hI (by simp)
 have HCw:Hid (∀x∈Q.counts,(Lit.int .i64 x).wf=true):=hI λx hx=>by
  obtain ⟨b,hb,rfl⟩:=List.mem_map.1 hx
  exact ok.cnt b hb
 have HQ:Hid (¬(N * P<dr)/\¬(N * P<dp)/\¬(N<de)):=hI ⟨by omega,by omega,by omega⟩
 have wr:=hF.r
 have wp:=hF.p
 have we:=hF.e
 have wb:=hF.b
 have hf0:0<=fx/\fx<=7:=by omega
 have HF:=hI (And.intro hf0 hfx)
 clear hf0 hf1 hf2 hfx
 obtain ⟨V0,hV0⟩:∃V0,V0=w.alloc (.cells #[.int .i64 rd0,.int .i64 pr0,.int .i64 er0] 85):=⟨_,rfl⟩
 have hb0:Below w.heap.size w V0:=by rw[hV0];exact bR.alloc nL _
 have hx0:V0.heap[w.heap.size]? = some (.cells #[.int .i64 rd0,.int .i64 pr0,.int .i64 er0] 85 (0,0)):=by rw[hV0];exact heap_alloc_new _ _
 have HV0:=hI hV0
 have HB0:=hI hb0
 have HX0:=hI hx0
 have c0:=(HSw.out.below hb0).c0
 clear h hcf hp ok hF hbd hcost hN hmay hov hb0 hV0
 clear hx0
 go_enter Tryz.func42,Tryz.ntmps42
 go_upto_region 1 with fail
 rw[<- HV0.out]
 go_upto_region 2 with (go_at_call 21;(with_reducible refine (vR (HPw.out.below HB0.out).chip HB1.out).mono ?_);rintro e w2 ⟨gb,cap,rfl,hl1,hb2⟩;have HL1:=hI hl1;have HB2:Hid (Below w.heap.size w w2):=hI (HB0.out.trans (hb2.mono HB0.out.size));have HX2:=hI ((hb2.block w.heap.size (by have:=qD HX0.out;omega)).trans HX0.out);clear hl1 hb2 c0)
 have HS:=hI (HSw.out.below HB2.out)
 refine qR (λj v w'=>match j with | 0=>v=.slice (some ⟨gb,0,none⟩) Q.S.bl.length cap | 1=>v=.int .i64 (qx Q.S.bl:Int) | 2=>v=.pointer (some ⟨s,0,none⟩) | 3=>v=.pointer (some ⟨s,0,none⟩) | 4=>v=.pointer (some ⟨s,7,none⟩) | 5=>v=.int .i64 bad | 6=>v=.int .i64 Q.bads | 7=>v=.int .i64 Q.bads | _=>True) (λ_ w'=>Below w2.heap.size w2 w') (λw1 w2=>Below w1.heap.size w1 w2) (by kernel_rfl) (by kernel_rfl) (by kernel_rfl) ?hR ?hG ?hops ?hend
 case hR =>
  intro j v w1 w2 hv hb
  match j,hv with
  | 0,hv | 1,hv | 2,hv | 3,hv | 4,hv | 5,hv | 6,hv | 7,hv=>exact hv
  | _+8,_=>exact trivial
 case hG=>exact bR.drew
 case hops =>
  refine oC ?_ (oC ?_ (oC ?_ (oC ?_ (oC ?_ (oC ?_ (oC ?_ (oC ?_ OpsOkS.nil)))))))
  . intro a w1 ξ γ ν ω ζ ψ κ
    have e0:=og (v:=.slice (some ⟨gb,0,none⟩) Q.S.bl.length cap) (ω 7 (by kernel_rfl))
    refine qB (v:=.slice (some ⟨gb,0,none⟩) Q.S.bl.length cap) (qA rfl) ?_ (κ _ w1 rfl γ bR)
    simp[execOp,go_sem,e0]
  . intro a w1 ξ γ ν ω ζ ψ κ
    have e0:=og (v:=.slice (some ⟨gb,0,none⟩) Q.S.bl.length cap) (ν 0 (by kernel_rfl) (by kernel_rfl))
    refine qM (qA rfl) (f:=36) (args:=#[.slice (some ⟨gb,0,none⟩) Q.S.bl.length cap]) ?run ((zQw (some ⟨gb,0,none⟩) cap Q.S.bl w1 HLn.out (HL1.out.below γ)).mono ?post)
    case run=>simp[go_sem,e0]
    case post =>
     rintro e w2 ⟨rfl,hb2⟩
     exact ⟨_,rfl,κ _ w2 rfl (γ.trans (hb2.mono γ.size)) hb2⟩
  . intro a w1 ξ γ ν ω ζ ψ κ
    have e0:=og (v:=.pointer (some ⟨s,0,none⟩)) (ω 0 (by kernel_rfl))
    refine qB (v:=.pointer (some ⟨s,0,none⟩)) (qA rfl) ?_ (κ _ w1 rfl γ bR)
    simp[execOp,go_sem,e0]
  . intro a w1 ξ γ ν ω ζ ψ κ
    have e0:=og (v:=.pointer (some ⟨s,0,none⟩)) (ν 2 (by kernel_rfl) (by kernel_rfl))
    refine qB (v:=.pointer (some ⟨s,0,none⟩)) (qA rfl) ?_ (κ _ w1 rfl γ bR)
    simp[execOp,go_sem,e0]
  . intro a w1 ξ γ ν ω ζ ψ κ
    have e0:=og (v:=.pointer (some ⟨s,0,none⟩)) (ν 3 (by kernel_rfl) (by kernel_rfl))
    refine qB (v:=.pointer (some ⟨s,7,none⟩)) (qA rfl) ?_ (κ _ w1 rfl γ bR)
    simp[execOp,go_sem,e0]
  . intro a w1 ξ γ ν ω ζ ψ κ
    have e0:=og (v:=.pointer (some ⟨s,7,none⟩)) (ν 4 (by kernel_rfl) (by kernel_rfl))
    have k0:=(HS.out.below γ).c7
    refine qB (v:=.int .i64 bad) (qA rfl) ?_ (κ _ w1 rfl γ bR)
    simp[execOp,go_sem,e0,k0]
  . intro a w1 ξ γ ν ω ζ ψ κ
    have e0:=og (v:=.int .i64 (qx Q.S.bl:Int)) (ν 1 (by kernel_rfl) (by kernel_rfl))
    have e1:=og (v:=.int .i64 bad) (ν 5 (by kernel_rfl) (by kernel_rfl))
    refine qB (v:=.int .i64 Q.bads) (qA rfl) ?_ (κ _ w1 rfl γ bR)
    simp[execOp,go_sem,e0,e1,HW.out]
  . intro a w1 ξ γ ν ω ζ ψ κ
    have e0:=og (v:=.int .i64 Q.bads) (ν 6 (by kernel_rfl) (by kernel_rfl))
    refine qB (v:=.int .i64 Q.bads) (qA rfl) ?_ (κ _ w1 rfl γ bR)
    simp[execOp,go_sem,e0]
 case hend =>
  intro a w6 hG hde hsz hφ hold
  obtain rfl:=qy [(17,.slice (some ⟨gb,0,none⟩) Q.S.bl.length cap),(18,.int .i64 (qx Q.S.bl:Int)),(19,.pointer (some ⟨s,0,none⟩)),(20,.pointer (some ⟨s,0,none⟩)),(21,.pointer (some ⟨s,7,none⟩)),(22,.int .i64 bad),(23,.int .i64 Q.bads),(8,.int .i64 Q.bads)] [17,18,19,20,21,22,23,8] rfl (by kernel_rfl) (by kernel_rfl) hde hsz (fC ⟨(show a.tmps.getD 17 undef=.slice (some ⟨gb,0,none⟩) Q.S.bl.length cap from (hφ 0 (by kernel_rfl))),(fC ⟨(show a.tmps.getD 18 undef=.int .i64 (qx Q.S.bl:Int) from (hφ 1 (by kernel_rfl))),(fC ⟨(show a.tmps.getD 19 undef=.pointer (some ⟨s,0,none⟩) from (hφ 2 (by kernel_rfl))),(fC ⟨(show a.tmps.getD 20 undef=.pointer (some ⟨s,0,none⟩) from (hφ 3 (by kernel_rfl))),(fC ⟨(show a.tmps.getD 21 undef=.pointer (some ⟨s,7,none⟩) from (hφ 4 (by kernel_rfl))),(fC ⟨(show a.tmps.getD 22 undef=.int .i64 bad from (hφ 5 (by kernel_rfl))),(fC ⟨(show a.tmps.getD 23 undef=.int .i64 Q.bads from (hφ 6 (by kernel_rfl))),(fC ⟨(show a.tmps.getD 8 undef=.int .i64 Q.bads from (hφ 7 (by kernel_rfl))),(λ_ h=>absurd h (by simp))⟩)⟩)⟩)⟩)⟩)⟩)⟩)⟩) hold
  clear hφ hold hsz hde
  simp only[qd]
  go_frame
  have HB3:Hid (Below w.heap.size w w6):=hI (HB2.out.trans (hG.mono HB2.out.size))
  have HX3:=hI ((hG.block w.heap.size (by have:=qD HX2.out;omega)).trans HX2.out)
  have HL3:=hI (HL1.out.below hG)
  clear HL1 hG
  clear HB2 HX2
  obtain ⟨w3,hw3⟩:∃w3,w3=w6:=⟨_,rfl⟩
  subst hw3
  have c0:=(HSw.out.below HB3.out).c0
  obtain ⟨x0,x1,x2,-⟩:=qT HX3.out
  go_upto_region 4 with (go_at_call 40;(with_reducible refine (zNv (HPw.out.below HB3.out).chip).mono ?_);rintro e w4 ⟨rfl,hb4⟩;have HB4:Hid (Below w.heap.size w w4):=hI (HB3.out.trans (hb4.mono HB3.out.size));have HX4:=hI ((hb4.block w.heap.size (by have:=qD HX3.out;omega)).trans HX3.out);have HL4:=hI (HL3.out.below hb4);clear hb4 c0 x0 x1 x2)
  obtain ⟨x0,x1,x2,-⟩:=qT HX4.out
  have hk4:=HSw.out.below HB4.out
  have c2:w4.cell? ⟨s,2,none⟩=some (.int .i64 B):=hk4.c2
  have c3:w4.cell? ⟨s,3,none⟩=some (.int .i64 P):=hk4.c3
  have c4:w4.cell? ⟨s,4,none⟩=some (.int .i64 Sp):=hk4.c4
  have c5:w4.cell? ⟨s,5,none⟩=some (.int .i64 K):=hk4.c5
  have c6:w4.cell? ⟨s,6,none⟩=some (.int .i64 U):=hk4.c6
  clear hk4
  obtain ⟨V5,hV5⟩:∃V5,V5=(w4.alloc (.cells #[.int .i64 Q.S.rd,.int .i64 Q.S.pr,.int .i64 Q.S.er] 85)).alloc (.cells #[.int .i64 dr,.int .i64 dp,.int .i64 de] 85):=⟨_,rfl⟩
  have hz5:V5.heap.size=w4.heap.size+1+1:=by rw[hV5];simp
  have hb5:Below w4.heap.size w4 V5:=by rw[hV5];exact (bR.alloc nL _).alloc (by simp) _
  have hx5:V5.heap[w4.heap.size+1]? = some (.cells #[.int .i64 dr,.int .i64 dp,.int .i64 de] 85 (0,0)):=by
   rw[hV5]
   have:=heap_alloc_new (w4.alloc (.cells #[.int .i64 Q.S.rd,.int .i64 Q.S.pr,.int .i64 Q.S.er] 85)) (.cells #[.int .i64 dr,.int .i64 dp,.int .i64 de] 85)
   simpa using this
  have HV5:=hI hV5
  have HB5:Hid (Below w.heap.size w V5):=hI (HB4.out.trans (hb5.mono HB4.out.size))
  have HX5:=hI hx5
  have HZ5:=hI hz5
  have HL5:=hI (HL4.out.below hb5)
  have hlt4:w.heap.size<w4.heap.size:=qD HX4.out
  have hlts:s<w4.heap.size:=Nat.lt_of_lt_of_le HSw.out.lt HB4.out.size
  clear hV5 hz5 hb5 hx5
  go_upto_region 5 with fail
  rw[<- HV5.out]
  clear x0 x1 x2 c2 c3 c4 c5 c6
  have hk5:=HSw.out.below HB5.out
  have c2:V5.cell? ⟨s,2,none⟩=some (.int .i64 B):=hk5.c2
  have c3:V5.cell? ⟨s,3,none⟩=some (.int .i64 P):=hk5.c3
  have c4:V5.cell? ⟨s,4,none⟩=some (.int .i64 Sp):=hk5.c4
  have c5:V5.cell? ⟨s,5,none⟩=some (.int .i64 K):=hk5.c5
  have c6:V5.cell? ⟨s,6,none⟩=some (.int .i64 U):=hk5.c6
  clear hk5
  have HQ0:=HQ
  clear HQ
  go_upto_region 6 with (go_at_call 74;rw[<- HF.out.2];(with_reducible refine (zXr B P Sp K U fx _ HM.out HF.out.1).mono ?_);rintro e w7 ⟨rfl,hb7⟩;have HB7:Hid (Below w.heap.size w w7):=hI (HB5.out.trans (hb7.mono HB5.out.size));have HX7:=hI ((hb7.block (w4.heap.size+1) (by have:=HZ5.out;omega)).trans HX5.out);have HL7:=hI (HL5.out.below hb7);clear hb7 c2 c3 c4 c5 c6;rw[<- HN.out])
  obtain ⟨V7,hV7⟩:∃V7,V7=w7.alloc (.cells #[.int .i64 (N * P),.int .i64 (N * P),.int .i64 N] 85):=⟨_,rfl⟩
  have hb7:Below w7.heap.size w7 V7:=by rw[hV7];exact bR.alloc nL _
  have HX:Hid (Bx V7 (w4.heap.size+1) w7.heap.size dr dp de (N * P) (N * P) N):=hI (.of ((hb7.block _ (qD HX7.out)).trans HX7.out) (by rw[hV7];exact heap_alloc_new _ _))
  have HBV:Hid (Below w.heap.size w V7):=hI (HB7.out.trans (hb7.mono HB7.out.size))
  have HLV:=hI (HL7.out.below hb7)
  have HS:=hI (HSw.out.below HBV.out)
  have HP:=hI (HPw.out.below HBV.out)
  rw[<- hV7]
  clear hV7 hb7
  have HQ:=HQ0
  obtain ⟨b10,hb10⟩:∃b,b=w4.heap.size+1:=⟨_,rfl⟩
  obtain ⟨b11,hb11⟩:∃b,b=w7.heap.size:=⟨_,rfl⟩
  rw[<- hb10,<- hb11] at HX ⊢
  clear hb10 hb11
  refine qR (λj v w'=>match j with | 0=>v=.pointer (some ⟨b10,0,none⟩) | 1=>v=.int .i64 dr | 2=>v=.pointer (some ⟨b11,0,none⟩) | 3=>v=.int .i64 (N * P) | 4=>v=.bool false | 5=>v=.bool false | 6=>v=.pointer (some ⟨b10,1,none⟩) | 7=>v=.int .i64 dp | 8=>v=.pointer (some ⟨b11,1,none⟩) | 9=>v=.int .i64 (N * P) | 10=>v=.bool false | 11=>v=.bool false | 12=>v=.bool false | 13=>v=.pointer (some ⟨b10,2,none⟩) | 14=>v=.int .i64 de | 15=>v=.pointer (some ⟨b11,2,none⟩) | 16=>v=.int .i64 N | 17=>v=.bool false | 18=>v=.bool false | 19=>v=.bool false | 20=>v=.pointer (some ⟨s,0,none⟩) | 21=>v=.pointer (some ⟨s,0,none⟩) | 22=>v=.pointer (some ⟨s,1,none⟩) | 23=>v=.pointer (some ⟨p,0,none⟩) | 24=>v=.int .i64 Q.bads | 25=>v=.int .i64 Q.bads | 26=>v=.bool false | 27=>v=.bool false | 28=>v=.bool false | 29=>v=.pointer (some ⟨s,0,none⟩) | 30=>v=.pointer (some ⟨s,0,none⟩) | 31=>v=.pointer (some ⟨s,1,none⟩) | 32=>v=.pointer (some ⟨p,0,none⟩) | 33=>v=.bool ov | 34=>v=.int .i64 Q.bads | 35=>v=.pointer (some ⟨s,0,none⟩) | 36=>v=.pointer (some ⟨s,0,none⟩) | 37=>v=.pointer (some ⟨s,2,none⟩) | 38=>v=.pointer (some ⟨s,4,none⟩) | 39=>v=.int .i64 Sp | 40=>v=.bool ov | 41=>v=.bool false | 42=>v=.bool false | _=>True) (λ_ w'=>Below V7.heap.size V7 w') (λw1 w2=>Below w1.heap.size w1 w2) (by kernel_rfl) (by kernel_rfl) (by kernel_rfl) ?hR ?hG ?hops ?hend
  case hR =>
   intro j v w1 w2 hv hb
   match j,hv with
   | 0,hv | 1,hv | 2,hv | 3,hv | 4,hv | 5,hv | 6,hv | 7,hv | 8,hv | 9,hv | 10,hv | 11,hv | 12,hv | 13,hv | 14,hv | 15,hv | 16,hv | 17,hv | 18,hv | 19,hv | 20,hv | 21,hv | 22,hv | 23,hv | 24,hv | 25,hv | 26,hv | 27,hv | 28,hv | 29,hv | 30,hv | 31,hv | 32,hv | 33,hv | 34,hv | 35,hv | 36,hv | 37,hv | 38,hv | 39,hv | 40,hv | 41,hv | 42,hv=>exact hv
   | _+43,_=>exact trivial
  case hG=>exact bR.drew
  case hops =>
   refine oC ?_ (oC ?_ (oC ?_ (oC ?_ (oC ?_ (oC ?_ (oC ?_ (oC ?_ (oC ?_ (oC ?_ (oC ?_ (oC ?_ (oC ?_ (oC ?_ (oC ?_ (oC ?_ (oC ?_ (oC ?_ (oC ?_ (oC ?_ (oC ?_ (oC ?_ (oC ?_ (oC ?_ (oC ?_ (oC ?_ (oC ?_ (oC ?_ (oC ?_ (oC ?_ (oC ?_ (oC ?_ (oC ?_ (oC ?_ (oC ?_ (oC ?_ (oC ?_ (oC ?_ (oC ?_ (oC ?_ (oC ?_ (oC ?_ (oC ?_ OpsOkS.nil))))))))))))))))))))))))))))))))))))))))))
   . intro a w1 ξ γ ν ω ζ ψ κ
     have e0:=og (v:=.pointer (some ⟨b10,0,none⟩)) (ω 10 (by kernel_rfl))
     refine qB (v:=.pointer (some ⟨b10,0,none⟩)) (qA rfl) ?_ (κ _ w1 rfl γ bR)
     simp[execOp,go_sem,e0]
   . intro a w1 ξ γ ν ω ζ ψ κ
     have e0:=og (v:=.pointer (some ⟨b10,0,none⟩)) (ν 0 (by kernel_rfl) (by kernel_rfl))
     have k0:=(γ.cell (p:=⟨b10,0,none⟩) HX.out.lt_b10).trans HX.out.b10_0
     refine qB (v:=.int .i64 dr) (qA rfl) ?_ (κ _ w1 rfl γ bR)
     simp[execOp,go_sem,e0,k0]
   . intro a w1 ξ γ ν ω ζ ψ κ
     have e0:=og (v:=.pointer (some ⟨b11,0,none⟩)) (ω 11 (by kernel_rfl))
     refine qB (v:=.pointer (some ⟨b11,0,none⟩)) (qA rfl) ?_ (κ _ w1 rfl γ bR)
     simp[execOp,go_sem,e0]
   . intro a w1 ξ γ ν ω ζ ψ κ
     have e0:=og (v:=.pointer (some ⟨b11,0,none⟩)) (ν 2 (by kernel_rfl) (by kernel_rfl))
     have k0:=(γ.cell (p:=⟨b11,0,none⟩) HX.out.lt_b11).trans HX.out.b11_0
     refine qB (v:=.int .i64 (N * P)) (qA rfl) ?_ (κ _ w1 rfl γ bR)
     simp[execOp,go_sem,e0,k0]
   . intro a w1 ξ γ ν ω ζ ψ κ
     have e0:=og (v:=.int .i64 dr) (ν 1 (by kernel_rfl) (by kernel_rfl))
     have e1:=og (v:=.int .i64 (N * P)) (ν 3 (by kernel_rfl) (by kernel_rfl))
     refine qB (v:=.bool false) (qA rfl) ?_ (κ _ w1 rfl γ bR)
     simp[execOp,go_sem,e0,e1,HQ.out.1]
   . intro a w1 ξ γ ν ω ζ ψ κ
     have e0:=og (v:=.bool false) (ν 4 (by kernel_rfl) (by kernel_rfl))
     refine qB (v:=.bool false) (qA rfl) ?_ (κ _ w1 rfl γ bR)
     simp[execOp,go_sem,e0]
   . intro a w1 ξ γ ν ω ζ ψ κ
     have e0:=og (v:=.pointer (some ⟨b10,0,none⟩)) (ω 10 (by kernel_rfl))
     refine qB (v:=.pointer (some ⟨b10,1,none⟩)) (qE (j:=5) rfl (ν 5 (by kernel_rfl) (by kernel_rfl))) ?_ (κ _ w1 rfl γ bR)
     simp[execOp,go_sem,e0]
   . intro a w1 ξ γ ν ω ζ ψ κ
     have e0:=og (v:=.pointer (some ⟨b10,1,none⟩)) (ν 6 (by kernel_rfl) (by kernel_rfl))
     have k0:=(γ.cell (p:=⟨b10,1,none⟩) HX.out.lt_b10).trans HX.out.b10_1
     refine qB (v:=.int .i64 dp) (qE (j:=5) rfl (ν 5 (by kernel_rfl) (by kernel_rfl))) ?_ (κ _ w1 rfl γ bR)
     simp[execOp,go_sem,e0,k0]
   . intro a w1 ξ γ ν ω ζ ψ κ
     have e0:=og (v:=.pointer (some ⟨b11,0,none⟩)) (ω 11 (by kernel_rfl))
     refine qB (v:=.pointer (some ⟨b11,1,none⟩)) (qE (j:=5) rfl (ν 5 (by kernel_rfl) (by kernel_rfl))) ?_ (κ _ w1 rfl γ bR)
     simp[execOp,go_sem,e0]
   . intro a w1 ξ γ ν ω ζ ψ κ
     have e0:=og (v:=.pointer (some ⟨b11,1,none⟩)) (ν 8 (by kernel_rfl) (by kernel_rfl))
     have k0:=(γ.cell (p:=⟨b11,1,none⟩) HX.out.lt_b11).trans HX.out.b11_1
     refine qB (v:=.int .i64 (N * P)) (qE (j:=5) rfl (ν 5 (by kernel_rfl) (by kernel_rfl))) ?_ (κ _ w1 rfl γ bR)
     simp[execOp,go_sem,e0,k0]
   . intro a w1 ξ γ ν ω ζ ψ κ
     have e0:=og (v:=.int .i64 dp) (ν 7 (by kernel_rfl) (by kernel_rfl))
     have e1:=og (v:=.int .i64 (N * P)) (ν 9 (by kernel_rfl) (by kernel_rfl))
     refine qB (v:=.bool false) (qE (j:=5) rfl (ν 5 (by kernel_rfl) (by kernel_rfl))) ?_ (κ _ w1 rfl γ bR)
     simp[execOp,go_sem,e0,e1,HQ.out.2.1]
   . intro a w1 ξ γ ν ω ζ ψ κ
     have e0:=og (v:=.bool false) (ν 5 (by kernel_rfl) (by kernel_rfl))
     have e1:=og (v:=.bool false) (ν 10 (by kernel_rfl) (by kernel_rfl))
     refine qB (v:=.bool false) (qA rfl) ?_ (κ _ w1 rfl γ bR)
     simp[execOp,go_sem,asBool,e0,e1]
   . intro a w1 ξ γ ν ω ζ ψ κ
     have e0:=og (v:=.bool false) (ν 11 (by kernel_rfl) (by kernel_rfl))
     refine qB (v:=.bool false) (qA rfl) ?_ (κ _ w1 rfl γ bR)
     simp[execOp,go_sem,e0]
   . intro a w1 ξ γ ν ω ζ ψ κ
     have e0:=og (v:=.pointer (some ⟨b10,0,none⟩)) (ω 10 (by kernel_rfl))
     refine qB (v:=.pointer (some ⟨b10,2,none⟩)) (qE (j:=12) rfl (ν 12 (by kernel_rfl) (by kernel_rfl))) ?_ (κ _ w1 rfl γ bR)
     simp[execOp,go_sem,e0]
   . intro a w1 ξ γ ν ω ζ ψ κ
     have e0:=og (v:=.pointer (some ⟨b10,2,none⟩)) (ν 13 (by kernel_rfl) (by kernel_rfl))
     have k0:=(γ.cell (p:=⟨b10,2,none⟩) HX.out.lt_b10).trans HX.out.b10_2
     refine qB (v:=.int .i64 de) (qE (j:=12) rfl (ν 12 (by kernel_rfl) (by kernel_rfl))) ?_ (κ _ w1 rfl γ bR)
     simp[execOp,go_sem,e0,k0]
   . intro a w1 ξ γ ν ω ζ ψ κ
     have e0:=og (v:=.pointer (some ⟨b11,0,none⟩)) (ω 11 (by kernel_rfl))
     refine qB (v:=.pointer (some ⟨b11,2,none⟩)) (qE (j:=12) rfl (ν 12 (by kernel_rfl) (by kernel_rfl))) ?_ (κ _ w1 rfl γ bR)
     simp[execOp,go_sem,e0]
   . intro a w1 ξ γ ν ω ζ ψ κ
     have e0:=og (v:=.pointer (some ⟨b11,2,none⟩)) (ν 15 (by kernel_rfl) (by kernel_rfl))
     have k0:=(γ.cell (p:=⟨b11,2,none⟩) HX.out.lt_b11).trans HX.out.b11_2
     refine qB (v:=.int .i64 N) (qE (j:=12) rfl (ν 12 (by kernel_rfl) (by kernel_rfl))) ?_ (κ _ w1 rfl γ bR)
     simp[execOp,go_sem,e0,k0]
   . intro a w1 ξ γ ν ω ζ ψ κ
     have e0:=og (v:=.int .i64 de) (ν 14 (by kernel_rfl) (by kernel_rfl))
     have e1:=og (v:=.int .i64 N) (ν 16 (by kernel_rfl) (by kernel_rfl))
     refine qB (v:=.bool false) (qE (j:=12) rfl (ν 12 (by kernel_rfl) (by kernel_rfl))) ?_ (κ _ w1 rfl γ bR)
     simp[execOp,go_sem,e0,e1,HQ.out.2.2]
   . intro a w1 ξ γ ν ω ζ ψ κ
     have e0:=og (v:=.bool false) (ν 12 (by kernel_rfl) (by kernel_rfl))
     have e1:=og (v:=.bool false) (ν 17 (by kernel_rfl) (by kernel_rfl))
     refine qB (v:=.bool false) (qA rfl) ?_ (κ _ w1 rfl γ bR)
     simp[execOp,go_sem,asBool,e0,e1]
   . intro a w1 ξ γ ν ω ζ ψ κ
     have e0:=og (v:=.bool false) (ν 18 (by kernel_rfl) (by kernel_rfl))
     refine qB (v:=.bool false) (qA rfl) ?_ (κ _ w1 rfl γ bR)
     simp[execOp,go_sem,e0]
   . intro a w1 ξ γ ν ω ζ ψ κ
     have e0:=og (v:=.pointer (some ⟨s,0,none⟩)) (ω 0 (by kernel_rfl))
     refine qB (v:=.pointer (some ⟨s,0,none⟩)) (qE (j:=19) rfl (ν 19 (by kernel_rfl) (by kernel_rfl))) ?_ (κ _ w1 rfl γ bR)
     simp[execOp,go_sem,e0]
   . intro a w1 ξ γ ν ω ζ ψ κ
     have e0:=og (v:=.pointer (some ⟨s,0,none⟩)) (ν 20 (by kernel_rfl) (by kernel_rfl))
     refine qB (v:=.pointer (some ⟨s,0,none⟩)) (qE (j:=19) rfl (ν 19 (by kernel_rfl) (by kernel_rfl))) ?_ (κ _ w1 rfl γ bR)
     simp[execOp,go_sem,e0]
   . intro a w1 ξ γ ν ω ζ ψ κ
     have e0:=og (v:=.pointer (some ⟨s,0,none⟩)) (ν 21 (by kernel_rfl) (by kernel_rfl))
     refine qB (v:=.pointer (some ⟨s,1,none⟩)) (qE (j:=19) rfl (ν 19 (by kernel_rfl) (by kernel_rfl))) ?_ (κ _ w1 rfl γ bR)
     simp[execOp,go_sem,e0]
   . intro a w1 ξ γ ν ω ζ ψ κ
     have e0:=og (v:=.pointer (some ⟨s,1,none⟩)) (ν 22 (by kernel_rfl) (by kernel_rfl))
     have k0:=(HS.out.below γ).c1
     refine qB (v:=.pointer (some ⟨p,0,none⟩)) (qE (j:=19) rfl (ν 19 (by kernel_rfl) (by kernel_rfl))) ?_ (κ _ w1 rfl γ bR)
     simp[execOp,go_sem,e0,k0]
   . intro a w1 ξ γ ν ω ζ ψ κ
     have e0:=og (v:=.pointer (some ⟨p,0,none⟩)) (ν 23 (by kernel_rfl) (by kernel_rfl))
     refine qM (qE (j:=19) rfl (ν 19 (by kernel_rfl) (by kernel_rfl))) (f:=32) (args:=#[.pointer (some ⟨p,0,none⟩)]) ?run ((zMm (HP.out.below γ) HO.out).mono ?post)
     case run=>simp[go_sem,e0]
     case post =>
      rintro e w2 ⟨rfl,hb2⟩
      exact ⟨_,rfl,κ _ w2 rfl (γ.trans (hb2.mono γ.size)) hb2⟩
   . intro a w1 ξ γ ν ω ζ ψ κ
     have e0:=og (v:=.int .i64 Q.bads) (ω 8 (by kernel_rfl))
     refine qB (v:=.int .i64 Q.bads) (qE (j:=19) rfl (ν 19 (by kernel_rfl) (by kernel_rfl))) ?_ (κ _ w1 rfl γ bR)
     simp[execOp,go_sem,e0]
   . intro a w1 ξ γ ν ω ζ ψ κ
     have e0:=og (v:=.int .i64 Q.bads) (ν 24 (by kernel_rfl) (by kernel_rfl))
     have e1:=og (v:=.int .i64 Q.bads) (ν 25 (by kernel_rfl) (by kernel_rfl))
     refine qB (v:=.bool false) (qE (j:=19) rfl (ν 19 (by kernel_rfl) (by kernel_rfl))) ?_ (κ _ w1 rfl γ bR)
     simp[execOp,go_sem,e0,e1]
   . intro a w1 ξ γ ν ω ζ ψ κ
     have e0:=og (v:=.bool false) (ν 19 (by kernel_rfl) (by kernel_rfl))
     have e1:=og (v:=.bool false) (ν 26 (by kernel_rfl) (by kernel_rfl))
     refine qB (v:=.bool false) (qA rfl) ?_ (κ _ w1 rfl γ bR)
     simp[execOp,go_sem,asBool,e0,e1]
   . intro a w1 ξ γ ν ω ζ ψ κ
     have e0:=og (v:=.bool false) (ν 27 (by kernel_rfl) (by kernel_rfl))
     refine qB (v:=.bool false) (qA rfl) ?_ (κ _ w1 rfl γ bR)
     simp[execOp,go_sem,e0]
   . intro a w1 ξ γ ν ω ζ ψ κ
     have e0:=og (v:=.pointer (some ⟨s,0,none⟩)) (ω 0 (by kernel_rfl))
     refine qB (v:=.pointer (some ⟨s,0,none⟩)) (qE (j:=28) rfl (ν 28 (by kernel_rfl) (by kernel_rfl))) ?_ (κ _ w1 rfl γ bR)
     simp[execOp,go_sem,e0]
   . intro a w1 ξ γ ν ω ζ ψ κ
     have e0:=og (v:=.pointer (some ⟨s,0,none⟩)) (ν 29 (by kernel_rfl) (by kernel_rfl))
     refine qB (v:=.pointer (some ⟨s,0,none⟩)) (qE (j:=28) rfl (ν 28 (by kernel_rfl) (by kernel_rfl))) ?_ (κ _ w1 rfl γ bR)
     simp[execOp,go_sem,e0]
   . intro a w1 ξ γ ν ω ζ ψ κ
     have e0:=og (v:=.pointer (some ⟨s,0,none⟩)) (ν 30 (by kernel_rfl) (by kernel_rfl))
     refine qB (v:=.pointer (some ⟨s,1,none⟩)) (qE (j:=28) rfl (ν 28 (by kernel_rfl) (by kernel_rfl))) ?_ (κ _ w1 rfl γ bR)
     simp[execOp,go_sem,e0]
   . intro a w1 ξ γ ν ω ζ ψ κ
     have e0:=og (v:=.pointer (some ⟨s,1,none⟩)) (ν 31 (by kernel_rfl) (by kernel_rfl))
     have k0:=(HS.out.below γ).c1
     refine qB (v:=.pointer (some ⟨p,0,none⟩)) (qE (j:=28) rfl (ν 28 (by kernel_rfl) (by kernel_rfl))) ?_ (κ _ w1 rfl γ bR)
     simp[execOp,go_sem,e0,k0]
   . intro a w1 ξ γ ν ω ζ ψ κ
     have e0:=og (v:=.pointer (some ⟨p,0,none⟩)) (ν 32 (by kernel_rfl) (by kernel_rfl))
     refine qM (qE (j:=28) rfl (ν 28 (by kernel_rfl) (by kernel_rfl))) (f:=33) (args:=#[.pointer (some ⟨p,0,none⟩)]) ?run ((zAb (HP.out.below γ) HO.out).mono ?post)
     case run=>simp[go_sem,e0]
     case post =>
      rintro e w2 ⟨rfl,hb2⟩
      have ho1:=HOV.out.1
      rw[ho1]
      exact ⟨_,rfl,κ _ w2 rfl (γ.trans (hb2.mono γ.size)) hb2⟩
   . intro a w1 ξ γ ν ω ζ ψ κ
     have e0:=og (v:=.int .i64 Q.bads) (ω 8 (by kernel_rfl))
     refine qB (v:=.int .i64 Q.bads) (qE (j:=28) rfl (ν 28 (by kernel_rfl) (by kernel_rfl))) ?_ (κ _ w1 rfl γ bR)
     simp[execOp,go_sem,e0]
   . intro a w1 ξ γ ν ω ζ ψ κ
     have e0:=og (v:=.pointer (some ⟨s,0,none⟩)) (ω 0 (by kernel_rfl))
     refine qB (v:=.pointer (some ⟨s,0,none⟩)) (qE (j:=28) rfl (ν 28 (by kernel_rfl) (by kernel_rfl))) ?_ (κ _ w1 rfl γ bR)
     simp[execOp,go_sem,e0]
   . intro a w1 ξ γ ν ω ζ ψ κ
     have e0:=og (v:=.pointer (some ⟨s,0,none⟩)) (ν 35 (by kernel_rfl) (by kernel_rfl))
     refine qB (v:=.pointer (some ⟨s,0,none⟩)) (qE (j:=28) rfl (ν 28 (by kernel_rfl) (by kernel_rfl))) ?_ (κ _ w1 rfl γ bR)
     simp[execOp,go_sem,e0]
   . intro a w1 ξ γ ν ω ζ ψ κ
     have e0:=og (v:=.pointer (some ⟨s,0,none⟩)) (ν 36 (by kernel_rfl) (by kernel_rfl))
     refine qB (v:=.pointer (some ⟨s,2,none⟩)) (qE (j:=28) rfl (ν 28 (by kernel_rfl) (by kernel_rfl))) ?_ (κ _ w1 rfl γ bR)
     simp[execOp,go_sem,e0]
   . intro a w1 ξ γ ν ω ζ ψ κ
     have e0:=og (v:=.pointer (some ⟨s,2,none⟩)) (ν 37 (by kernel_rfl) (by kernel_rfl))
     refine qB (v:=.pointer (some ⟨s,4,none⟩)) (qE (j:=28) rfl (ν 28 (by kernel_rfl) (by kernel_rfl))) ?_ (κ _ w1 rfl γ bR)
     simp[execOp,go_sem,e0]
   . intro a w1 ξ γ ν ω ζ ψ κ
     have e0:=og (v:=.pointer (some ⟨s,4,none⟩)) (ν 38 (by kernel_rfl) (by kernel_rfl))
     have k0:=(HS.out.below γ).c4
     refine qB (v:=.int .i64 Sp) (qE (j:=28) rfl (ν 28 (by kernel_rfl) (by kernel_rfl))) ?_ (κ _ w1 rfl γ bR)
     simp[execOp,go_sem,e0,k0]
   . intro a w1 ξ γ ν ω ζ ψ κ
     have e0:=og (v:=.int .i64 Q.bads) (ν 34 (by kernel_rfl) (by kernel_rfl))
     have e1:=og (v:=.int .i64 Sp) (ν 39 (by kernel_rfl) (by kernel_rfl))
     refine qB (v:=.bool ov) (qE (j:=28) rfl (ν 28 (by kernel_rfl) (by kernel_rfl))) ?_ (κ _ w1 rfl γ bR)
     simp[execOp,go_sem,e0,e1,HOV.out.2]
   . intro a w1 ξ γ ν ω ζ ψ κ
     have e0:=og (v:=.bool ov) (ν 33 (by kernel_rfl) (by kernel_rfl))
     have e1:=og (v:=.bool ov) (ν 40 (by kernel_rfl) (by kernel_rfl))
     refine qB (v:=.bool false) (qE (j:=28) rfl (ν 28 (by kernel_rfl) (by kernel_rfl))) ?_ (κ _ w1 rfl γ bR)
     cases ov<;>simp[execOp,go_sem,e0,e1]
   . intro a w1 ξ γ ν ω ζ ψ κ
     have e0:=og (v:=.bool false) (ν 28 (by kernel_rfl) (by kernel_rfl))
     have e1:=og (v:=.bool false) (ν 41 (by kernel_rfl) (by kernel_rfl))
     refine qB (v:=.bool false) (qA rfl) ?_ (κ _ w1 rfl γ bR)
     simp[execOp,go_sem,asBool,e0,e1]
  case hend =>
   intro a w6 hG hde hsz hφ hold
   obtain rfl:=qy [(55,.pointer (some ⟨b10,0,none⟩)),(56,.int .i64 dr),(57,.pointer (some ⟨b11,0,none⟩)),(58,.int .i64 (N * P)),(59,.bool false),(60,.bool false),(61,.pointer (some ⟨b10,1,none⟩)),(62,.int .i64 dp),(63,.pointer (some ⟨b11,1,none⟩)),(64,.int .i64 (N * P)),(65,.bool false),(66,.bool false),(67,.bool false),(68,.pointer (some ⟨b10,2,none⟩)),(69,.int .i64 de),(70,.pointer (some ⟨b11,2,none⟩)),(71,.int .i64 N),(72,.bool false),(73,.bool false),(74,.bool false),(75,.pointer (some ⟨s,0,none⟩)),(76,.pointer (some ⟨s,0,none⟩)),(77,.pointer (some ⟨s,1,none⟩)),(78,.pointer (some ⟨p,0,none⟩)),(79,.int .i64 Q.bads),(80,.int .i64 Q.bads),(81,.bool false),(82,.bool false),(83,.bool false),(84,.pointer (some ⟨s,0,none⟩)),(85,.pointer (some ⟨s,0,none⟩)),(86,.pointer (some ⟨s,1,none⟩)),(87,.pointer (some ⟨p,0,none⟩)),(88,.bool ov),(89,.int .i64 Q.bads),(90,.pointer (some ⟨s,0,none⟩)),(91,.pointer (some ⟨s,0,none⟩)),(92,.pointer (some ⟨s,2,none⟩)),(93,.pointer (some ⟨s,4,none⟩)),(94,.int .i64 Sp),(95,.bool ov),(96,.bool false),(97,.bool false)] [55,56,57,58,59,60,61,62,63,64,65,66,67,68,69,70,71,72,73,74,75,76,77,78,79,80,81,82,83,84,85,86,87,88,89,90,91,92,93,94,95,96,97] rfl (by kernel_rfl) (by kernel_rfl) hde hsz (fC ⟨(show a.tmps.getD 55 undef=.pointer (some ⟨b10,0,none⟩) from (hφ 0 (by kernel_rfl))),(fC ⟨(show a.tmps.getD 56 undef=.int .i64 dr from (hφ 1 (by kernel_rfl))),(fC ⟨(show a.tmps.getD 57 undef=.pointer (some ⟨b11,0,none⟩) from (hφ 2 (by kernel_rfl))),(fC ⟨(show a.tmps.getD 58 undef=.int .i64 (N * P) from (hφ 3 (by kernel_rfl))),(fC ⟨(show a.tmps.getD 59 undef=.bool false from (hφ 4 (by kernel_rfl))),(fC ⟨(show a.tmps.getD 60 undef=.bool false from (hφ 5 (by kernel_rfl))),(fC ⟨(show a.tmps.getD 61 undef=.pointer (some ⟨b10,1,none⟩) from (hφ 6 (by kernel_rfl))),(fC ⟨(show a.tmps.getD 62 undef=.int .i64 dp from (hφ 7 (by kernel_rfl))),(fC ⟨(show a.tmps.getD 63 undef=.pointer (some ⟨b11,1,none⟩) from (hφ 8 (by kernel_rfl))),(fC ⟨(show a.tmps.getD 64 undef=.int .i64 (N * P) from (hφ 9 (by kernel_rfl))),(fC ⟨(show a.tmps.getD 65 undef=.bool false from (hφ 10 (by kernel_rfl))),(fC ⟨(show a.tmps.getD 66 undef=.bool false from (hφ 11 (by kernel_rfl))),(fC ⟨(show a.tmps.getD 67 undef=.bool false from (hφ 12 (by kernel_rfl))),(fC ⟨(show a.tmps.getD 68 undef=.pointer (some ⟨b10,2,none⟩) from (hφ 13 (by kernel_rfl))),(fC ⟨(show a.tmps.getD 69 undef=.int .i64 de from (hφ 14 (by kernel_rfl))),(fC ⟨(show a.tmps.getD 70 undef=.pointer (some ⟨b11,2,none⟩) from (hφ 15 (by kernel_rfl))),(fC ⟨(show a.tmps.getD 71 undef=.int .i64 N from (hφ 16 (by kernel_rfl))),(fC ⟨(show a.tmps.getD 72 undef=.bool false from (hφ 17 (by kernel_rfl))),(fC ⟨(show a.tmps.getD 73 undef=.bool false from (hφ 18 (by kernel_rfl))),(fC ⟨(show a.tmps.getD 74 undef=.bool false from (hφ 19 (by kernel_rfl))),(fC ⟨(show a.tmps.getD 75 undef=.pointer (some ⟨s,0,none⟩) from (hφ 20 (by kernel_rfl))),(fC ⟨(show a.tmps.getD 76 undef=.pointer (some ⟨s,0,none⟩) from (hφ 21 (by kernel_rfl))),(fC ⟨(show a.tmps.getD 77 undef=.pointer (some ⟨s,1,none⟩) from (hφ 22 (by kernel_rfl))),(fC ⟨(show a.tmps.getD 78 undef=.pointer (some ⟨p,0,none⟩) from (hφ 23 (by kernel_rfl))),(fC ⟨(show a.tmps.getD 79 undef=.int .i64 Q.bads from (hφ 24 (by kernel_rfl))),(fC ⟨(show a.tmps.getD 80 undef=.int .i64 Q.bads from (hφ 25 (by kernel_rfl))),(fC ⟨(show a.tmps.getD 81 undef=.bool false from (hφ 26 (by kernel_rfl))),(fC ⟨(show a.tmps.getD 82 undef=.bool false from (hφ 27 (by kernel_rfl))),(fC ⟨(show a.tmps.getD 83 undef=.bool false from (hφ 28 (by kernel_rfl))),(fC ⟨(show a.tmps.getD 84 undef=.pointer (some ⟨s,0,none⟩) from (hφ 29 (by kernel_rfl))),(fC ⟨(show a.tmps.getD 85 undef=.pointer (some ⟨s,0,none⟩) from (hφ 30 (by kernel_rfl))),(fC ⟨(show a.tmps.getD 86 undef=.pointer (some ⟨s,1,none⟩) from (hφ 31 (by kernel_rfl))),(fC ⟨(show a.tmps.getD 87 undef=.pointer (some ⟨p,0,none⟩) from (hφ 32 (by kernel_rfl))),(fC ⟨(show a.tmps.getD 88 undef=.bool ov from (hφ 33 (by kernel_rfl))),(fC ⟨(show a.tmps.getD 89 undef=.int .i64 Q.bads from (hφ 34 (by kernel_rfl))),(fC ⟨(show a.tmps.getD 90 undef=.pointer (some ⟨s,0,none⟩) from (hφ 35 (by kernel_rfl))),(fC ⟨(show a.tmps.getD 91 undef=.pointer (some ⟨s,0,none⟩) from (hφ 36 (by kernel_rfl))),(fC ⟨(show a.tmps.getD 92 undef=.pointer (some ⟨s,2,none⟩) from (hφ 37 (by kernel_rfl))),(fC ⟨(show a.tmps.getD 93 undef=.pointer (some ⟨s,4,none⟩) from (hφ 38 (by kernel_rfl))),(fC ⟨(show a.tmps.getD 94 undef=.int .i64 Sp from (hφ 39 (by kernel_rfl))),(fC ⟨(show a.tmps.getD 95 undef=.bool ov from (hφ 40 (by kernel_rfl))),(fC ⟨(show a.tmps.getD 96 undef=.bool false from (hφ 41 (by kernel_rfl))),(fC ⟨(show a.tmps.getD 97 undef=.bool false from (hφ 42 (by kernel_rfl))),(λ_ h=>absurd h (by simp))⟩)⟩)⟩)⟩)⟩)⟩)⟩)⟩)⟩)⟩)⟩)⟩)⟩)⟩)⟩)⟩)⟩)⟩)⟩)⟩)⟩)⟩)⟩)⟩)⟩)⟩)⟩)⟩)⟩)⟩)⟩)⟩)⟩)⟩)⟩)⟩)⟩)⟩)⟩)⟩)⟩)⟩)⟩) hold
   clear hφ hold hsz hde
   simp only[qd]
   go_frame
   have HB8:Hid (Below w.heap.size w w6):=hI (HBV.out.trans (hG.mono HBV.out.size))
   have HL1:=hI (HLV.out.below hG)
   have HS5:=hI (HSw.out.below HB8.out)
   clear hG
   obtain ⟨V8,rfl⟩:∃V,V=w6:=⟨_,rfl⟩
   clear HS HP
   go_upto_region 8 with fail
   cases ov with
   | true =>
    refine qR (λj v w'=>match j with | 0=>v=.int .i64 Q.bads | 1=>v=.pointer (some ⟨s,0,none⟩) | 2=>v=.pointer (some ⟨s,0,none⟩) | 3=>v=.pointer (some ⟨s,2,none⟩) | 4=>v=.pointer (some ⟨s,4,none⟩) | 5=>v=.int .i64 Sp | 6=>v=.bool true | 7=>v=.bool true | 8=>v=undef | 9=>v=undef | 10=>v=undef | 11=>v=undef | 12=>v=undef | 13=>v=.bool true | 14=>v=.bool true | 15=>v=undef | 16=>v=undef | 17=>v=undef | 18=>v=undef | 19=>v=undef | 20=>v=undef | 21=>v=undef | 22=>v=undef | 23=>v=undef | 24=>v=undef | 25=>v=undef | 26=>v=undef | 27=>v=undef | 28=>v=undef | 29=>v=undef | 30=>v=undef | 31=>v=undef | 32=>v=undef | 33=>v=undef | 34=>v=undef | 35=>v=undef | 36=>v=undef | 37=>v=undef | 38=>v=undef | 39=>v=.bool true | 40=>v=.bool true | _=>True) (λ_ w'=>Below V8.heap.size V8 w') (λw1 w2=>Below w1.heap.size w1 w2) (by kernel_rfl) (by kernel_rfl) (by kernel_rfl) ?hR ?hG ?hops ?hend
    case hR =>
     intro j v w1 w2 hv hb
     match j,hv with
     | 0,hv | 1,hv | 2,hv | 3,hv | 4,hv | 5,hv | 6,hv | 7,hv | 8,hv | 9,hv | 10,hv | 11,hv | 12,hv | 13,hv | 14,hv | 15,hv | 16,hv | 17,hv | 18,hv | 19,hv | 20,hv | 21,hv | 22,hv | 23,hv | 24,hv | 25,hv | 26,hv | 27,hv | 28,hv | 29,hv | 30,hv | 31,hv | 32,hv | 33,hv | 34,hv | 35,hv | 36,hv | 37,hv | 38,hv | 39,hv | 40,hv=>exact hv
     | _+41,_=>exact trivial
    case hG=>exact bR.drew
    case hops =>
     refine oC ?_ (oC ?_ (oC ?_ (oC ?_ (oC ?_ (oC ?_ (oC ?_ (oC ?_ (oC ?_ (oC ?_ (oC ?_ (oC ?_ (oC ?_ (oC ?_ (oC ?_ (oC ?_ (oC ?_ (oC ?_ (oC ?_ (oC ?_ (oC ?_ (oC ?_ (oC ?_ (oC ?_ (oC ?_ (oC ?_ (oC ?_ (oC ?_ (oC ?_ (oC ?_ (oC ?_ (oC ?_ (oC ?_ (oC ?_ (oC ?_ (oC ?_ (oC ?_ (oC ?_ (oC ?_ (oC ?_ (oC ?_ OpsOkS.nil))))))))))))))))))))))))))))))))))))))))
     . intro a w1 ξ γ ν ω ζ ψ κ
       have e0:=og (v:=.int .i64 Q.bads) (ω 8 (by kernel_rfl))
       refine qB (v:=.int .i64 Q.bads) (qA rfl) ?_ (κ _ w1 rfl γ bR)
       simp[execOp,go_sem,e0]
     . intro a w1 ξ γ ν ω ζ ψ κ
       have e0:=og (v:=.pointer (some ⟨s,0,none⟩)) (ω 0 (by kernel_rfl))
       refine qB (v:=.pointer (some ⟨s,0,none⟩)) (qA rfl) ?_ (κ _ w1 rfl γ bR)
       simp[execOp,go_sem,e0]
     . intro a w1 ξ γ ν ω ζ ψ κ
       have e0:=og (v:=.pointer (some ⟨s,0,none⟩)) (ν 1 (by kernel_rfl) (by kernel_rfl))
       refine qB (v:=.pointer (some ⟨s,0,none⟩)) (qA rfl) ?_ (κ _ w1 rfl γ bR)
       simp[execOp,go_sem,e0]
     . intro a w1 ξ γ ν ω ζ ψ κ
       have e0:=og (v:=.pointer (some ⟨s,0,none⟩)) (ν 2 (by kernel_rfl) (by kernel_rfl))
       refine qB (v:=.pointer (some ⟨s,2,none⟩)) (qA rfl) ?_ (κ _ w1 rfl γ bR)
       simp[execOp,go_sem,e0]
     . intro a w1 ξ γ ν ω ζ ψ κ
       have e0:=og (v:=.pointer (some ⟨s,2,none⟩)) (ν 3 (by kernel_rfl) (by kernel_rfl))
       refine qB (v:=.pointer (some ⟨s,4,none⟩)) (qA rfl) ?_ (κ _ w1 rfl γ bR)
       simp[execOp,go_sem,e0]
     . intro a w1 ξ γ ν ω ζ ψ κ
       have e0:=og (v:=.pointer (some ⟨s,4,none⟩)) (ν 4 (by kernel_rfl) (by kernel_rfl))
       have k0:=(HS5.out.below γ).c4
       refine qB (v:=.int .i64 Sp) (qA rfl) ?_ (κ _ w1 rfl γ bR)
       simp[execOp,go_sem,e0,k0]
     . intro a w1 ξ γ ν ω ζ ψ κ
       have e0:=og (v:=.int .i64 Q.bads) (ν 0 (by kernel_rfl) (by kernel_rfl))
       have e1:=og (v:=.int .i64 Sp) (ν 5 (by kernel_rfl) (by kernel_rfl))
       refine qB (v:=.bool true) (qA rfl) ?_ (κ _ w1 rfl γ bR)
       simp[execOp,go_sem,e0,e1,HOV.out.2]
     . intro a w1 ξ γ ν ω ζ ψ κ
       have e0:=og (v:=.bool true) (ν 6 (by kernel_rfl) (by kernel_rfl))
       refine qB (v:=.bool true) (qA rfl) ?_ (κ _ w1 rfl γ bR)
       simp[execOp,go_sem,e0]
     . intro a w1 ξ γ ν ω ζ ψ κ
       exact qH (j:=7) rfl (ν 7 (by kernel_rfl) (by kernel_rfl)) (by decide) (κ undef w1 rfl γ bR)
     . intro a w1 ξ γ ν ω ζ ψ κ
       exact qH (j:=7) rfl (ν 7 (by kernel_rfl) (by kernel_rfl)) (by decide) (κ undef w1 rfl γ bR)
     . intro a w1 ξ γ ν ω ζ ψ κ
       exact qH (j:=7) rfl (ν 7 (by kernel_rfl) (by kernel_rfl)) (by decide) (κ undef w1 rfl γ bR)
     . intro a w1 ξ γ ν ω ζ ψ κ
       exact qH (j:=7) rfl (ν 7 (by kernel_rfl) (by kernel_rfl)) (by decide) (κ undef w1 rfl γ bR)
     . intro a w1 ξ γ ν ω ζ ψ κ
       exact qH (j:=7) rfl (ν 7 (by kernel_rfl) (by kernel_rfl)) (by decide) (κ undef w1 rfl γ bR)
     . intro a w1 ξ γ ν ω ζ ψ κ
       have e0:=og (v:=.bool true) (ν 7 (by kernel_rfl) (by kernel_rfl))
       refine qB (v:=.bool true) (qA rfl) ?_ (κ _ w1 rfl γ bR)
       simp[execOp,go_sem,asBool,e0]
     . intro a w1 ξ γ ν ω ζ ψ κ
       have e0:=og (v:=.bool true) (ν 13 (by kernel_rfl) (by kernel_rfl))
       refine qB (v:=.bool true) (qA rfl) ?_ (κ _ w1 rfl γ bR)
       simp[execOp,go_sem,e0]
     . intro a w1 ξ γ ν ω ζ ψ κ
       exact qH (j:=14) rfl (ν 14 (by kernel_rfl) (by kernel_rfl)) (by decide) (κ undef w1 rfl γ bR)
     . intro a w1 ξ γ ν ω ζ ψ κ
       exact qH (j:=14) rfl (ν 14 (by kernel_rfl) (by kernel_rfl)) (by decide) (κ undef w1 rfl γ bR)
     . intro a w1 ξ γ ν ω ζ ψ κ
       exact qH (j:=14) rfl (ν 14 (by kernel_rfl) (by kernel_rfl)) (by decide) (κ undef w1 rfl γ bR)
     . intro a w1 ξ γ ν ω ζ ψ κ
       exact qH (j:=14) rfl (ν 14 (by kernel_rfl) (by kernel_rfl)) (by decide) (κ undef w1 rfl γ bR)
     . intro a w1 ξ γ ν ω ζ ψ κ
       exact qH (j:=14) rfl (ν 14 (by kernel_rfl) (by kernel_rfl)) (by decide) (κ undef w1 rfl γ bR)
     . intro a w1 ξ γ ν ω ζ ψ κ
       exact qH (j:=14) rfl (ν 14 (by kernel_rfl) (by kernel_rfl)) (by decide) (κ undef w1 rfl γ bR)
     . intro a w1 ξ γ ν ω ζ ψ κ
       exact qH (j:=14) rfl (ν 14 (by kernel_rfl) (by kernel_rfl)) (by decide) (κ undef w1 rfl γ bR)
     . intro a w1 ξ γ ν ω ζ ψ κ
       exact qH (j:=14) rfl (ν 14 (by kernel_rfl) (by kernel_rfl)) (by decide) (κ undef w1 rfl γ bR)
     . intro a w1 ξ γ ν ω ζ ψ κ
       exact qH (j:=14) rfl (ν 14 (by kernel_rfl) (by kernel_rfl)) (by decide) (κ undef w1 rfl γ bR)
     . intro a w1 ξ γ ν ω ζ ψ κ
       exact qH (j:=14) rfl (ν 14 (by kernel_rfl) (by kernel_rfl)) (by decide) (κ undef w1 rfl γ bR)
     . intro a w1 ξ γ ν ω ζ ψ κ
       exact qH (j:=14) rfl (ν 14 (by kernel_rfl) (by kernel_rfl)) (by decide) (κ undef w1 rfl γ bR)
     . intro a w1 ξ γ ν ω ζ ψ κ
       exact qa (j:=25) rfl (ν 25 (by kernel_rfl) (by kernel_rfl)) (κ undef w1 rfl γ bR)
     . intro a w1 ξ γ ν ω ζ ψ κ
       exact qa (j:=25) rfl (ν 25 (by kernel_rfl) (by kernel_rfl)) (κ undef w1 rfl γ bR)
     . intro a w1 ξ γ ν ω ζ ψ κ
       exact qa (j:=25) rfl (ν 25 (by kernel_rfl) (by kernel_rfl)) (κ undef w1 rfl γ bR)
     . intro a w1 ξ γ ν ω ζ ψ κ
       exact qa (j:=25) rfl (ν 25 (by kernel_rfl) (by kernel_rfl)) (κ undef w1 rfl γ bR)
     . intro a w1 ξ γ ν ω ζ ψ κ
       exact qa (j:=25) rfl (ν 25 (by kernel_rfl) (by kernel_rfl)) (κ undef w1 rfl γ bR)
     . intro a w1 ξ γ ν ω ζ ψ κ
       exact qa (j:=25) rfl (ν 25 (by kernel_rfl) (by kernel_rfl)) (κ undef w1 rfl γ bR)
     . intro a w1 ξ γ ν ω ζ ψ κ
       exact qa (j:=25) rfl (ν 25 (by kernel_rfl) (by kernel_rfl)) (κ undef w1 rfl γ bR)
     . intro a w1 ξ γ ν ω ζ ψ κ
       exact qa (j:=25) rfl (ν 25 (by kernel_rfl) (by kernel_rfl)) (κ undef w1 rfl γ bR)
     . intro a w1 ξ γ ν ω ζ ψ κ
       exact qa (j:=25) rfl (ν 25 (by kernel_rfl) (by kernel_rfl)) (κ undef w1 rfl γ bR)
     . intro a w1 ξ γ ν ω ζ ψ κ
       exact qa (j:=25) rfl (ν 25 (by kernel_rfl) (by kernel_rfl)) (κ undef w1 rfl γ bR)
     . intro a w1 ξ γ ν ω ζ ψ κ
       exact qa (j:=25) rfl (ν 25 (by kernel_rfl) (by kernel_rfl)) (κ undef w1 rfl γ bR)
     . intro a w1 ξ γ ν ω ζ ψ κ
       exact qa (j:=25) rfl (ν 25 (by kernel_rfl) (by kernel_rfl)) (κ undef w1 rfl γ bR)
     . intro a w1 ξ γ ν ω ζ ψ κ
       exact qH (j:=14) rfl (ν 14 (by kernel_rfl) (by kernel_rfl)) (by decide) (κ undef w1 rfl γ bR)
     . intro a w1 ξ γ ν ω ζ ψ κ
       have e0:=og (v:=.bool true) (ν 14 (by kernel_rfl) (by kernel_rfl))
       refine qB (v:=.bool true) (qA rfl) ?_ (κ _ w1 rfl γ bR)
       simp[execOp,go_sem,asBool,e0]
     . intro a w1 ξ γ ν ω ζ ψ κ
       have e0:=og (v:=.bool true) (ν 39 (by kernel_rfl) (by kernel_rfl))
       refine qB (v:=.bool true) (qA rfl) ?_ (κ _ w1 rfl γ bR)
       simp[execOp,go_sem,e0]
    case hend =>
     intro a w6 hG hde hsz hφ hold
     obtain rfl:=qy [(98,.int .i64 Q.bads),(99,.pointer (some ⟨s,0,none⟩)),(100,.pointer (some ⟨s,0,none⟩)),(101,.pointer (some ⟨s,2,none⟩)),(102,.pointer (some ⟨s,4,none⟩)),(103,.int .i64 Sp),(104,.bool true),(105,.bool true),(106,undef),(107,undef),(108,undef),(109,undef),(110,undef),(111,.bool true),(112,.bool true),(113,undef),(114,undef),(115,undef),(116,undef),(117,undef),(118,undef),(119,undef),(120,undef),(121,undef),(122,undef),(123,undef),(124,undef),(125,undef),(126,undef),(127,undef),(128,undef),(129,undef),(130,undef),(131,undef),(132,undef),(133,undef),(134,undef),(135,undef),(136,undef),(137,.bool true),(6,.bool true)] [98,99,100,101,102,103,104,105,106,107,108,109,110,111,112,113,114,115,116,117,118,119,120,121,122,123,124,125,126,127,128,129,130,131,132,133,134,135,136,137,6] rfl (by kernel_rfl) (by kernel_rfl) hde hsz (fC ⟨(show a.tmps.getD 98 undef=.int .i64 Q.bads from (hφ 0 (by kernel_rfl))),(fC ⟨(show a.tmps.getD 99 undef=.pointer (some ⟨s,0,none⟩) from (hφ 1 (by kernel_rfl))),(fC ⟨(show a.tmps.getD 100 undef=.pointer (some ⟨s,0,none⟩) from (hφ 2 (by kernel_rfl))),(fC ⟨(show a.tmps.getD 101 undef=.pointer (some ⟨s,2,none⟩) from (hφ 3 (by kernel_rfl))),(fC ⟨(show a.tmps.getD 102 undef=.pointer (some ⟨s,4,none⟩) from (hφ 4 (by kernel_rfl))),(fC ⟨(show a.tmps.getD 103 undef=.int .i64 Sp from (hφ 5 (by kernel_rfl))),(fC ⟨(show a.tmps.getD 104 undef=.bool true from (hφ 6 (by kernel_rfl))),(fC ⟨(show a.tmps.getD 105 undef=.bool true from (hφ 7 (by kernel_rfl))),(fC ⟨(show a.tmps.getD 106 undef=undef from (hφ 8 (by kernel_rfl))),(fC ⟨(show a.tmps.getD 107 undef=undef from (hφ 9 (by kernel_rfl))),(fC ⟨(show a.tmps.getD 108 undef=undef from (hφ 10 (by kernel_rfl))),(fC ⟨(show a.tmps.getD 109 undef=undef from (hφ 11 (by kernel_rfl))),(fC ⟨(show a.tmps.getD 110 undef=undef from (hφ 12 (by kernel_rfl))),(fC ⟨(show a.tmps.getD 111 undef=.bool true from (hφ 13 (by kernel_rfl))),(fC ⟨(show a.tmps.getD 112 undef=.bool true from (hφ 14 (by kernel_rfl))),(fC ⟨(show a.tmps.getD 113 undef=undef from (hφ 15 (by kernel_rfl))),(fC ⟨(show a.tmps.getD 114 undef=undef from (hφ 16 (by kernel_rfl))),(fC ⟨(show a.tmps.getD 115 undef=undef from (hφ 17 (by kernel_rfl))),(fC ⟨(show a.tmps.getD 116 undef=undef from (hφ 18 (by kernel_rfl))),(fC ⟨(show a.tmps.getD 117 undef=undef from (hφ 19 (by kernel_rfl))),(fC ⟨(show a.tmps.getD 118 undef=undef from (hφ 20 (by kernel_rfl))),(fC ⟨(show a.tmps.getD 119 undef=undef from (hφ 21 (by kernel_rfl))),(fC ⟨(show a.tmps.getD 120 undef=undef from (hφ 22 (by kernel_rfl))),(fC ⟨(show a.tmps.getD 121 undef=undef from (hφ 23 (by kernel_rfl))),(fC ⟨(show a.tmps.getD 122 undef=undef from (hφ 24 (by kernel_rfl))),(fC ⟨(show a.tmps.getD 123 undef=undef from (hφ 25 (by kernel_rfl))),(fC ⟨(show a.tmps.getD 124 undef=undef from (hφ 26 (by kernel_rfl))),(fC ⟨(show a.tmps.getD 125 undef=undef from (hφ 27 (by kernel_rfl))),(fC ⟨(show a.tmps.getD 126 undef=undef from (hφ 28 (by kernel_rfl))),(fC ⟨(show a.tmps.getD 127 undef=undef from (hφ 29 (by kernel_rfl))),(fC ⟨(show a.tmps.getD 128 undef=undef from (hφ 30 (by kernel_rfl))),(fC ⟨(show a.tmps.getD 129 undef=undef from (hφ 31 (by kernel_rfl))),(fC ⟨(show a.tmps.getD 130 undef=undef from (hφ 32 (by kernel_rfl))),(fC ⟨(show a.tmps.getD 131 undef=undef from (hφ 33 (by kernel_rfl))),(fC ⟨(show a.tmps.getD 132 undef=undef from (hφ 34 (by kernel_rfl))),(fC ⟨(show a.tmps.getD 133 undef=undef from (hφ 35 (by kernel_rfl))),(fC ⟨(show a.tmps.getD 134 undef=undef from (hφ 36 (by kernel_rfl))),(fC ⟨(show a.tmps.getD 135 undef=undef from (hφ 37 (by kernel_rfl))),(fC ⟨(show a.tmps.getD 136 undef=undef from (hφ 38 (by kernel_rfl))),(fC ⟨(show a.tmps.getD 137 undef=.bool true from (hφ 39 (by kernel_rfl))),(fC ⟨(show a.tmps.getD 6 undef=.bool true from (hφ 40 (by kernel_rfl))),(λ_ h=>absurd h (by simp))⟩)⟩)⟩)⟩)⟩)⟩)⟩)⟩)⟩)⟩)⟩)⟩)⟩)⟩)⟩)⟩)⟩)⟩)⟩)⟩)⟩)⟩)⟩)⟩)⟩)⟩)⟩)⟩)⟩)⟩)⟩)⟩)⟩)⟩)⟩)⟩)⟩)⟩)⟩)⟩)⟩) hold
     clear hφ hold hsz hde
     simp only[qd]
     go_frame
     go_wp2_with fail
     go_ret
     exact ⟨rfl,HB8.out.trans (hG.mono HB8.out.size)⟩
   | false =>
    have HGd:=hI (HGd0.out rfl)
    refine qR (λj v w'=>match j with | 0=>v=.int .i64 Q.bads | 1=>v=.pointer (some ⟨s,0,none⟩) | 2=>v=.pointer (some ⟨s,0,none⟩) | 3=>v=.pointer (some ⟨s,2,none⟩) | 4=>v=.pointer (some ⟨s,4,none⟩) | 5=>v=.int .i64 Sp | 6=>v=.bool false | 7=>v=.bool false | 8=>v=.pointer (some ⟨s,0,none⟩) | 9=>v=.pointer (some ⟨s,0,none⟩) | 10=>v=.pointer (some ⟨s,13,none⟩) | 11=>v=.int .i64 0 | 12=>v=.bool false | 13=>v=.bool false | 14=>v=.bool false | 15=>v=.slice (some ⟨gb,0,none⟩) Q.S.bl.length cap | 16=>∃A4 m4,v=.slice A4 (qK Q.S.bl).length m4/\IA w' A4 (qK Q.S.bl) | 17=>v=.int .i64 ((qK Q.S.bl).length:Int) | 18=>v=.pointer (some ⟨s,0,none⟩) | 19=>v=.pointer (some ⟨s,0,none⟩) | 20=>v=.pointer (some ⟨s,2,none⟩) | 21=>v=.agg #[.int .i64 B,.int .i64 P,.int .i64 Sp,.int .i64 K,.int .i64 U] | 22=>v=.int .i64 Q.bads | 23=>v=.int .i64 Q.floor | 24=>v=.bool true | 25=>v=.bool true | 26=>v=.slice (some ⟨gb,0,none⟩) Q.S.bl.length cap | 27=>∃A5 m5,v=.slice A5 Q.S.bl.length m5/\IA w' A5 Q.counts | 28=>v=.slice (some ⟨gb,0,none⟩) Q.S.bl.length cap | 29=>∃G6,v=.slice (some ⟨G6,0,none⟩) Q.S.bl.length Q.S.bl.length/\BA w' (some ⟨G6,0,none⟩) (Q.S.bl.map λb:Bk => !b.bad) | 30=>v=.int .i64 (vk (Q.counts.zip (Q.S.bl.map λb:Bk => !b.bad))) | 31=>v=.pointer (some ⟨s,0,none⟩) | 32=>v=.pointer (some ⟨s,0,none⟩) | 33=>v=.pointer (some ⟨s,2,none⟩) | 34=>v=.pointer (some ⟨s,6,none⟩) | 35=>v=.int .i64 U | 36=>v=.int .i64 (U+1) | 37=>v=.bool true | 38=>v=.bool true | 39=>v=.bool true | 40=>v=.bool true | _=>True) (λ_ w'=>Below V8.heap.size V8 w') (λw1 w2=>Below w1.heap.size w1 w2) (by kernel_rfl) (by kernel_rfl) (by kernel_rfl) ?hR ?hG ?hops ?hend
    case hR =>
     intro j v w1 w2 hv hb
     match j,hv with
     | 0,hv | 1,hv | 2,hv | 3,hv | 4,hv | 5,hv | 6,hv | 7,hv | 8,hv | 9,hv | 10,hv | 11,hv | 12,hv | 13,hv | 14,hv | 15,hv=>exact hv
     | 16,⟨A4,m4,e,h⟩=>exact ⟨A4,m4,e,h.below hb⟩
     | 17,hv | 18,hv | 19,hv | 20,hv | 21,hv | 22,hv | 23,hv | 24,hv | 25,hv | 26,hv=>exact hv
     | 27,⟨A5,m5,e,h⟩=>exact ⟨A5,m5,e,h.below hb⟩
     | 28,hv=>exact hv
     | 29,⟨G6,e,h⟩=>exact ⟨G6,e,h.below hb⟩
     | 30,hv | 31,hv | 32,hv | 33,hv | 34,hv | 35,hv | 36,hv | 37,hv | 38,hv | 39,hv | 40,hv=>exact hv
     | _+41,_=>exact trivial
    case hG=>exact bR.drew
    case hops =>
     refine oC ?_ (oC ?_ (oC ?_ (oC ?_ (oC ?_ (oC ?_ (oC ?_ (oC ?_ (oC ?_ (oC ?_ (oC ?_ (oC ?_ (oC ?_ (oC ?_ (oC ?_ (oC ?_ (oC ?_ (oC ?_ (oC ?_ (oC ?_ (oC ?_ (oC ?_ (oC ?_ (oC ?_ (oC ?_ (oC ?_ (oC ?_ (oC ?_ (oC ?_ (oC ?_ (oC ?_ (oC ?_ (oC ?_ (oC ?_ (oC ?_ (oC ?_ (oC ?_ (oC ?_ (oC ?_ (oC ?_ (oC ?_ OpsOkS.nil))))))))))))))))))))))))))))))))))))))))
     . intro a w1 ξ γ ν ω ζ ψ κ
       have e0:=og (v:=.int .i64 Q.bads) (ω 8 (by kernel_rfl))
       refine qB (v:=.int .i64 Q.bads) (qA rfl) ?_ (κ _ w1 rfl γ bR)
       simp[execOp,go_sem,e0]
     . intro a w1 ξ γ ν ω ζ ψ κ
       have e0:=og (v:=.pointer (some ⟨s,0,none⟩)) (ω 0 (by kernel_rfl))
       refine qB (v:=.pointer (some ⟨s,0,none⟩)) (qA rfl) ?_ (κ _ w1 rfl γ bR)
       simp[execOp,go_sem,e0]
     . intro a w1 ξ γ ν ω ζ ψ κ
       have e0:=og (v:=.pointer (some ⟨s,0,none⟩)) (ν 1 (by kernel_rfl) (by kernel_rfl))
       refine qB (v:=.pointer (some ⟨s,0,none⟩)) (qA rfl) ?_ (κ _ w1 rfl γ bR)
       simp[execOp,go_sem,e0]
     . intro a w1 ξ γ ν ω ζ ψ κ
       have e0:=og (v:=.pointer (some ⟨s,0,none⟩)) (ν 2 (by kernel_rfl) (by kernel_rfl))
       refine qB (v:=.pointer (some ⟨s,2,none⟩)) (qA rfl) ?_ (κ _ w1 rfl γ bR)
       simp[execOp,go_sem,e0]
     . intro a w1 ξ γ ν ω ζ ψ κ
       have e0:=og (v:=.pointer (some ⟨s,2,none⟩)) (ν 3 (by kernel_rfl) (by kernel_rfl))
       refine qB (v:=.pointer (some ⟨s,4,none⟩)) (qA rfl) ?_ (κ _ w1 rfl γ bR)
       simp[execOp,go_sem,e0]
     . intro a w1 ξ γ ν ω ζ ψ κ
       have e0:=og (v:=.pointer (some ⟨s,4,none⟩)) (ν 4 (by kernel_rfl) (by kernel_rfl))
       have k0:=(HS5.out.below γ).c4
       refine qB (v:=.int .i64 Sp) (qA rfl) ?_ (κ _ w1 rfl γ bR)
       simp[execOp,go_sem,e0,k0]
     . intro a w1 ξ γ ν ω ζ ψ κ
       have e0:=og (v:=.int .i64 Q.bads) (ν 0 (by kernel_rfl) (by kernel_rfl))
       have e1:=og (v:=.int .i64 Sp) (ν 5 (by kernel_rfl) (by kernel_rfl))
       refine qB (v:=.bool false) (qA rfl) ?_ (κ _ w1 rfl γ bR)
       simp[execOp,go_sem,e0,e1,HOV.out.2]
     . intro a w1 ξ γ ν ω ζ ψ κ
       have e0:=og (v:=.bool false) (ν 6 (by kernel_rfl) (by kernel_rfl))
       refine qB (v:=.bool false) (qA rfl) ?_ (κ _ w1 rfl γ bR)
       simp[execOp,go_sem,e0]
     . intro a w1 ξ γ ν ω ζ ψ κ
       have e0:=og (v:=.pointer (some ⟨s,0,none⟩)) (ω 0 (by kernel_rfl))
       refine qB (v:=.pointer (some ⟨s,0,none⟩)) (qE (j:=7) rfl (ν 7 (by kernel_rfl) (by kernel_rfl))) ?_ (κ _ w1 rfl γ bR)
       simp[execOp,go_sem,e0]
     . intro a w1 ξ γ ν ω ζ ψ κ
       have e0:=og (v:=.pointer (some ⟨s,0,none⟩)) (ν 8 (by kernel_rfl) (by kernel_rfl))
       refine qB (v:=.pointer (some ⟨s,0,none⟩)) (qE (j:=7) rfl (ν 7 (by kernel_rfl) (by kernel_rfl))) ?_ (κ _ w1 rfl γ bR)
       simp[execOp,go_sem,e0]
     . intro a w1 ξ γ ν ω ζ ψ κ
       have e0:=og (v:=.pointer (some ⟨s,0,none⟩)) (ν 9 (by kernel_rfl) (by kernel_rfl))
       refine qB (v:=.pointer (some ⟨s,13,none⟩)) (qE (j:=7) rfl (ν 7 (by kernel_rfl) (by kernel_rfl))) ?_ (κ _ w1 rfl γ bR)
       simp[execOp,go_sem,e0]
     . intro a w1 ξ γ ν ω ζ ψ κ
       have e0:=og (v:=.pointer (some ⟨s,13,none⟩)) (ν 10 (by kernel_rfl) (by kernel_rfl))
       have k0:=(HS5.out.below γ).c13
       refine qB (v:=.int .i64 0) (qE (j:=7) rfl (ν 7 (by kernel_rfl) (by kernel_rfl))) ?_ (κ _ w1 rfl γ bR)
       simp[execOp,go_sem,e0,k0]
     . intro a w1 ξ γ ν ω ζ ψ κ
       have e0:=og (v:=.int .i64 0) (ν 11 (by kernel_rfl) (by kernel_rfl))
       refine qB (v:=.bool false) (qE (j:=7) rfl (ν 7 (by kernel_rfl) (by kernel_rfl))) ?_ (κ _ w1 rfl γ bR)
       simp[execOp,go_sem,e0]
     . intro a w1 ξ γ ν ω ζ ψ κ
       have e0:=og (v:=.bool false) (ν 7 (by kernel_rfl) (by kernel_rfl))
       have e1:=og (v:=.bool false) (ν 12 (by kernel_rfl) (by kernel_rfl))
       refine qB (v:=.bool false) (qA rfl) ?_ (κ _ w1 rfl γ bR)
       simp[execOp,go_sem,asBool,e0,e1]
     . intro a w1 ξ γ ν ω ζ ψ κ
       have e0:=og (v:=.bool false) (ν 13 (by kernel_rfl) (by kernel_rfl))
       refine qB (v:=.bool false) (qA rfl) ?_ (κ _ w1 rfl γ bR)
       simp[execOp,go_sem,e0]
     . intro a w1 ξ γ ν ω ζ ψ κ
       have e0:=og (v:=.slice (some ⟨gb,0,none⟩) Q.S.bl.length cap) (ω 7 (by kernel_rfl))
       refine qB (v:=.slice (some ⟨gb,0,none⟩) Q.S.bl.length cap) (qE (j:=14) rfl (ν 14 (by kernel_rfl) (by kernel_rfl))) ?_ (κ _ w1 rfl γ bR)
       simp[execOp,go_sem,e0]
     . intro a w1 ξ γ ν ω ζ ψ κ
       have e0:=og (v:=.slice (some ⟨gb,0,none⟩) Q.S.bl.length cap) (ν 15 (by kernel_rfl) (by kernel_rfl))
       refine qM (qE (j:=14) rfl (ν 14 (by kernel_rfl) (by kernel_rfl))) (f:=75) (args:=#[.slice (some ⟨gb,0,none⟩) Q.S.bl.length cap]) ?run ((ym (some ⟨gb,0,none⟩) cap Q.S.bl w1 HLn.out (HL1.out.below γ)).mono ?post)
       case run=>simp[go_sem,e0]
       case post =>
        rintro e w2 ⟨A4,m4,rfl,hc4,ha4,hb2⟩
        exact ⟨_,rfl,κ _ w2 ⟨A4,m4,rfl,hc4⟩ (γ.trans (hb2.mono γ.size)) hb2⟩
     . intro a w1 ξ γ ν ω ζ ψ κ
       obtain ⟨A4,m4,qe0,he0⟩ := ν 16 (by kernel_rfl) (by kernel_rfl)
       have e0:a.tmps[114]?.getD undef=.slice A4 (qK Q.S.bl).length m4:=by rw[<- Array.getD_eq_getD_getElem?];exact qe0
       refine qB (v:=.int .i64 ((qK Q.S.bl).length:Int)) (qE (j:=14) rfl (ν 14 (by kernel_rfl) (by kernel_rfl))) ?_ (κ _ w1 rfl γ bR)
       simp[go_sem,e0]
     . intro a w1 ξ γ ν ω ζ ψ κ
       have e0:=og (v:=.pointer (some ⟨s,0,none⟩)) (ω 0 (by kernel_rfl))
       refine qB (v:=.pointer (some ⟨s,0,none⟩)) (qE (j:=14) rfl (ν 14 (by kernel_rfl) (by kernel_rfl))) ?_ (κ _ w1 rfl γ bR)
       simp[execOp,go_sem,e0]
     . intro a w1 ξ γ ν ω ζ ψ κ
       have e0:=og (v:=.pointer (some ⟨s,0,none⟩)) (ν 18 (by kernel_rfl) (by kernel_rfl))
       refine qB (v:=.pointer (some ⟨s,0,none⟩)) (qE (j:=14) rfl (ν 14 (by kernel_rfl) (by kernel_rfl))) ?_ (κ _ w1 rfl γ bR)
       simp[execOp,go_sem,e0]
     . intro a w1 ξ γ ν ω ζ ψ κ
       have e0:=og (v:=.pointer (some ⟨s,0,none⟩)) (ν 19 (by kernel_rfl) (by kernel_rfl))
       refine qB (v:=.pointer (some ⟨s,2,none⟩)) (qE (j:=14) rfl (ν 14 (by kernel_rfl) (by kernel_rfl))) ?_ (κ _ w1 rfl γ bR)
       simp[execOp,go_sem,e0]
     . intro a w1 ξ γ ν ω ζ ψ κ
       have e0:=og (v:=.pointer (some ⟨s,2,none⟩)) (ν 20 (by kernel_rfl) (by kernel_rfl))
       have j2:=(HS5.out.below γ).c2
       have j3:=(HS5.out.below γ).c3
       have j4:=(HS5.out.below γ).c4
       have j5:=(HS5.out.below γ).c5
       have j6:=(HS5.out.below γ).c6
       refine qB (v:=.agg #[.int .i64 B,.int .i64 P,.int .i64 Sp,.int .i64 K,.int .i64 U]) (qE (j:=14) rfl (ν 14 (by kernel_rfl) (by kernel_rfl))) ?_ (κ _ w1 rfl γ bR)
       simp[execOp,go_sem,e0,j2,j3,j4,j5,j6]
     . intro a w1 ξ γ ν ω ζ ψ κ
       have e0:=og (v:=.int .i64 Q.bads) (ω 8 (by kernel_rfl))
       refine qB (v:=.int .i64 Q.bads) (qE (j:=14) rfl (ν 14 (by kernel_rfl) (by kernel_rfl))) ?_ (κ _ w1 rfl γ bR)
       simp[execOp,go_sem,e0]
     . intro a w1 ξ γ ν ω ζ ψ κ
       have e0:=og (v:=.agg #[.int .i64 B,.int .i64 P,.int .i64 Sp,.int .i64 K,.int .i64 U]) (ν 21 (by kernel_rfl) (by kernel_rfl))
       have e1:=og (v:=.int .i64 Q.bads) (ν 22 (by kernel_rfl) (by kernel_rfl))
       refine qM (qE (j:=14) rfl (ν 14 (by kernel_rfl) (by kernel_rfl))) (f:=76) (args:=#[.agg #[.int .i64 B,.int .i64 P,.int .i64 Sp,.int .i64 K,.int .i64 U],.int .i64 Q.bads]) ?run ((zDw B P Sp K U Q.bads w1 HBw.out).mono ?post)
       case run=>simp[go_sem,e0,e1]
       case post =>
        rintro e w2 ⟨rfl,hb2⟩
        have hfl:=HFl.out
        rw[hfl]
        exact ⟨_,rfl,κ _ w2 rfl (γ.trans (hb2.mono γ.size)) hb2⟩
     . intro a w1 ξ γ ν ω ζ ψ κ
       have e0:=og (v:=.int .i64 ((qK Q.S.bl).length:Int)) (ν 17 (by kernel_rfl) (by kernel_rfl))
       have e1:=og (v:=.int .i64 Q.floor) (ν 23 (by kernel_rfl) (by kernel_rfl))
       refine qB (v:=.bool true) (qE (j:=14) rfl (ν 14 (by kernel_rfl) (by kernel_rfl))) ?_ (κ _ w1 rfl γ bR)
       simp[execOp,go_sem,e0,e1,HGd.out.1]
     . intro a w1 ξ γ ν ω ζ ψ κ
       have e0:=og (v:=.bool true) (ν 24 (by kernel_rfl) (by kernel_rfl))
       refine qB (v:=.bool true) (qE (j:=14) rfl (ν 14 (by kernel_rfl) (by kernel_rfl))) ?_ (κ _ w1 rfl γ bR)
       simp[execOp,go_sem,e0]
     . intro a w1 ξ γ ν ω ζ ψ κ
       have e0:=og (v:=.slice (some ⟨gb,0,none⟩) Q.S.bl.length cap) (ω 7 (by kernel_rfl))
       refine qB (v:=.slice (some ⟨gb,0,none⟩) Q.S.bl.length cap) (qE (j:=25) rfl (ν 25 (by kernel_rfl) (by kernel_rfl))) ?_ (κ _ w1 rfl γ bR)
       simp[execOp,go_sem,e0]
     . intro a w1 ξ γ ν ω ζ ψ κ
       have e0:=og (v:=.slice (some ⟨gb,0,none⟩) Q.S.bl.length cap) (ν 26 (by kernel_rfl) (by kernel_rfl))
       refine qM (qE (j:=25) rfl (ν 25 (by kernel_rfl) (by kernel_rfl))) (f:=78) (args:=#[.slice (some ⟨gb,0,none⟩) Q.S.bl.length cap]) ?run ((zKf (some ⟨gb,0,none⟩) cap Q w1 HLn.out (HL1.out.below γ)).mono ?post)
       case run=>simp[go_sem,e0]
       case post =>
        rintro e w2 ⟨A5,m5,rfl,hc4,ha4,hb2⟩
        exact ⟨_,rfl,κ _ w2 ⟨A5,m5,rfl,hc4⟩ (γ.trans (hb2.mono γ.size)) hb2⟩
     . intro a w1 ξ γ ν ω ζ ψ κ
       have e0:=og (v:=.slice (some ⟨gb,0,none⟩) Q.S.bl.length cap) (ω 7 (by kernel_rfl))
       refine qB (v:=.slice (some ⟨gb,0,none⟩) Q.S.bl.length cap) (qE (j:=25) rfl (ν 25 (by kernel_rfl) (by kernel_rfl))) ?_ (κ _ w1 rfl γ bR)
       simp[execOp,go_sem,e0]
     . intro a w1 ξ γ ν ω ζ ψ κ
       have e0:=og (v:=.slice (some ⟨gb,0,none⟩) Q.S.bl.length cap) (ν 28 (by kernel_rfl) (by kernel_rfl))
       refine qM (qE (j:=25) rfl (ν 25 (by kernel_rfl) (by kernel_rfl))) (f:=79) (args:=#[.slice (some ⟨gb,0,none⟩) Q.S.bl.length cap]) ?run ((zSj (some ⟨gb,0,none⟩) cap Q.S.bl w1 HLn.out (HL1.out.below γ)).mono ?post)
       case run=>simp[go_sem,e0]
       case post =>
        rintro e w2 ⟨G6,rfl,hc4,ha4,hb2⟩
        exact ⟨_,rfl,κ _ w2 ⟨G6,rfl,zBf hc4⟩ (γ.trans (hb2.mono γ.size)) hb2⟩
     . intro a w1 ξ γ ν ω ζ ψ κ
       obtain ⟨A5,m5,qe0,he0⟩ := ν 27 (by kernel_rfl) (by kernel_rfl)
       have e0:a.tmps[125]?.getD undef=.slice A5 Q.S.bl.length m5:=by rw[<- Array.getD_eq_getD_getElem?];exact qe0
       obtain ⟨G6,qe1,he1⟩ := ν 29 (by kernel_rfl) (by kernel_rfl)
       have e1:a.tmps[127]?.getD undef=.slice (some ⟨G6,0,none⟩) Q.S.bl.length Q.S.bl.length:=by rw[<- Array.getD_eq_getD_getElem?];exact qe1
       refine qM (qE (j:=25) rfl (ν 25 (by kernel_rfl) (by kernel_rfl))) (f:=77) (args:=#[.slice A5 Q.S.bl.length m5,.slice (some ⟨G6,0,none⟩) Q.S.bl.length Q.S.bl.length]) ?run ((apart_n A5 (some ⟨G6,0,none⟩) m5 Q.S.bl.length Q.counts (Q.S.bl.map λb:Bk => !b.bad) w1 HcN.out HgN.out HLn.out he0 he1 HCw.out (zAa _ _)).mono ?post)
       case run=>simp[go_sem,e0,e1]
       case post =>
        rintro e w2 ⟨rfl,hb2⟩
        exact ⟨_,rfl,κ _ w2 rfl (γ.trans (hb2.mono γ.size)) hb2⟩
     . intro a w1 ξ γ ν ω ζ ψ κ
       have e0:=og (v:=.pointer (some ⟨s,0,none⟩)) (ω 0 (by kernel_rfl))
       refine qB (v:=.pointer (some ⟨s,0,none⟩)) (qE (j:=25) rfl (ν 25 (by kernel_rfl) (by kernel_rfl))) ?_ (κ _ w1 rfl γ bR)
       simp[execOp,go_sem,e0]
     . intro a w1 ξ γ ν ω ζ ψ κ
       have e0:=og (v:=.pointer (some ⟨s,0,none⟩)) (ν 31 (by kernel_rfl) (by kernel_rfl))
       refine qB (v:=.pointer (some ⟨s,0,none⟩)) (qE (j:=25) rfl (ν 25 (by kernel_rfl) (by kernel_rfl))) ?_ (κ _ w1 rfl γ bR)
       simp[execOp,go_sem,e0]
     . intro a w1 ξ γ ν ω ζ ψ κ
       have e0:=og (v:=.pointer (some ⟨s,0,none⟩)) (ν 32 (by kernel_rfl) (by kernel_rfl))
       refine qB (v:=.pointer (some ⟨s,2,none⟩)) (qE (j:=25) rfl (ν 25 (by kernel_rfl) (by kernel_rfl))) ?_ (κ _ w1 rfl γ bR)
       simp[execOp,go_sem,e0]
     . intro a w1 ξ γ ν ω ζ ψ κ
       have e0:=og (v:=.pointer (some ⟨s,2,none⟩)) (ν 33 (by kernel_rfl) (by kernel_rfl))
       refine qB (v:=.pointer (some ⟨s,6,none⟩)) (qE (j:=25) rfl (ν 25 (by kernel_rfl) (by kernel_rfl))) ?_ (κ _ w1 rfl γ bR)
       simp[execOp,go_sem,e0]
     . intro a w1 ξ γ ν ω ζ ψ κ
       have e0:=og (v:=.pointer (some ⟨s,6,none⟩)) (ν 34 (by kernel_rfl) (by kernel_rfl))
       have k0:=(HS5.out.below γ).c6
       refine qB (v:=.int .i64 U) (qE (j:=25) rfl (ν 25 (by kernel_rfl) (by kernel_rfl))) ?_ (κ _ w1 rfl γ bR)
       simp[execOp,go_sem,e0,k0]
     . intro a w1 ξ γ ν ω ζ ψ κ
       have e0:=og (v:=.int .i64 U) (ν 35 (by kernel_rfl) (by kernel_rfl))
       refine qB (v:=.int .i64 (U+1)) (qE (j:=25) rfl (ν 25 (by kernel_rfl) (by kernel_rfl))) ?_ (κ _ w1 rfl γ bR)
       simp[execOp,go_sem,e0,HU1.out]
     . intro a w1 ξ γ ν ω ζ ψ κ
       have e0:=og (v:=.int .i64 (vk (Q.counts.zip (Q.S.bl.map λb:Bk => !b.bad)))) (ν 30 (by kernel_rfl) (by kernel_rfl))
       have e1:=og (v:=.int .i64 (U+1)) (ν 36 (by kernel_rfl) (by kernel_rfl))
       refine qB (v:=.bool true) (qE (j:=25) rfl (ν 25 (by kernel_rfl) (by kernel_rfl))) ?_ (κ _ w1 rfl γ bR)
       simp[execOp,go_sem,e0,e1,HGd.out.2]
     . intro a w1 ξ γ ν ω ζ ψ κ
       have e0:=og (v:=.bool true) (ν 25 (by kernel_rfl) (by kernel_rfl))
       have e1:=og (v:=.bool true) (ν 37 (by kernel_rfl) (by kernel_rfl))
       refine qB (v:=.bool true) (qE (j:=14) rfl (ν 14 (by kernel_rfl) (by kernel_rfl))) ?_ (κ _ w1 rfl γ bR)
       simp[execOp,go_sem,asBool,e0,e1]
     . intro a w1 ξ γ ν ω ζ ψ κ
       have e0:=og (v:=.bool false) (ν 14 (by kernel_rfl) (by kernel_rfl))
       have e1:=og (v:=.bool true) (ν 38 (by kernel_rfl) (by kernel_rfl))
       refine qB (v:=.bool true) (qA rfl) ?_ (κ _ w1 rfl γ bR)
       simp[execOp,go_sem,asBool,e0,e1]
     . intro a w1 ξ γ ν ω ζ ψ κ
       have e0:=og (v:=.bool true) (ν 39 (by kernel_rfl) (by kernel_rfl))
       refine qB (v:=.bool true) (qA rfl) ?_ (κ _ w1 rfl γ bR)
       simp[execOp,go_sem,e0]
    case hend =>
     intro a w6 hG hde hsz hφ hold
     obtain ⟨A4_16,m4_16,hv_16,hp_16⟩:=hφ 16 (by kernel_rfl)
     obtain ⟨A5_27,m5_27,hv_27,hp_27⟩:=hφ 27 (by kernel_rfl)
     obtain ⟨G6_29,hv_29,hp_29⟩:=hφ 29 (by kernel_rfl)
     obtain rfl:=qy [(98,.int .i64 Q.bads),(99,.pointer (some ⟨s,0,none⟩)),(100,.pointer (some ⟨s,0,none⟩)),(101,.pointer (some ⟨s,2,none⟩)),(102,.pointer (some ⟨s,4,none⟩)),(103,.int .i64 Sp),(104,.bool false),(105,.bool false),(106,.pointer (some ⟨s,0,none⟩)),(107,.pointer (some ⟨s,0,none⟩)),(108,.pointer (some ⟨s,13,none⟩)),(109,.int .i64 0),(110,.bool false),(111,.bool false),(112,.bool false),(113,.slice (some ⟨gb,0,none⟩) Q.S.bl.length cap),(114,.slice A4_16 (qK Q.S.bl).length m4_16),(115,.int .i64 ((qK Q.S.bl).length:Int)),(116,.pointer (some ⟨s,0,none⟩)),(117,.pointer (some ⟨s,0,none⟩)),(118,.pointer (some ⟨s,2,none⟩)),(119,.agg #[.int .i64 B,.int .i64 P,.int .i64 Sp,.int .i64 K,.int .i64 U]),(120,.int .i64 Q.bads),(121,.int .i64 Q.floor),(122,.bool true),(123,.bool true),(124,.slice (some ⟨gb,0,none⟩) Q.S.bl.length cap),(125,.slice A5_27 Q.S.bl.length m5_27),(126,.slice (some ⟨gb,0,none⟩) Q.S.bl.length cap),(127,.slice (some ⟨G6_29,0,none⟩) Q.S.bl.length Q.S.bl.length),(128,.int .i64 (vk (Q.counts.zip (Q.S.bl.map λb:Bk => !b.bad)))),(129,.pointer (some ⟨s,0,none⟩)),(130,.pointer (some ⟨s,0,none⟩)),(131,.pointer (some ⟨s,2,none⟩)),(132,.pointer (some ⟨s,6,none⟩)),(133,.int .i64 U),(134,.int .i64 (U+1)),(135,.bool true),(136,.bool true),(137,.bool true),(6,.bool true)] [98,99,100,101,102,103,104,105,106,107,108,109,110,111,112,113,114,115,116,117,118,119,120,121,122,123,124,125,126,127,128,129,130,131,132,133,134,135,136,137,6] rfl (by kernel_rfl) (by kernel_rfl) hde hsz (fC ⟨(show a.tmps.getD 98 undef=.int .i64 Q.bads from (hφ 0 (by kernel_rfl))),(fC ⟨(show a.tmps.getD 99 undef=.pointer (some ⟨s,0,none⟩) from (hφ 1 (by kernel_rfl))),(fC ⟨(show a.tmps.getD 100 undef=.pointer (some ⟨s,0,none⟩) from (hφ 2 (by kernel_rfl))),(fC ⟨(show a.tmps.getD 101 undef=.pointer (some ⟨s,2,none⟩) from (hφ 3 (by kernel_rfl))),(fC ⟨(show a.tmps.getD 102 undef=.pointer (some ⟨s,4,none⟩) from (hφ 4 (by kernel_rfl))),(fC ⟨(show a.tmps.getD 103 undef=.int .i64 Sp from (hφ 5 (by kernel_rfl))),(fC ⟨(show a.tmps.getD 104 undef=.bool false from (hφ 6 (by kernel_rfl))),(fC ⟨(show a.tmps.getD 105 undef=.bool false from (hφ 7 (by kernel_rfl))),(fC ⟨(show a.tmps.getD 106 undef=.pointer (some ⟨s,0,none⟩) from (hφ 8 (by kernel_rfl))),(fC ⟨(show a.tmps.getD 107 undef=.pointer (some ⟨s,0,none⟩) from (hφ 9 (by kernel_rfl))),(fC ⟨(show a.tmps.getD 108 undef=.pointer (some ⟨s,13,none⟩) from (hφ 10 (by kernel_rfl))),(fC ⟨(show a.tmps.getD 109 undef=.int .i64 0 from (hφ 11 (by kernel_rfl))),(fC ⟨(show a.tmps.getD 110 undef=.bool false from (hφ 12 (by kernel_rfl))),(fC ⟨(show a.tmps.getD 111 undef=.bool false from (hφ 13 (by kernel_rfl))),(fC ⟨(show a.tmps.getD 112 undef=.bool false from (hφ 14 (by kernel_rfl))),(fC ⟨(show a.tmps.getD 113 undef=.slice (some ⟨gb,0,none⟩) Q.S.bl.length cap from (hφ 15 (by kernel_rfl))),(fC ⟨(show a.tmps.getD 114 undef=.slice A4_16 (qK Q.S.bl).length m4_16 from hv_16),(fC ⟨(show a.tmps.getD 115 undef=.int .i64 ((qK Q.S.bl).length:Int) from (hφ 17 (by kernel_rfl))),(fC ⟨(show a.tmps.getD 116 undef=.pointer (some ⟨s,0,none⟩) from (hφ 18 (by kernel_rfl))),(fC ⟨(show a.tmps.getD 117 undef=.pointer (some ⟨s,0,none⟩) from (hφ 19 (by kernel_rfl))),(fC ⟨(show a.tmps.getD 118 undef=.pointer (some ⟨s,2,none⟩) from (hφ 20 (by kernel_rfl))),(fC ⟨(show a.tmps.getD 119 undef=.agg #[.int .i64 B,.int .i64 P,.int .i64 Sp,.int .i64 K,.int .i64 U] from (hφ 21 (by kernel_rfl))),(fC ⟨(show a.tmps.getD 120 undef=.int .i64 Q.bads from (hφ 22 (by kernel_rfl))),(fC ⟨(show a.tmps.getD 121 undef=.int .i64 Q.floor from (hφ 23 (by kernel_rfl))),(fC ⟨(show a.tmps.getD 122 undef=.bool true from (hφ 24 (by kernel_rfl))),(fC ⟨(show a.tmps.getD 123 undef=.bool true from (hφ 25 (by kernel_rfl))),(fC ⟨(show a.tmps.getD 124 undef=.slice (some ⟨gb,0,none⟩) Q.S.bl.length cap from (hφ 26 (by kernel_rfl))),(fC ⟨(show a.tmps.getD 125 undef=.slice A5_27 Q.S.bl.length m5_27 from hv_27),(fC ⟨(show a.tmps.getD 126 undef=.slice (some ⟨gb,0,none⟩) Q.S.bl.length cap from (hφ 28 (by kernel_rfl))),(fC ⟨(show a.tmps.getD 127 undef=.slice (some ⟨G6_29,0,none⟩) Q.S.bl.length Q.S.bl.length from hv_29),(fC ⟨(show a.tmps.getD 128 undef=.int .i64 (vk (Q.counts.zip (Q.S.bl.map λb:Bk => !b.bad))) from (hφ 30 (by kernel_rfl))),(fC ⟨(show a.tmps.getD 129 undef=.pointer (some ⟨s,0,none⟩) from (hφ 31 (by kernel_rfl))),(fC ⟨(show a.tmps.getD 130 undef=.pointer (some ⟨s,0,none⟩) from (hφ 32 (by kernel_rfl))),(fC ⟨(show a.tmps.getD 131 undef=.pointer (some ⟨s,2,none⟩) from (hφ 33 (by kernel_rfl))),(fC ⟨(show a.tmps.getD 132 undef=.pointer (some ⟨s,6,none⟩) from (hφ 34 (by kernel_rfl))),(fC ⟨(show a.tmps.getD 133 undef=.int .i64 U from (hφ 35 (by kernel_rfl))),(fC ⟨(show a.tmps.getD 134 undef=.int .i64 (U+1) from (hφ 36 (by kernel_rfl))),(fC ⟨(show a.tmps.getD 135 undef=.bool true from (hφ 37 (by kernel_rfl))),(fC ⟨(show a.tmps.getD 136 undef=.bool true from (hφ 38 (by kernel_rfl))),(fC ⟨(show a.tmps.getD 137 undef=.bool true from (hφ 39 (by kernel_rfl))),(fC ⟨(show a.tmps.getD 6 undef=.bool true from (hφ 40 (by kernel_rfl))),(λ_ h=>absurd h (by simp))⟩)⟩)⟩)⟩)⟩)⟩)⟩)⟩)⟩)⟩)⟩)⟩)⟩)⟩)⟩)⟩)⟩)⟩)⟩)⟩)⟩)⟩)⟩)⟩)⟩)⟩)⟩)⟩)⟩)⟩)⟩)⟩)⟩)⟩)⟩)⟩)⟩)⟩)⟩)⟩)⟩) hold
     clear hφ hold hsz hde hv_16 hv_27 hv_29
     simp only[qd]
     go_frame
     go_wp2_with fail
     go_ret
     exact ⟨rfl,HB8.out.trans (hG.mono HB8.out.size)⟩
end
end
section
open Go.RowKit
section
variable {Q Q':PS} {D:Dat} {lv fr:List P2}
theorem apart_le {U M:Int} {o:Nat} (h:WInv Q.S.bl U M o) (hU:0<=U):vk (Q.counts.zip (Q.S.bl.map λb:Bk => !b.bad))<=U+1:=by
 have hl:=zIg { Q with op := -1 } (by show (-1:Int) <= -1;decide)
 have e:zAf Q.S.bl (-1)=Q.S.bl.map (λb:Bk => !b.bad):=if_pos rfl
 have hl':Looked Q.S.bl (Q.counts.zip (Q.S.bl.map λb:Bk => !b.bad)) (λk b=>b.bad=false/\(k:Int) ≠ -1):=by rw[<- e];exact hl
 obtain ⟨zs,hz⟩:∃zs,Q.counts.zip (Q.S.bl.map λb:Bk => !b.bad)=zs:=⟨_,rfl⟩
 rw[hz] at hl' ⊢
 have hd:hiP zs - loP zs<=U+1:=by
  by_cases hany:∃x,(x,true)∈zs
  . obtain ⟨x,hx⟩:=hany
    obtain ⟨e1,e2,e3⟩:=yU hx
    obtain ⟨j,b,l1,l2,l3⟩:=(hl'.mem _).1 e1
    obtain ⟨k,c,m1,m2,m3⟩:=(hl'.mem _).1 e2
    have h1:=h j b l1 l2.1
    have h2:=h k c m1 m2.1
    omega
  . have:=zAm (zs:=zs) (λx hx=>hany ⟨x,hx⟩)
    omega
 unfold vk
 split<;>omega
theorem floor_le (hi:Inv Q D lv fr) (ho:Q.over=false):Q.floor<=((qK Q.S.bl).length:Int):=by
 have h1:(qK Q.S.bl).length=zBi Q.S.bl:=zAo _ _
 have h2:=ho
 have h3:=hi.badc
 have h4:=zDg Q.S
 have h5:=(hi.good ho).1
 unfold PS.over at h2
 simp only[decide_eq_false_iff_not] at h2
 unfold PS.bads at h2
 unfold PS.floor zAj PS.bads
 rw[h1,if_pos ⟨hi.mid.ok.may,by omega⟩,if_pos (by omega)]
 omega
theorem zSo {c:Nat} (h0:Mid Q D) (hi:Inv Q' D lv fr) (hb:Low Q.S c) (hb':Low Q'.S c) (hc:Cost Q Q') :
 ∃dr dp de t,Fit Q' Q.S.rd Q.S.pr Q.S.er Q.bads dr dp de t:=by
 obtain ⟨s1,s2,s3,s4,s5,s6⟩:=hc.same
 obtain ⟨R,f,x,hR,hx,hbad,hsp⟩:=hc.cost
 have hb1:=hb.1
 have hb2:=hb.2.1
 have hb3:=hb.2.2
 have hb1':=hb'.1
 have hb2':=hb'.2.1
 have hb3':=hb'.2.2
 have hr0:=hsp.r0
 have hr1:=hsp.r1
 have hp0:=hsp.p0
 have hp1:=hsp.p1
 have he0:=hsp.e0
 have he1:=hsp.e1
 have hsz:=hi.mid.sizes
 have hlen:=hi.mid.ok.len
 have hle:=zGt Q'.S.bl
 have hnp:=h0.ok.np
 have hB:=h0.ok.may.1
 have hP:=h0.ok.may.2.1
 have hbq:Q'.bads - Q.bads=(f:Int):=by unfold PS.bads;rw[s6];omega
 refine ⟨Q'.S.rd - Q.S.rd,Q'.S.pr - Q.S.pr,Q'.S.er - Q.S.er,f,qp _ (by omega),qp _ (by omega),qp _ (by omega),by rw[hbq];exact qp _ (by omega),by omega,λfx hf1 hf2=>?_,λho=>⟨floor_le hi ho,?_⟩⟩
 . rw[s1,s2]
   have hX:Q.B+4+2 * (f:Int)<=vs Q.B fx:=by
    unfold vs
    by_cases h7:(f:Int)<=7
    . have:=hf1 h7
      subst this
      have:(f:Int)=0\/(f:Int)=1\/(f:Int)=2\/(f:Int)=3\/(f:Int)=4\/(f:Int)=5\/(f:Int)=6\/(f:Int)=7:=by omega
      rcases this with e | e | e | e | e | e | e | e<;>rw[e]<;>omega
    . rw[hf2 (by omega)]
      omega
   have hm1:(Q.B+4+2 * (f:Int)) * Q.P<=vs Q.B fx * Q.P:=Int.mul_le_mul_of_nonneg_right hX (by omega)
   have hm2:((R+f:Nat):Int) * Q.P<=(Q.B+3+f) * Q.P:=Int.mul_le_mul_of_nonneg_right (by omega) (by omega)
   have hm3:((f:Int)+1) * 1<=((f:Int)+1) * Q.P:=Int.mul_le_mul_of_nonneg_left (by omega) (by omega)
   have hm4:(Q.B+4+2 * (f:Int)) * Q.P=(Q.B+3+f) * Q.P+((f:Int)+1) * Q.P:=by rw[<- Int.add_mul];congr 1;omega
   have e1:((R * Q.S.np:Nat):Int)=(R:Int) * Q.P:=by rw[Int.natCast_mul,hnp]
   have e2:(((R+f) * Q.S.np:Nat):Int)=((R+f:Nat):Int) * Q.P:=by rw[Int.natCast_mul,hnp]
   have hm5:(R:Int) * Q.P<=((R+f:Nat):Int) * Q.P:=Int.mul_le_mul_of_nonneg_right (by omega) (by omega)
   have hp1':Q'.S.pr<=Q.S.pr+(((R+f) * Q.S.np:Nat):Int)+x:=by omega
   have hr1':Q'.S.rd<=Q.S.rd+((R * Q.S.np:Nat):Int):=hr1
   rw[e2] at hp1'
   rw[e1] at hr1'
   refine ⟨by omega,by omega,by omega⟩
 . obtain ⟨M,o,hw⟩:=(hi.good ho).2.2
   exact apart_le hw (by have:=hi.mid.ok.may.2.2.2.2;omega)
end
end
section
open Go.RowKit
theorem zRt (B P:Nat) (l:List Int):∀b∈(qZ B P l).bl,b.count=0/\b.next=0/\b.pages.length=P:=by
 have h1:∀(l:List Int) (bl:List Bk),(∀b∈bl,b.count=0/\b.next=0/\b.pages.length=P)->∀b∈zGv bl l,b.count=0/\b.next=0/\b.pages.length=P:=by
  intro l
  induction l with
  | nil=>exact λbl h b hb=>h b hb
  | cons a l ih =>
   intro bl h
   refine ih (vV bl a) λb hb=>?_
   unfold vV at hb
   split at hb
   . next hr =>
     rcases List.mem_or_eq_of_mem_set hb with k | rfl
     . exact h b k
     . have:bl.getD a.toNat noB∈bl:=by
        rw[List.getD_eq_getElem?_getD,List.getElem?_eq_getElem (by omega)]
        exact List.getElem_mem _
       have h9:=h _ this
       exact h9
   . exact h b hb
 refine h1 l _ λb hb=>?_
 have:b=zCp P:=List.eq_of_mem_replicate hb
 rw[this];exact ⟨rfl,rfl,by simp[zCp]⟩
theorem inv_new {B P:Nat} {Sp K U:Int} (l:List Int) (D:Dat) {n:Int} (hn:n=(qx (qZ B P l).bl:Int)) (hf:yZ B P Sp K U n) (c:Nat) (hc:c<=1000) :
 Inv (zPr (qZ B P l) B P Sp K U n 0) D [] []/\Bud (zPr (qZ B P l) B P Sp K U n 0) c/\(zPr (qZ B P l) B P Sp K U n 0).over=false:=by
 have hl:(qZ B P l).bl.length=B:=by simp[qZ,qj,zC]
 have hk:=zRt B P l
 have hle:=zGt (qZ B P l).bl
 have hm:=hf.1
 have hB:=hm.1
 have hP:=hm.2.1
 have hok:Ok (zPr (qZ B P l) B P Sp K U n 0):=ok_new l hm n 0 ⟨by omega,by omega⟩ ⟨by omega,by omega⟩
 have hdirty:(qZ B P l).bl.countP dirtyB=0:=by
  rw[List.countP_eq_zero]
  intro b hb
  have:=(hk b hb).2.1
  unfold dirtyB qJ
  rw[this]
  cases b.bad<;>decide
 have hsl:sl (qZ B P l)=B:=by
  have:=zGg (qZ B P l).bl
  show zBi _+qx _=B
  omega
 have hroom:Sp+n+1<=(B:Int):=by
  obtain ⟨f1,f2,f3⟩:=hf
  rw[vK,if_pos f1,qq,if_pos ⟨f1,f2⟩] at f3
  have:=hm.2.2.2.1
  split at f3<;>omega
 have hov:(zPr (qZ B P l) B P Sp K U n 0).over=false:=by
  unfold PS.over PS.bads
  show decide (Sp<((qx (qZ B P l).bl:Nat):Int) - n)=false
  rw[<- hn,decide_eq_false_iff_not]
  have:=hm.2.2.1
  omega
 refine ⟨⟨⟨hok,rfl,λb hb=>?_,⟨List.nodup_nil,List.nodup_nil⟩,λf hf=>by cases hf⟩,rfl,rfl,hf,by show n<=_;rw[hn];exact Int.le_refl _,List.Perm.refl _,List.Perm.refl _,λr hr=>(by cases hr),?_,?_,λ_=>⟨?_,λj b hj e=>?_,0,0,λj b hj hb=>?_⟩,λ_=>rfl⟩,⟨?_,λ_ b hb=>?_⟩,hov⟩
 . obtain ⟨-,h2,h3⟩:=hk b hb
   refine ⟨h3,by rw[h2];exact Int.le_refl _,by rw[h2];exact Int.natCast_nonneg _⟩
 . have:=hm.2.2.2.1
   show ((0:Nat):Int)<=K+1
   omega
 . have:=hm.2.2.2.1
   show ((0:Nat):Int)+(0:Nat)<=K+6
   omega
 . show Sp+n+1<=((sl (qZ B P l):Nat):Int)
   rw[hsl];exact hroom
 . have e':(j:Int) = -1:=e
   omega
 . have hj':(qZ B P l).bl[j]? = some b:=hj
   have:=(hk b (List.mem_of_getElem? hj')).1
   have hU:2<=(zPr (qZ B P l) B P Sp K U n 0).U:=hm.2.2.2.2.1
   rw[this]
   exact ⟨Int.le_refl _,.inl (by omega)⟩
 . show (((0:Int)<=0/\(0:Int)<=_)/\((0:Int)<=0/\(0:Int)<=_)/\(0:Int)<=0/\(0:Int)<=_)
   refine ⟨⟨by omega,by omega⟩,⟨by omega,by omega⟩,by omega,by omega⟩
 . have:=(hk b hb).1
   rw[this]
   exact ⟨Int.le_refl _,by omega⟩
end
end Go.Proofs.YtinkkmlbhkfmnaaGreat
