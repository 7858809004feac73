/- A part. -/
import Derived.Test.YtinkkmlbhkfmnaaGreatQLf
import Derived.Test.YtinkkmlbhkfmnaaGreatQPoOpen
set_option maxRecDepth 100000
set_option maxHeartbeats 40000000
namespace Go.Proofs.YtinkkmlbhkfmnaaGreat
section
open Go.RowKit
attribute [local go_sem] Oper.semAt_some
structure Run (w:World) (s p c:Nat) (x:Nat→Prop) (g:Cf) (Q:PS) (D:Dat) (lv fr:List Pg) (Al:Option Addr) (cl:Nat) (Af:Option Addr) (cf:Nat) (cc:Nat):Prop where
 st:StAt w s p c x g Q lv fr Al cl Af cf
 inv:Inv Q D (qY lv) (qY fr)
 dat:∀ q∈lv++fr,D q.r=q.d
 bud:Bud Q cc
section
variable {w w':World} {s p c l f:Nat} {x k:Nat→Prop} {g:Cf} {Q Q':PS} {D:Dat} {lv fr:List Pg} {Al Af:Option Addr} {cl cf cc:Nat}
def Left (w:World) (s p c:Nat) (x:Nat→Prop) (g:Cf) (Af:Option Addr) (n:Int) (cc:Nat) (w':World):Prop :=
 ∃ Q' D' lv' fr' Al' cl' Af' cf' y,Run w' s p c y g Q' D' lv' fr' Al' cl' Af' cf' cc∧(∀ b,vW x s Af b→vW y s Af' b)∧Safe (vW x s Af) w w'∧Q'.seq≤n
theorem Run.below (h:Run w s p c x g Q D lv fr Al cl Af cf cc) (hb:Below w.heap.size w w'):Run w' s p c (fun b=>x b∨New w w' b) g Q D lv fr Al cl Af cf cc :=
 ⟨h.st.below hb,h.inv,h.dat,h.bud⟩
theorem run_put (d:Cal) (h:Run w s p c x g Q D lv fr Al cl Af cf (cc+1)) (hcd:CB w (vW x s Af) d.A d.d) (hdl:d.d.length≤60) (hdn:d.A=none→d.d.length=0∧d.c=0) :
 Calls Tryz.prog 15 #[.pointer (some ⟨s,0,none⟩),.agg #[.int .i64 d.dO,.int .i64 d.n,.int .i64 d.keep,.int .i64 d.page,.slice d.A d.d.length d.c,.slice d.A2 d.pk.length d.c2]] w fun e w'=>e=.returned (.bool true)∧Left w s p c x g Af (Q.seq+1) cc w':=by
 refine (zRu d cc h.st h.inv h.dat h.bud hcd hdl hdn).mono ?_
 rintro e w' ⟨rfl,Q',D',fr',Af',cf',y,P5,hi,hd,hb,T6,P7,-,how⟩
 refine ⟨rfl,Q',D',lv,fr',Al,cl,Af',cf',y,⟨P5,hi,hd,hb⟩,T6,P7,?_⟩
 rcases how with ⟨rfl,-,-⟩ | ⟨-,-,k⟩ | ⟨-,k,-⟩
 · omega
 · exact k
 · omega
theorem run_seal (d:Cal) (h:Run w s p c x g Q D lv fr Al cl Af cf (cc+1)) (hcd:CB w (vW x s Af) d.A d.d) (hdl:d.d.length≤60) (hdn:d.A=none→d.d.length=0∧d.c=0) (hpk:BA w d.A2 d.pk) (hpl:d.pk.length≤1000) (hsq:Q.seq+1≤1099511627776) :
 Calls Tryz.prog 11 #[.pointer (some ⟨s,0,none⟩),.agg #[.int .i64 d.dO,.int .i64 d.n,.int .i64 d.keep,.int .i64 d.page,.slice d.A d.d.length d.c,.slice d.A2 d.pk.length d.c2]] w fun e w'=>e=.returned (.bool true)∧Left w s p c x g Af (Q.seq+1) cc w':=by
 refine (zNh d cc h.st h.inv h.dat h.bud hcd hdl hdn hpk hpl hsq).mono ?_
 rintro e w' ⟨rfl,Q',D',lv',Al',cl',y,P5,hi,hd,hb,T6,P7,-,how⟩
 refine ⟨rfl,Q',D',lv',[],Al',cl',none,0,y,⟨P5,hi,hd,hb⟩,T6,P7,?_⟩
 rcases how with ⟨-,-,k⟩ | ⟨-,k,-⟩
 · exact k
 · omega
theorem run_undo (h:Run w s p c x g Q D lv fr Al cl Af cf cc):Calls Tryz.prog 12 #[.pointer (some ⟨p,0,none⟩)] w fun e w'=>e=.returned (.tuple #[])∧StAt w' s p c x g Q.undo lv fr Al cl Af cf∧Safe x w w':=by
 refine (zRi h.st.pool).mono ?_
 rintro e w' ⟨rfl,h1,h2⟩
 exact ⟨rfl,h.st.safe h2 h1 (fun _ k=>k) h.st.cfg,h2⟩
theorem zWv (h:Run w s p c x g Q D lv fr Al cl Af cf cc) (hs:StAt w' s p c x g Q.undo lv fr Al cl Af cf):Run (w'.setCell ⟨s,9,none⟩ (.slice none 0 0)) s p c x g Q.undo D lv [] Al cl none 0 cc :=
 ⟨hs.clear.1,h.inv.undo,fun q hq=>h.dat q (by rw[List.append_nil] at hq;exact List.mem_append_left _ hq),h.bud.undo⟩
theorem Inv.fails {lv fr:List P2} (h:Inv Q D lv fr) (t:Tm):Inv { Q with S := { Q.S with f:=t } } D lv fr :=
 { h with mid := { h.mid with ok := { h.mid.ok with } } }
theorem Inv.worns {lv fr:List P2} (h:Inv Q D lv fr) (t:Tm):Inv { Q with S := { Q.S with w:=t } } D lv fr :=
 { h with mid := { h.mid with ok := { h.mid.ok with } } }
theorem run_fail (n:Int) (hn:n≤9223372036854775807) (h:Run w s p c x g Q D lv fr Al cl Af cf cc):Calls Tryz.prog 13 #[.pointer (some ⟨c,0,none⟩),.int .i64 n] w fun e w'=>e=.returned (.tuple #[])∧Run w' s p c x g { Q with S := { Q.S with f:=vY n } } D lv fr Al cl Af cf cc∧Safe x w w':=by
 refine (Pool.failc n hn h.st.pool).mono ?_
 rintro e w' ⟨rfl,h1,h2⟩
 exact ⟨rfl,⟨h.st.safe h2 h1 (fun _ k=>k) h.st.cfg,h.inv.fails _,h.dat,⟨h.bud.low,h.bud.cnt⟩⟩,h2⟩
theorem run_worn (n:Int) (hn:n≤9223372036854775807) (h:Run w s p c x g Q D lv fr Al cl Af cf cc):Calls Tryz.prog 14 #[.pointer (some ⟨c,0,none⟩),.int .i64 n] w fun e w'=>e=.returned (.tuple #[])∧Run w' s p c x g { Q with S := { Q.S with w:=vY n } } D lv fr Al cl Af cf cc∧Safe x w w':=by
 refine (Pool.wornc n hn h.st.pool).mono ?_
 rintro e w' ⟨rfl,h1,h2⟩
 exact ⟨rfl,⟨h.st.safe h2 h1 (fun _ k=>k) h.st.cfg,h.inv.worns _,h.dat,⟨h.bud.low,h.bud.cnt⟩⟩,h2⟩
theorem zWt (h:Run w s p c x g Q D lv fr Al cl Af cf (cc+1)):Calls Tryz.prog 16 #[.pointer (some ⟨s,0,none⟩)] w fun e w'=>e=.returned (.bool true)∧Safe x w w'∧∃ Q' y,Run w' s p c y g Q' D lv fr Al cl Af cf cc∧Q'.seq=Q.seq∧∀ b,x b→y b:=by
 have hl:lv.length+fr.length≤1000:=by
  have h1:=h.inv.lenA
  have h2:=h.inv.mid.ok.may.2.2.2.1
  simp at h1
  omega
 refine (zIe (cc * 1000000) h.st h.inv h.dat (h.bud.low.spent (Spent.refl _) ⟨by omega,by omega,by omega⟩) hl).mono ?_
 rintro e w' ⟨rfl,Q1,y,P5,hi,⟨S1,rfl⟩,hbl,hlow,P7,hy⟩
 refine ⟨rfl,P7,_,y,⟨P5,hi,h.dat,hlow,fun ho b hb=>?_⟩,rfl,hy⟩
 have hbl':S1.bl=Q.S.bl:=hbl
 have ho':Q.over=false:=by
  rw[← ho]
  unfold PS.over PS.bads
  show decide (_<(qx Q.S.bl:Int) - _)=decide (_<(qx S1.bl:Int) - _)
  rw[hbl']
 have hb':b∈Q.S.bl:=by rw[← hbl'];exact hb
 have:=h.bud.cnt ho' b hb'
 omega
end
end
section
open Go.RowKit
attribute [local go_sem] Oper.semAt_some
theorem rb_cbP {w w':World} {C:Nat→Prop} {A:Option Addr} {l:List UInt8} (h:RB w w.heap.size A l) (hb:Below w.heap.size w w') (hc:∀ b,b<w.heap.size→C b):CB w' C A l:=fun hn=>by
 obtain ⟨ad,e,T1,hk⟩:=h hn
 refine ⟨ad,e,hc _ T1,fun j hj=>?_⟩
 have e2:(ad.add j).block=ad.block:=by unfold Addr.add;split<;>rfl
 exact (World.cell?_of_block (a:=ad.add j) (by rw[e2];exact hb.block _ T1)).trans (hk j hj)
theorem yX {n:Nat} {w w1 w2:World} {F:Nat→Prop} (hn:n≤w.heap.size) (h:Below n w w1) (hs:Safe F w1 w2) (hF:∀ b,b<n→F b):Below n w w2 :=
 ⟨hs.os.trans h.os,hs.tape.trans h.tape,hs.output.trans h.output,Nat.le_trans h.size hs.size,fun b hb=>(hs.block (Nat.lt_of_lt_of_le hb (Nat.le_trans hn h.size)) (hF b hb)).trans (h.block b hb)⟩
theorem Run.less {w:World} {s p c:Nat} {x:Nat→Prop} {g:Cf} {Q:PS} {D:Dat} {lv fr:List Pg} {Al:Option Addr} {cl:Nat} {Af:Option Addr} {cf cc c':Nat} (h:Run w s p c x g Q D lv fr Al cl Af cf cc) (hc:c'≤cc):Run w s p c x g Q D lv fr Al cl Af cf c' :=
 ⟨h.st,h.inv,h.dat,h.bud.less hc⟩
def Round (n:Nat) (w:World) (s p c:Nat) (g:Cf) (k cc:Nat) (wx:World):Prop :=
 ∃ Q D lv fr Al cl Af cf y,Run wx s p c y g Q D lv fr Al cl Af cf cc∧(∀ b,b<n→vW y s Af b)∧Below n w wx∧Q.seq≤k
theorem Round.of_left {n:Nat} {w w2 w3:World} {s p c:Nat} {x:Nat→Prop} {g:Cf} {Af:Option Addr} {k cc:Nat} {N:Int} (hn:n≤w.heap.size) (hb:Below n w w2) (h:Left w2 s p c x g Af N cc w3) (hF:∀ b,b<n→vW x s Af b) (hN:N≤k):Round n w s p c g k cc w3:=by
 obtain ⟨Q,D,lv,fr,Al,cl,Af',cf,y,hr,T6,P7,hq⟩:=h
 exact ⟨Q,D,lv,fr,Al,cl,Af',cf,y,hr,fun b hb=>T6 b (hF b hb),yX hn hb P7 hF,by omega⟩
theorem yO {n:Nat} {w w1:World} {s p c:Nat} {g:Cf} {k cc:Nat} (hn:n≤w.heap.size) (h:Round n w s p c g k (cc+1) w1):Calls Tryz.prog 16 #[.pointer (some ⟨s,0,none⟩)] w1 fun e w'=>e=.returned (.bool true)∧Round n w s p c g k cc w':=by
 obtain ⟨Q,D,lv,fr,Al,cl,Af,cf,y,hr,hF,hb,hq⟩:=h
 refine (zWt hr).mono ?_
 rintro e w' ⟨rfl,P7,Q',y',hr',hq',hy⟩
 exact ⟨rfl,Q',D,lv,fr,Al,cl,Af,cf,y',hr',fun b hb=>⟨hy _ (hF b hb).1,(hF b hb).2⟩,yX hn hb P7 fun b hb=>(hF b hb).1,by omega⟩
theorem IntsArg.below {w w':World} {A:Option Addr} {l:List Int} (h:IntsArg w A l) (hb:Below w.heap.size w w'):IntsArg w' A l:=fun hn=>by
 obtain ⟨B,o,e,hB,hc⟩:=h hn
 exact ⟨B,o,e,Nat.lt_of_lt_of_le hB hb.size,fun j hj=>(hb.cell (p:=⟨B,o+j,none⟩) hB).trans (hc j hj)⟩
theorem zXu (B P Sp K U:Int) (Ab:Option Addr) (cb:Nat) (bad:List Int) (A:Option Addr) (m:Nat) (l:List Cal) (w:World) (hbad:IntsArg w Ab bad) (hc:CalsLie w A l) (hok:∀ q∈l,CalOk w q) (hl:l.length≤maxLen) (hbl:bad.length≤maxLen):Calls Tryz.prog 3 #[.agg #[.int .i64 B,.int .i64 P,.int .i64 Sp,.int .i64 K,.int .i64 U],.slice Ab bad.length cb,.slice A l.length m] w fun e w'=>e=.returned (.bool true)∧Below w.heap.size w w':=by
 obtain ⟨W,hW⟩:∃ W,W=w.alloc (.cells #[.int .i64 B,.int .i64 P,.int .i64 Sp,.int .i64 K,.int .i64 U] 23):=⟨_,rfl⟩
 have hbW:Below w.heap.size w W:=by rw[hW];exact bR.alloc nL _
 have P9:=hI hbW
 have HX:Hid (W.heap[w.heap.size]? = some (.cells #[.int .i64 B,.int .i64 P,.int .i64 Sp,.int .i64 K,.int .i64 U] 23 (0,0))):=hI (by rw[hW];exact heap_alloc_new _ _)
 have HBAD:=hI hbad
 have HC:=hI hc
 have HOK:=hI hok
 have HBL:=hI hbl
 have HLM:=hI hl
 have HWE:=hI hW
 obtain ⟨a0,a1,a2,a3,a4⟩:=cfg5 HX.out
 clear hbad hc hok hbW hW hl hbl
 go_enter Tryz.func3,Tryz.ntmps3
 go_upto_region 1 with fail
 rw[← HWE.out]
 go_wp2_with fail
 refine (zIh B P Sp K U Ab cb bad A m l W (HBAD.out.below P9.out) (HC.out.below P9.out) HLM.out HBL.out).mono ?_
 rintro e w1 hbeg
 rcases hbeg with ⟨rfl,P8⟩ | ⟨s,p,c,x,Q,rfl,P5,hinv,hbud,hov,hseq,-,hx1,P8,hlight,-⟩
 · have HB1:Hid (Below w.heap.size w w1):=hI (P9.out.trans (P8.mono P9.out.size))
   clear P8
   go_wp2_with (first
    | (go_at_call 10;(with_reducible refine (zAw _).mono ?_);rintro e w2 ⟨rfl,hb2⟩;have T4:=hI hb2;clear hb2)
    | fail)
   go_ret
   exact ⟨rfl,HB1.out.trans (T4.out.mono HB1.out.size)⟩
 · have HB1:Hid (Below w.heap.size w w1):=hI (P9.out.trans (P8.mono P9.out.size))
   have HLT:Hid (l.length≤120∧∀ d∈l,d.d.length≤60∧d.pk.length≤80):=hI hlight.2.2
   have c1:=P5.sc.c1
   obtain ⟨g,hg⟩:∃ g,g=(⟨B,P,Sp,K,U,Q.bad⟩:Cf):=⟨_,rfl⟩
   rw[← hg] at P5
   have HRD:Hid (Round w.heap.size w s p c g 0 243 w1):=hI ⟨Q,fun _=>[],[],[],none,0,none,0,x,⟨P5,hinv _,fun q hq=>(by cases hq),hbud 243 (by omega)⟩,fun b hb=>⟨(hx1 b (Nat.lt_of_lt_of_le hb P9.out.size)).1,(hx1 b (Nat.lt_of_lt_of_le hb P9.out.size)).2,fun _ e=>(by cases e)⟩,HB1.out,by rw[hseq];omega⟩
   clear P5 hinv hbud hov hseq hx1 P8 hlight hg
   go_wp2_with fail
   clear c1
   go_loopw [9,10,25] (fun _ _ v25 wx=>∃ k:Nat,v25=.int .i64 k∧k≤l.length∧Round w.heap.size w s p c g k (2 * (121 - k)+1) wx) (fun _ _ v25 _=>l.length - (intOf v25).toNat)
   case atStart=>exact ⟨0,rfl,Nat.zero_le _,HRD.out⟩
   case round =>
    obtain ⟨k,rfl,hk,hrd⟩:=hrel
    have hl120:=HLT.out.1
    by_cases T1:k<l.length
    · have HK:Hid (k<l.length∧k<120):=hI ⟨T1,by omega⟩
      obtain ⟨cc,hcc⟩:∃ cc,2 * (121 - (k+1))+1=cc:=⟨_,rfl⟩
      have hc2:2 * (121 - k)+1=(cc+1)+1:=by omega
      rw[hc2] at hrd
      have HCC:=hI hcc
      obtain ⟨Q1,D1,lv,fr,Al,cl,Af,cf,y,hr1,hF1,P8,hq1⟩:=hrd
      obtain ⟨b,o,rfl,hbl,kc⟩:=(HC.out.below P8) k T1
      obtain ⟨d,hd⟩:∃ d,l[k]=d:=⟨_,rfl⟩
      rw[hd] at kc
      have HD:Hid (CalOk w d∧d.d.length≤60∧d.pk.length≤80):=hI ⟨HOK.out d (by rw[← hd];exact List.getElem_mem T1),HLT.out.2 d (by rw[← hd];exact List.getElem_mem T1)⟩
      have HR1:=hI hr1
      have HF1:=hI hF1
      have T4:=hI P8
      have T5:=hI hq1
      obtain ⟨k0,k1,k2,k3,k4,k5⟩:=kc
      clear hr1 hF1 P8 hq1 hd hcc hc2
      go_upto_region 10 with fail
      obtain ⟨W2,hW2⟩:∃ W2,wr.alloc (.cells #[.int .i64 d.dO,.int .i64 d.n,.int .i64 d.keep,.int .i64 d.page,.slice d.A d.d.length d.c,.slice d.A2 d.pk.length d.c2] 41)=W2:=⟨_,rfl⟩
      rw[hW2]
      have HB3:Hid (Below wr.heap.size wr W2):=hI (by rw[← hW2];exact bR.alloc nL _)
      have T2:Hid (W2.heap[wr.heap.size]? = some (.cells #[.int .i64 d.dO,.int .i64 d.n,.int .i64 d.keep,.int .i64 d.page,.slice d.A d.d.length d.c,.slice d.A2 d.pk.length d.c2] 41 (0,0))):=hI (by rw[← hW2];exact heap_alloc_new _ _)
      have P4:Hid (Run W2 s p c (fun b=>y b∨New wr W2 b) g Q1 D1 lv fr Al cl Af cf (cc+1+1)):=hI (HR1.out.below HB3.out)
      have P3:Hid (∀ b,b<w.heap.size→vW (fun b=>y b∨New wr W2 b) s Af b):=hI fun b hb=>⟨.inl (HF1.out b hb).1,(HF1.out b hb).2⟩
      have T3:Hid (Below w.heap.size w W2):=hI (T4.out.trans (HB3.out.mono T4.out.size))
      have HCD:Hid (CB W2 (vW (fun b=>y b∨New wr W2 b) s Af) d.A d.d):=hI (rb_cbP HD.out.1.rb T3.out P3.out)
      have HPK:Hid (BA W2 d.A2 d.pk):=hI (HD.out.1.pk.below T3.out)
      obtain ⟨m0,m1,m2,m3,m4,m5⟩:=zEk T2.out
      have HN:Hid (d.n≤9223372036854775807):=hI (zOu HD.out.1.wf.2.1).2
      clear hW2 k0 k1 k2 k3 k4 k5
      by_cases e0:d.dO=0
      · have t0:(d.dO==0)=true:=by simp[e0]
        clear e0
        go_upto_region 21 with (first
         | (go_at_call 11;(with_reducible refine (run_seal d P4.out HCD.out HD.out.2.1 HD.out.1.nn HPK.out (by have:=HD.out.2.2;omega) (by have:=T5.out;have:=HK.out;omega)).mono ?_);rintro e w4 ⟨rfl,hl4⟩;have P6:Hid (Round w.heap.size w s p c g (k+1) (cc+1) w4):=hI (Round.of_left nL T3.out hl4 P3.out (by have:=T5.out;omega));clear hl4)
         | fail)
        clear m0 m1 m2 m3 m4 m5
        go_wp2_with (first | (go_at_call 16;(with_reducible refine (yO nL P6.out).mono ?_);rintro e w5 ⟨rfl,P1⟩) | fail)
        go_roundw
        case rel=>exact ⟨k+1,rfl,by have:=HK.out;omega,by rw[HCC.out];exact P1⟩
        case measure=>simp[intOf];have:=HK.out;omega
      have t0:(d.dO==0)=false:=by simp[e0]
      clear e0
      by_cases e1:d.dO=1
      · have t1:(d.dO==1)=true:=by simp[e1]
        clear e1
        have c1:=P4.out.st.sc.c1
        go_upto_region 16 with (first
         | (go_at_call 12;(with_reducible refine (run_undo P4.out).mono ?_);rintro e w3 ⟨rfl,hst3,hsf3⟩;have HST3:=hI hst3;have HSF3:=hI hsf3;clear hst3 hsf3)
         | fail)
        have f9:w3.frozen? ⟨s,9,none⟩=false:=by
         have:=HST3.out.self
         simp[World.frozen?,this]
        have c9:=HST3.out.sc.c9
        go_upto_region 21 with fail
        have P6:Hid (Round w.heap.size w s p c g (k+1) (cc+1) (w3.setCell ⟨s,9,none⟩ (.slice none 0 0))):=hI ⟨_,D1,lv,[],Al,cl,none,0,_,(zWv P4.out HST3.out).less (by omega),fun b hb=>⟨(P3.out b hb).1,(P3.out b hb).2.1,fun _ e=>(by cases e)⟩,(yX nL T3.out HSF3.out fun b hb=>(P3.out b hb).1).setCell (p:=⟨s,9,none⟩) (by show w.heap.size≤s;refine Nat.le_of_not_lt fun k=>?_;exact (P3.out s k).2.1 rfl) _,by have:=T5.out;show Q1.seq≤_;omega⟩
        generalize (w3.setCell ⟨s,9,none⟩ (.slice none 0 0))=w4 at P6 ⊢
        clear m0 m1 m2 m3 m4 m5 c1 f9 c9
        go_wp2_with (first | (go_at_call 16;(with_reducible refine (yO nL P6.out).mono ?_);rintro e w5 ⟨rfl,P1⟩) | fail)
        go_roundw
        case rel=>exact ⟨k+1,rfl,by have:=HK.out;omega,by rw[HCC.out];exact P1⟩
        case measure=>simp[intOf];have:=HK.out;omega
      have t1:(d.dO==1)=false:=by simp[e1]
      clear e1
      by_cases e2:d.dO=2
      · have t2:(d.dO==2)=true:=by simp[e2]
        clear e2
        have c0:=P4.out.st.sc.c0
        go_upto_region 18 with fail
        have HK2:Hid (∀ V,Below W2.heap.size W2 V→V.cell? ⟨s,0,none⟩=some (.pointer (some ⟨c,0,none⟩))∧V.cell? ⟨wr.heap.size,1,none⟩=some (.int .i64 d.n)):=hI fun V hV=>⟨(P4.out.below hV).st.sc.c0,(World.cell?_of_block (a:=⟨wr.heap.size,1,none⟩) (hV.block _ (qD T2.out))).trans m1⟩
        go_region_held3 (fun V=>V.cell? ⟨s,0,none⟩=some (.pointer (some ⟨c,0,none⟩))∧V.cell? ⟨wr.heap.size,1,none⟩=some (.int .i64 d.n))
         (first | exact HK4.out | (refine HK2.out _ ?_;(repeat (first | exact bR | refine Below.drew ?_));done))
         (first
          | (go_at_call 13;(with_reducible refine (run_fail d.n HN.out (P4.out.below bR.drew)).mono ?_);rintro e w4 ⟨rfl,hr4,hsf4⟩;have HS4:=hI hr4;have HSF4:=hI hsf4;have HK4:Hid (w4.cell? ⟨s,0,none⟩=some (.pointer (some ⟨c,0,none⟩))∧w4.cell? ⟨wr.heap.size,1,none⟩=some (.int .i64 d.n)):=hI ⟨HS4.out.st.sc.c0,(World.cell?_of_block (a:=⟨wr.heap.size,1,none⟩) (HSF4.out.block (qD T2.out) (.inl (.inr ⟨Nat.le_refl _,qD T2.out⟩)))).trans (HK2.out _ bR.drew).2⟩;clear hr4 hsf4)
          | fail)
        have P6:Hid (Round w.heap.size w s p c g (k+1) (cc+1) w4):=hI ⟨_,D1,lv,fr,Al,cl,Af,cf,_,HS4.out.less (by omega),fun b hb=>⟨.inl (P3.out b hb).1,(P3.out b hb).2⟩,yX nL T3.out.drew HSF4.out fun b hb=>.inl (P3.out b hb).1,by have:=T5.out;show Q1.seq≤_;omega⟩
        clear m0 m1 m2 m3 m4 m5 c0
        go_wp2_with (first | (go_at_call 16;(with_reducible refine (yO nL P6.out).mono ?_);rintro e w5 ⟨rfl,P1⟩) | fail)
        go_roundw
        case rel=>exact ⟨k+1,rfl,by have:=HK.out;omega,by rw[HCC.out];exact P1⟩
        case measure=>simp[intOf];have:=HK.out;omega
      have t2:(d.dO==2)=false:=by simp[e2]
      clear e2
      by_cases e3:d.dO=3
      · have t3:(d.dO==3)=true:=by simp[e3]
        clear e3
        have c0:=P4.out.st.sc.c0
        go_upto_region 20 with fail
        have HK2:Hid (∀ V,Below W2.heap.size W2 V→V.cell? ⟨s,0,none⟩=some (.pointer (some ⟨c,0,none⟩))∧V.cell? ⟨wr.heap.size,1,none⟩=some (.int .i64 d.n)):=hI fun V hV=>⟨(P4.out.below hV).st.sc.c0,(World.cell?_of_block (a:=⟨wr.heap.size,1,none⟩) (hV.block _ (qD T2.out))).trans m1⟩
        go_region_held3 (fun V=>V.cell? ⟨s,0,none⟩=some (.pointer (some ⟨c,0,none⟩))∧V.cell? ⟨wr.heap.size,1,none⟩=some (.int .i64 d.n))
         (first | exact HK4.out | (refine HK2.out _ ?_;(repeat (first | exact bR | refine Below.drew ?_));done))
         (first
          | (go_at_call 14;(with_reducible refine (run_worn d.n HN.out (P4.out.below bR.drew)).mono ?_);rintro e w4 ⟨rfl,hr4,hsf4⟩;have HS4:=hI hr4;have HSF4:=hI hsf4;have HK4:Hid (w4.cell? ⟨s,0,none⟩=some (.pointer (some ⟨c,0,none⟩))∧w4.cell? ⟨wr.heap.size,1,none⟩=some (.int .i64 d.n)):=hI ⟨HS4.out.st.sc.c0,(World.cell?_of_block (a:=⟨wr.heap.size,1,none⟩) (HSF4.out.block (qD T2.out) (.inl (.inr ⟨Nat.le_refl _,qD T2.out⟩)))).trans (HK2.out _ bR.drew).2⟩;clear hr4 hsf4)
          | fail)
        have P6:Hid (Round w.heap.size w s p c g (k+1) (cc+1) w4):=hI ⟨_,D1,lv,fr,Al,cl,Af,cf,_,HS4.out.less (by omega),fun b hb=>⟨.inl (P3.out b hb).1,(P3.out b hb).2⟩,yX nL T3.out.drew HSF4.out fun b hb=>.inl (P3.out b hb).1,by have:=T5.out;show Q1.seq≤_;omega⟩
        clear m0 m1 m2 m3 m4 m5 c0
        go_wp2_with (first | (go_at_call 16;(with_reducible refine (yO nL P6.out).mono ?_);rintro e w5 ⟨rfl,P1⟩) | fail)
        go_roundw
        case rel=>exact ⟨k+1,rfl,by have:=HK.out;omega,by rw[HCC.out];exact P1⟩
        case measure=>simp[intOf];have:=HK.out;omega
      have t3:(d.dO==3)=false:=by simp[e3]
      clear e3
      go_upto_region 21 with (first
       | (go_at_call 15;(with_reducible refine (run_put d P4.out HCD.out HD.out.2.1 HD.out.1.nn).mono ?_);rintro e w4 ⟨rfl,hl4⟩;have P6:Hid (Round w.heap.size w s p c g (k+1) (cc+1) w4):=hI (Round.of_left nL T3.out hl4 P3.out (by have:=T5.out;omega));clear hl4)
       | fail)
      clear m0 m1 m2 m3 m4 m5
      go_wp2_with (first | (go_at_call 16;(with_reducible refine (yO nL P6.out).mono ?_);rintro e w5 ⟨rfl,P1⟩) | fail)
      go_roundw
      case rel=>exact ⟨k+1,rfl,by have:=HK.out;omega,by rw[HCC.out];exact P1⟩
      case measure=>simp[intOf];have:=HK.out;omega
    · obtain rfl:k=l.length:=by omega
      obtain ⟨_,_,_,_,_,_,_,_,_,_,_,hb9,_⟩:=hrd
      have HB9:=hI hb9
      clear hb9
      go_wp2_with (first
       | (go_at_call 10;(with_reducible refine (zAw _).mono ?_);rintro e w2 ⟨rfl,hb2⟩;have T4:=hI hb2;clear hb2)
       | fail)
      go_ret
      exact ⟨rfl,HB9.out.trans (T4.out.mono HB9.out.size)⟩
end
section
open Go.RowKit
theorem zXt (B P Sp K U:Int) {v1:Value} {bad:List Int} (A:Option Addr) (m:Nat) (l:List Cal) (w:World) (r1:IRow w v1 bad) (n1:bad.length≤maxLen) (hc:CalsLie w A l) (hok:∀ q∈l,CalOk w q) (hl:l.length≤maxLen):Calls Tryz.prog 3 #[.agg #[.int .i64 B,.int .i64 P,.int .i64 Sp,.int .i64 K,.int .i64 U],v1,.slice A l.length m] w fun e w'=>e=.returned (.bool true)∧Below w.heap.size w w':=by
 obtain ⟨A1,c1,rfl,hi,_⟩:=r1
 exact zXu B P Sp K U A1 c1 bad A m l w hi hc hok hl n1
end
end Go.Proofs.YtinkkmlbhkfmnaaGreat
