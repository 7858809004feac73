/- A part of what the last text proves: PoI1, PoI2, PoI3, PoI4, PoI5. -/
import Derived.Test.YtinkkmlbhkfmnaaGreatQPf
set_option maxRecDepth 100000
set_option maxHeartbeats 8000000
namespace Go.Proofs.YtinkkmlbhkfmnaaGreat
section
open Go.RowKit
section
variable {w w' V:World} {p c l f:Nat} {x y X Y Z:Nat->Prop} {Q Q1:PS} {T:List Fd} {S:LS}
def NLies (w:World) (A:Option Addr) (l:List Bk):Prop:=∀B o,A=some ⟨B,o,none⟩->∀j (h:j<l.length),∃A' c',w.cell? ⟨B,o+j * 4+3,none⟩=some (.slice A' l[j].pages.length c')
theorem zYb {W:World} {B g n cap:Nat} {L:List (Bk × Value)} (hn:n=L.length) (h:W.ownsRow B 101 4 (.slice (some ⟨g,0,none⟩) n cap) n (c4 L)) (hp:∀x∈L,∃A c,x.2=.slice A x.1.pages.length c):NLies W (some ⟨g,0,none⟩) (L.map (·.1)):=λB' o e j hj=>by
 cases e
 subst hn
 have hj':j<L.length:=by simpa using hj
 obtain ⟨g0,g1,g2,g3⟩:=c4_get L j hj'
 obtain ⟨A,c,hv⟩:=hp L[j] (List.getElem_mem hj')
 have k3:=World.ownsRow.cellAt h (j * 4+3) (by omega)
 rw[g3,hv] at k3
 refine ⟨A,c,?_⟩
 rw[Nat.zero_add,List.getElem_map]
 exact k3
theorem zJy {w:World} {p:Nat} {x:Nat->Prop} {S:LS} (h:Held w p x S) (h1:1<=S.bl.length):Calls Tryz.prog 21 #[.pointer (some ⟨p,0,none⟩)] w λe w'=>∃g cap,e=.returned (.slice (some ⟨g,0,none⟩) S.bl.length cap)/\BLies w' (some ⟨g,0,none⟩) S.bl/\NLies w' (some ⟨g,0,none⟩) S.bl/\Below w.heap.size w w':=by
 obtain ⟨q,cap,g,C,h2,_⟩:=h
 refine (zIx h2 h1).mono ?_
 rintro e w' ⟨v,rfl,⟨L,hL,hown,hp⟩,hb⟩
 have hl:L.length=S.bl.length:=by rw[<- hL];simp
 rcases hown.2 with ⟨_,h0⟩ | ⟨g',cap',cur,rfl,_⟩
 . omega
 . have k1:=zRn (L:=L) hl.symm hown (λy hy=>by
    obtain ⟨A9,c9,e9,_⟩:=hp y hy
    exact ⟨A9,_,c9,e9⟩)
   have k2:=zYb (L:=L) hl.symm hown (λy hy=>by
    obtain ⟨A9,c9,e9,_⟩:=hp y hy
    exact ⟨A9,c9,e9⟩)
   rw[hL] at k1 k2
   exact ⟨g',cap',rfl,k1,k2,hb⟩
end
end
section
open Go.RowKit
section
variable {w w' V:World} {p c l f:Nat} {x y X Y Z:Nat->Prop} {Q Q1:PS} {T:List Fd} {S:LS}
theorem q_suits (B P Sp K U bad:Int) (h:Held w c x S) (h1:1<=S.bl.length) (h2:S.bl.length<=1000) (hbd:(Lit.int .i64 bad).wf=true) (hf:yZ B P Sp K U bad) (hB:(S.bl.length:Int)=B) (hP:((S.bl[0]'h1).pages.length:Int)=P) (hb:bad<=(qx S.bl:Int)):Calls Tryz.prog 61 #[.pointer (some ⟨c,0,none⟩),.agg #[.int .i64 B,.int .i64 P,.int .i64 Sp,.int .i64 K,.int .i64 U],.int .i64 bad] w λe w'=>e=.returned (.bool true)/\Below w.heap.size w w':=by
 subst hB
 obtain ⟨np,hnp⟩:∃np,(S.bl[0]'h1).pages.length=np:=⟨_,rfl⟩
 rw[hnp] at hP
 subst hP
 obtain ⟨ln,hln⟩:∃ln,S.bl.length=ln:=⟨_,rfl⟩
 have HLN:=hI hln
 rw[hln] at hf ⊢
 obtain ⟨W,hW⟩:∃W,w.alloc (.cells #[.int .i64 ln,.int .i64 np,.int .i64 Sp,.int .i64 K,.int .i64 U] 23)=W:=⟨_,rfl⟩
 have HBW:Hid (Below w.heap.size w W):=hI (by rw[<- hW];exact bR.alloc nL _)
 have HX:Hid (W.heap[w.heap.size]? = some (.cells #[.int .i64 ln,.int .i64 np,.int .i64 Sp,.int .i64 K,.int .i64 U] 23 (0,0))):=hI (by rw[<- hW];exact heap_alloc_new _ _)
 have HLT:=hI (qD HX.out)
 have HH:Hid (Held W c x S):=hI (h.below HBW.out)
 have HF:Hid (decide (yZ ln np Sp K U bad)=true):=hI (decide_eq_true hf)
 have HP2:=hI hnp
 have hl0:0<ln:=by omega
 have hl1:(0:Int)<(ln:Int):=by omega
 have hl2:¬(ln:Int)<=0:=by omega
 clear hnp hln
 have HBB:=hI hb
 have HKC:Hid (∀V,Below W.heap.size W V->V.cell? ⟨w.heap.size,0,none⟩=some (.int .i64 ln)/\V.cell? ⟨w.heap.size,1,none⟩=some (.int .i64 np)/\V.cell? ⟨w.heap.size,2,none⟩=some (.int .i64 Sp)/\V.cell? ⟨w.heap.size,3,none⟩=some (.int .i64 K)/\V.cell? ⟨w.heap.size,4,none⟩=some (.int .i64 U)):=hI λV hV=>qe ((hV.block _ HLT.out).trans HX.out)
 clear h hf hb
 go_enter Tryz.func61,Tryz.ntmps61
 go_upto_region 2 with (go_at_call 21;(with_reducible refine (zJy HH.out h1).mono ?_);rintro e w2 ⟨g,cap,rfl,k1,k2,k3⟩;rw[HLN.out];have HBL:=hI k1;have HNL:=hI k2;have HB2:=hI k3;clear k1 k2 k3)
 obtain ⟨A9,c9,hn9⟩:=HNL.out g 0 rfl 0 h1
 rw[HP2.out] at hn9
 have hn9:w2.cell? ⟨g,3,none⟩=some (.slice A9 np c9):=by simpa using hn9
 have HGL:=hI (zId hn9)
 obtain ⟨q0,q1,q2,q3,q4⟩:=HKC.out w2 HB2.out
 have HN9:=hI hn9
 have HKEEP:Hid (∀V,Below w2.heap.size w2 V->V.cell? ⟨w.heap.size,0,none⟩=some (.int .i64 ln)/\V.cell? ⟨w.heap.size,1,none⟩=some (.int .i64 np)/\V.cell? ⟨w.heap.size,2,none⟩=some (.int .i64 Sp)/\V.cell? ⟨w.heap.size,3,none⟩=some (.int .i64 K)/\V.cell? ⟨w.heap.size,4,none⟩=some (.int .i64 U)/\V.cell? ⟨g,3,none⟩=some (.slice A9 np c9)):=hI λV hV=>by
  obtain ⟨a0,a1,a2,a3,a4⟩:=HKC.out V (HB2.out.trans (hV.mono HB2.out.size))
  exact ⟨a0,a1,a2,a3,a4,(hV.cell (p:=⟨g,3,none⟩) HGL.out).trans HN9.out⟩
 have badln:∀V,Below w2.heap.size w2 V->Calls Tryz.prog 36 #[.slice (some ⟨g,0,none⟩) ln cap] V λe w'=>e=.returned (.int .i64 (qx S.bl:Int))/\Below V.heap.size V w':=λV hV=>by
  have:=zQw (some ⟨g,0,none⟩) cap S.bl V h2 (HBL.out.below hV)
  rw[HLN.out] at this
  exact this
 clear hW
 go_region_held3 (λV=>V.cell? ⟨w.heap.size,0,none⟩=some (.int .i64 ln)/\V.cell? ⟨w.heap.size,1,none⟩=some (.int .i64 np)/\V.cell? ⟨w.heap.size,2,none⟩=some (.int .i64 Sp)/\V.cell? ⟨w.heap.size,3,none⟩=some (.int .i64 K)/\V.cell? ⟨w.heap.size,4,none⟩=some (.int .i64 U)/\V.cell? ⟨g,3,none⟩=some (.slice A9 np c9))
  (first | exact ⟨q0,q1,q2,q3,q4,hn9⟩ | exact HQ3.out | exact HQ4.out)
  (first
   | (go_at_call 100;(with_reducible refine (zZw ln np Sp K U bad _ hbd).mono ?_);rintro e w3 ⟨rfl,k3⟩;rw[HF.out];have HB3:Hid (Below w2.heap.size w2 w3):=hI (bR.drew.trans k3);have HQ3:=hI (HKEEP.out w3 HB3.out);clear k3)
   | (go_at_call 36;(with_reducible refine (badln _ HB3.out).mono ?_);rintro e w4 ⟨rfl,k4⟩;have HB4:Hid (Below w2.heap.size w2 w4):=hI (HB3.out.trans (k4.mono HB3.out.size));have HQ4:=hI (HKEEP.out w4 HB4.out);clear k4))
 go_wp2_with fail
 go_ret
 have k1:Below w.heap.size w w2:=HBW.out.trans (HB2.out.mono HBW.out.size)
 exact ⟨by rw[decide_eq_true HBB.out];rfl,k1.trans (HB4.out.mono k1.size)⟩
end
end
section
open Go.RowKit
section
variable {w w' V:World} {p c l f:Nat} {x y X Y Z:Nat->Prop} {Q Q1:PS} {T:List Fd} {S:LS}
end
end
section
open Go.RowKit
section
variable {w w' V:World} {p c l f:Nat} {x y X Y Z:Nat->Prop} {Q Q1:PS} {T:List Fd} {S:LS}
theorem q_open0 (B P Sp K U bad seq:Int) (h:Held w c x S) (h1:1<=S.bl.length) (h2:S.bl.length<=1000) (hbd:(Lit.int .i64 bad).wf=true) (hf:yZ B P Sp K U bad) (hB:(S.bl.length:Int)=B) (hP:((S.bl[0]'h1).pages.length:Int)=P) (hb:bad<=(qx S.bl:Int)) (hs:0<=seq/\seq<=1099511627776) (hdk:S.dark=false):Calls Tryz.prog 27 #[.pointer (some ⟨c,0,none⟩),.agg #[.int .i64 B,.int .i64 P,.int .i64 Sp,.int .i64 K,.int .i64 U],.int .i64 bad,.slice none 0 0,.int .i64 seq] w λe w'=>∃p,∃l f w5 w6,e=.returned (.tuple #[.pointer (some ⟨p,0,none⟩),.int .i64 0])/\Below w.heap.size w w5/\Tab w5 l (λb=>b<w.heap.size) []/\Below w5.heap.size w5 w6/\Tab w6 f (λb=>b<w5.heap.size) []/\Below w6.heap.size w6 w'/\w6.heap.size<=p/\w'.heap[p]? = some (.cells #[.pointer (some ⟨c,0,none⟩),.int .i64 B,.int .i64 P,.int .i64 Sp,.int .i64 K,.int .i64 U,.int .i64 bad,.pointer (some ⟨l,0,none⟩),.pointer (some ⟨f,0,none⟩),.int .i64 seq,.int .i64 (-1),.bool false] 92 (0,0)):=by
 obtain ⟨W,hW⟩:∃W,w.alloc (.cells #[.int .i64 B,.int .i64 P,.int .i64 Sp,.int .i64 K,.int .i64 U] 23)=W:=⟨_,rfl⟩
 have HBW:Hid (Below w.heap.size w W):=hI (by rw[<- hW];exact bR.alloc nL _)
 have HX:Hid (W.heap[w.heap.size]? = some (.cells #[.int .i64 B,.int .i64 P,.int .i64 Sp,.int .i64 K,.int .i64 U] 23 (0,0))):=hI (by rw[<- hW];exact heap_alloc_new _ _)
 have HLT:=hI (qD HX.out)
 have HH:=hI h
 have hs1:=hs.1
 have hs2:=hs.2
 have hs3:¬seq<0:=by omega
 have hs4:¬1099511627776<seq:=by omega
 have HDK:=hI hdk
 have HSU:Hid (∀V,Below w.heap.size w V->Calls Tryz.prog 61 #[.pointer (some ⟨c,0,none⟩),.agg #[.int .i64 B,.int .i64 P,.int .i64 Sp,.int .i64 K,.int .i64 U],.int .i64 bad] V λe w'=>e=.returned (.bool true)/\Below V.heap.size V w'):=hI λV hV=>q_suits B P Sp K U bad (h.below hV) h1 h2 hbd hf hB hP hb
 have hrefs:∀V:World,Calls Tryz.prog 63 #[.slice none 0 0] V λe w'=>∃A' m',e=.returned (.slice A' 0 m')/\RLies w' A' []/\Below V.heap.size V w':=λV=>by
  refine (q_refs none 0 [] V (λk=>absurd k (Nat.lt_irrefl _)) (by simp)).mono ?_
  rintro e w3 ⟨A3,m3,rfl,k1,-,-,k2⟩
  exact ⟨A3,m3,rfl,k1,k2⟩
 have htwice:∀(V:World) (A3:Option Addr) (m3:Nat),RLies V A3 []->Calls Tryz.prog 62 #[.slice A3 0 m3] V λe w'=>e=.returned (.bool false)/\Below V.heap.size V w':=λV A3 m3 h=>by
  refine (zPi A3 m3 [] V h (by simp) (λr hr=>nomatch hr)).mono ?_
  rintro e w3 ⟨rfl,k2⟩
  exact ⟨rfl,k2⟩
 obtain ⟨a0,a1,a2,a3,a4⟩:=qe HX.out
 clear h hf hB hP hb hs hdk
 go_enter Tryz.func27,Tryz.ntmps27
 go_wp2_with (first
  | (go_at_call 61;(with_reducible refine (HSU.out _ HBW.out).mono ?_);rintro e w2 ⟨rfl,k2⟩;have HB2:=hI k2;clear k2)
  | (go_at_call 63;(with_reducible refine (hrefs _).mono ?_);rintro e w3 ⟨A3,m3,rfl,k1,k2⟩;have HB3:=hI k2;have HR3:=hI k1;clear k1 k2)
  | (go_at_call 62;(with_reducible refine (htwice _ A3 m3 HR3.out).mono ?_);rintro e w4 ⟨rfl,k2⟩;have HB4:=hI k2;clear k2)
  | (go_at_call 43;(with_reducible refine (zEp _).mono ?_);rintro e w5 ⟨t,rfl,ht,k2⟩;have HT5:=hI ht;have HB5:=hI k2;clear ht k2))
 have HBW5:Hid (Below W.heap.size W w5):=hI (HB2.out.trans ((HB3.out.trans ((HB4.out.trans (HB5.out.mono HB4.out.size)).mono HB3.out.size)).mono HB2.out.size))
 have HB25:Hid (Below w.heap.size w w5):=hI (HBW.out.trans (HBW5.out.mono HBW.out.size))
 have HKC:Hid (∀V,Below w5.heap.size w5 V->V.cell? ⟨w.heap.size,0,none⟩=some (.int .i64 B)/\V.cell? ⟨w.heap.size,1,none⟩=some (.int .i64 P)/\V.cell? ⟨w.heap.size,2,none⟩=some (.int .i64 Sp)/\V.cell? ⟨w.heap.size,3,none⟩=some (.int .i64 K)/\V.cell? ⟨w.heap.size,4,none⟩=some (.int .i64 U)):=hI λV hV=>qe (((HBW5.out.trans (hV.mono HBW5.out.size)).block _ HLT.out).trans HX.out)
 refine wp_loop_rounds 1 ?_
 rw[rounds_succ]
 go_upto_region 13 with (go_at_call 18;(with_reducible refine (zNu (HH.out.below HB25.out)).mono ?_);rintro e w7 ⟨rfl,hw7⟩;subst w7;rw[HDK.out])
 obtain ⟨q0,q1,q2,q3,q4⟩:=HKC.out w5 bR
 clear hW
 go_region_held3 (λV=>V.cell? ⟨w.heap.size,0,none⟩=some (.int .i64 B)/\V.cell? ⟨w.heap.size,1,none⟩=some (.int .i64 P)/\V.cell? ⟨w.heap.size,2,none⟩=some (.int .i64 Sp)/\V.cell? ⟨w.heap.size,3,none⟩=some (.int .i64 K)/\V.cell? ⟨w.heap.size,4,none⟩=some (.int .i64 U))
  (first | exact ⟨q0,q1,q2,q3,q4⟩ | exact HK6.out | exact HKC.out _ (HB6.out.alloc HB6.out.size _))
  (first | (go_at_call 43;(with_reducible refine (zEp _).mono ?_);rintro e w6 ⟨t6,rfl,ht,k2⟩;have HT6:=hI ht;have HB6:Hid (Below w5.heap.size w5 w6):=hI (bR.drew.trans k2);have HK6:=hI (HKC.out w6 HB6.out);clear ht k2))
 go_wp2_with fail
 go_ret2
 refine ⟨w6.heap.size,t,t6,w5,w6,rfl,HB25.out,?_,HB6.out,?_,?_,Nat.le_refl _,?_⟩
 . exact HT5.out.less λb k=>Nat.lt_of_lt_of_le k (Nat.le_trans HBW.out.size (Nat.le_trans HB2.out.size (Nat.le_trans HB3.out.size HB4.out.size)))
 . exact HT6.out
 . exact bR.alloc nL _
 . exact heap_alloc_new _ _
end
end
section
open Go.RowKit
section
variable {w w' w5 w6 V:World} {p c l f:Nat} {x y X Y Z:Nat->Prop} {Q Q1:PS} {T:List Fd} {S:LS}
theorem pool_new (h:Held w c x S) (b5:Below w.heap.size w w5) (t5:Tab w5 l (λb=>b<w.heap.size) []) (b6:Below w5.heap.size w5 w6) (t6:Tab w6 f (λb=>b<w5.heap.size) []) (b7:Below w6.heap.size w6 w') (hp:w6.heap.size<=p) (Q:PS) (hQ:Q.S=S) (hL:Q.L = []) (hF:Q.F = []) (hc:w'.heap[p]? = some (.cells (Q.cells c l f) 92 (0,0))):Pool w' p c x Q/\Safe x w w':=by
 have s5:=b5.size
 have s6:=b6.size
 have s7:=b7.size
 have hpl:=qD hc
 have b56:Below w5.heap.size w5 w':=b6.trans (b7.mono s6)
 have bw:Below w.heap.size w w':=b5.trans (b56.mono s5)
 refine ⟨?_,qC bw⟩
 obtain ⟨q,cap,g,C,h1,h2⟩:=h
 have hX:∀b,Own c q g C S.bl.length b->b<w.heap.size:=h1.lt
 subst hQ
 refine ⟨l,f,Own c q g C Q.S.bl.length,λb=>w.heap.size<=b/\b<w5.heap.size,λb=>w5.heap.size<=b/\b<w6.heap.size,⟨hc,⟨q,cap,g,C,h1.below bw,λb hb=>hb⟩,?_,?_,?_,?_,?_⟩,?_⟩
 . rw[hL]
   refine (t5.more b56).less λb hb=>?_
   have:=hb.1
   have:=hb.2
   by_cases e:b<w.heap.size
   . exact .inl e
   . exact .inr ⟨by omega,by omega⟩
 . rw[hF]
   refine (t6.more b7).less λb hb=>?_
   have:=hb.1
   have:=hb.2
   by_cases e:b<w5.heap.size
   . exact .inl e
   . exact .inr ⟨by omega,by omega⟩
 . intro b hb
   have:=hX b hb
   exact ⟨λk=>by omega,λk=>by omega,by omega,by omega⟩
 . intro b hb
   exact ⟨λk=>by omega,by omega,by omega⟩
 . intro b hb
   exact ⟨by omega,by omega⟩
 . intro b hb
   have:=(h2 b hb).1
   exact ⟨by omega,(h2 b hb).2,λk=>by omega,λk=>by omega,by omega⟩
end
end
end Go.Proofs.YtinkkmlbhkfmnaaGreat
