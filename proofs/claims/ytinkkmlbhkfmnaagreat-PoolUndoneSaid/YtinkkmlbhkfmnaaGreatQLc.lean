/- A part of what the last text proves: PoL5, PoL6. -/
import Derived.Test.YtinkkmlbhkfmnaaGreatQLb
import Derived.Test.YtinkkmlbhkfmnaaGreatQPg
set_option maxRecDepth 100000
set_option maxHeartbeats 8000000
namespace Go.Proofs.YtinkkmlbhkfmnaaGreat
section
open Go.RowKit
attribute [local go_sem] Oper.semAt_some
theorem zMb {w:World} {ops:Array Oper} {o:Oper} {a:Act} {K:Act->World->Prop} {Q:Exit->Act->World->Prop} {E:Prop} (hgd:o.guard=none) (s x:Operand) (ho:o.op=.call { callee:=.builtin .append,args:=#[s,x],argTypes:=#[31,31] })
 (base:Nat) (v:Value) (n:Nat) (xs:List Pg) (m:Nat) (l:List Pg) (A:Option Addr) (c:Nat) (hs:a.eval s=v) (hx:a.eval x=.slice A m c) (hn:xs.length=n) (hm:l.length=m) (hown:GOwn w base v xs) (hl:GLies w A l) (hA:A=none->l = []/\c=0) (h63:n+m<=1000000) (hbase:base<=w.heap.size)
 (h:∀q cap w',GOwn w' base (.slice q (n+m) cap) (xs++l)->w.grownBy w' v.ownBlock->K (a.put o.dst (.slice q (n+m) cap)) w') :
 if Region.wanted o (yielded ops a.tmps)=true then Oper.wp Tryz.prog o a w K Q else E:=by
 subst hn
 subst hm
 rw[if_pos (by simp[Region.wanted,hgd])]
 exact zMx s x ho hs hx hown hl hA h63 hbase h
theorem gown_lit (w:World) (base:Nat) (h:base<=w.heap.size):GOwn (w.alloc (.cells #[] 36)) base (.slice (some ⟨w.heap.size,0,none⟩) 0 0) [] :=
 World.ownsRow_lit (base:=base) (e:=36) (size:=3) w #[] 0 h (by omega) rfl
section
variable {w w':World} {s p c:Nat} {x k:Nat->Prop} {g:Cf} {Q Q':PS} {D:Dat} {lv fr:List Pg} {Al Af:Option Addr} {cl cf:Nat}
abbrev qY (l:List Pg):List P2:=l.map (·.r)
theorem Inv.wfp {lr fr:List P2} (h:Inv Q D lr fr) {r:P2} (hr:r∈lr++fr):WfP r:=by
 obtain ⟨t,ht⟩:=h.mem hr
 obtain ⟨i,j,-,-,hm,-⟩:=h.mid.page _ ht
 obtain ⟨h1,h2,-⟩:=hm
 exact ⟨yg (by have:(0:Int)<=r.1/\r.1<=60:=h1;omega),yg (by have:(1:Int)<=r.2/\r.2<=1099511627776:=h2;omega)⟩
theorem zIe (N:Nat) (h:StAt w s p c x g Q lv fr Al cl Af cf) (hi:Inv Q D (qY lv) (qY fr)) (hd:∀q∈lv++fr,D q.r=q.d) (hb:Low Q.S (N+(lv.length+fr.length))) (hlen:lv.length+fr.length<=1000) :
 Calls Tryz.prog 16 #[.pointer (some ⟨s,0,none⟩)] w λe w'=>e=.returned (.bool true)/\∃Q' y,StAt w' s p c y g Q' lv fr Al cl Af cf/\Inv Q' D (qY lv) (qY fr)/\(∃S',Q' = { Q with S:=S' })/\Q'.S.bl=Q.S.bl/\Low Q'.S N/\Safe x w w'/\∀b,x b->y b:=by
 have HT:=hI h
 have HI:=hI hi
 have HD:=hI hd
 have HLow:=hI hb
 have HE0:=hI (gown_lit w w.heap.size nL)
 have HB0:Hid (Below w.heap.size w (w.alloc (.cells #[] 36)).drew):=hI (bR.alloc nL _).drew
 have HE1:Hid (GOwn (w.alloc (.cells #[] 36)).drew w.heap.size (.slice (some ⟨w.heap.size,0,none⟩) 0 0) []):=hI (World.ownsRow.drew HE0.out)
 have hlt:=h.lt
 have c8:=h.sc.c8
 have c9:=h.sc.c9
 have hsa:=h.sc.below ((Below.refl w.heap.size w).alloc nL (.cells #[] 36))
 have d8:=hsa.c8
 have d9:=hsa.c9
 clear h hi hd hb hsa
 go_enter Tryz.func16,Tryz.ntmps16
 go_upto_region 1 with fail
 go_cut [17,18,19] from 7 to 16 (λv17 v18 v19 wx=>∃q4 cap4,v17=.slice q4 (lv.length+fr.length) cap4/\v18=.int .i64 ((lv.length:Int)+(fr.length:Int))/\v19=.int .i64 0/\GOwn wx w.heap.size (.slice q4 (lv.length+fr.length) cap4) (lv++fr)/\Below w.heap.size w wx)
 case first=>as_aux_lemma =>
  go_region_law (first
   | (refine zMb rfl (.tmp 7) (.tmp 11) rfl w.heap.size (.slice (some ⟨w.heap.size,0,none⟩) 0 0) 0 [] lv.length lv Al cl rfl rfl rfl rfl HE1.out (HT.out.live.below HB0.out) HT.out.lnone (by omega) (by first | (simp;done) | (simp;omega)) ?_;intro q3 cap3 w3 hown hgr;have HO3:Hid (GOwn w3 w.heap.size (.slice q3 lv.length cap3) lv):=hI (by simpa using hown);have HB3:Hid (Below w.heap.size w w3):=hI (yn HE1.out HB0.out hgr HB0.out.size);have e9:=(HT.out.sc.below HB3.out).c9;clear hown hgr)
   | (refine zMb rfl (.tmp 12) (.tmp 16) rfl w.heap.size (.slice q3 lv.length cap3) lv.length lv fr.length fr Af cf rfl rfl rfl rfl HO3.out (HT.out.fresh.lies.1.below HB3.out) HT.out.fnone (by omega) HB3.out.size ?_;intro q4 cap4 w4 hown hgr;have HO4:Hid (GOwn w4 w.heap.size (.slice q4 (lv.length+fr.length) cap4) (lv++fr)):=hI hown;have HB4:Hid (Below w.heap.size w w4):=hI (yn HO3.out HB3.out hgr HB3.out.size);clear hown hgr))
  all_goals
   go_wp2_with fail
   go_meet
   case rel=>exact ⟨q4,cap4,rfl,(by first | rfl | simp),rfl,HO4.out,HB4.out⟩
 case rest =>
  obtain ⟨q4,cap4,rfl,rfl,rfl,hO4,hB4⟩:=hcut
  obtain ⟨w4,rfl⟩:∃w4,w4=wc:=⟨_,rfl⟩
  have HO4:=hI hO4
  have HB4:=hI hB4
  clear hO4 hB4
  have HL4:=hI HO4.out.lies
  have HY4:=hI (HT.out.below HB4.out)
  clear c8 c9 d8 d9
  go_wp2_with fail
  go_loopw [19] (λv19 wr=>∃(j:Nat) (Qr:PS),j<=lv.length+fr.length/\v19=.int .i64 j/\StAt wr s p c (λb=>x b\/New w w4 b) g Qr lv fr Al cl Af cf/\Inv Qr D (qY lv) (qY fr)/\(∃S',Qr = { Q with S:=S' })/\Qr.S.bl=Q.S.bl/\Low Qr.S (N+(lv.length+fr.length - j))/\Safe (λb=>x b\/New w w4 b) w4 wr) (λv19 _=>lv.length+fr.length - (intOf v19).toNat)
  case atStart=>exact ⟨0,Q,Nat.zero_le _,rfl,HY4.out,HI.out,⟨Q.S,rfl⟩,rfl,HLow.out,Turned.refl _ _⟩
  case round =>
   obtain ⟨j,Qr,hj,rfl,hst,hin,hsame,hbl,hlw,hsf⟩:=hrel
   have HST:=hI hst
   have HIN:=hI hin
   have HSA:=hI hsame
   have HBL:=hI hbl
   have HLW:=hI hlw
   have HSF:=hI hsf
   clear hst hin hsame hbl hlw hsf
   by_cases hj1:j<lv.length+fr.length
   . have hjl:j<(lv++fr).length:=by rw[List.length_append];exact hj1
     obtain ⟨B,o,hq4,hBs,hc⟩:=HL4.out.1 (by omega)
     have hbl4:=hBs
     have hbw:=HL4.out.2.2.1 _ hq4
     obtain ⟨e0,e1,e2⟩:=hc j hjl
     have hk:wr.heap[B]? = w4.heap[B]? := HSF.out.block hBs (.inr ⟨hbw,hBs⟩)
     have k0:=(World.cell?_of_block (a:=⟨B,o+j * 3,none⟩) hk).trans e0
     have k1:=(World.cell?_of_block (a:=⟨B,o+j * 3+1,none⟩) hk).trans e1
     have k2:=(World.cell?_of_block (a:=⟨B,o+j * 3+2,none⟩) hk).trans e2
     obtain ⟨pg,hpg⟩:∃pg,pg=(lv++fr)[j]:=⟨_,rfl⟩
     have hmem:pg∈lv++fr:=by rw[hpg];exact List.getElem_mem _
     rw[<- hpg] at k0 k1 k2
     have hmr:pg.r∈qY lv++qY fr:=by rw[<- List.map_append];exact List.mem_map_of_mem hmem
     have HWF:=hI (HIN.out.wfp hmr)
     have HMR:=hI hmr
     have HMEM:=hI hmem
     subst hq4
     have hsize:w4.heap.size<=wr.heap.size:=HSF.out.size
     have hBr:B<wr.heap.size:=Nat.lt_of_lt_of_le hBs hsize
     clear hc e0 e1 e2 hk hpg hmr hmem
     obtain ⟨W5,hW5⟩:∃W5,W5=wr.alloc (.cells #[.int .i64 pg.r.1,.int .i64 pg.r.2,.slice pg.A pg.d.length pg.c] 36):=⟨_,rfl⟩
     have hb5:Below wr.heap.size wr W5:=by rw[hW5];exact bR.alloc nL _
     have hx5:W5.heap[wr.heap.size]? = some (.cells #[.int .i64 pg.r.1,.int .i64 pg.r.2,.slice pg.A pg.d.length pg.c] 36 (0,0)):=by rw[hW5];exact heap_alloc_new _ _
     have HST5:=hI (HST.out.below hb5)
     have HB5:=hI hb5
     have HX5:=hI hx5
     have c1:=HST5.out.sc.c1
     obtain ⟨b0,b1,b2,-⟩:=qT hx5
     go_upto_region 4 with fail
     rw[<- hW5]
     clear hW5 hb5 hx5 k0 k1 k2
     have hd6:Below W5.heap.size W5 W5.drew:=bR.drew
     have HST6:=hI (HST5.out.safe (qC hd6) (HST5.out.pool.below hd6) (λ_ k=>k) HST5.out.cfg)
     clear hd6
     have HDT:=hI (HST5.out.data pg HMEM.out)
     go_region_held3 (λV=>V.cell? ⟨s,1,none⟩=some (.pointer (some ⟨p,0,none⟩))/\V.cell? ⟨wr.heap.size,0,none⟩=some (.int .i64 pg.r.1)/\V.cell? ⟨wr.heap.size,1,none⟩=some (.int .i64 pg.r.2))
      (first | exact ⟨c1,b0,b1⟩ | exact HK7.out)
      (first
       | (go_at_call 26;(with_reducible refine (zXj pg.r HST6.out.pool HIN.out.mid.ok HWF.out).mono ?_);rintro e w7 ⟨A7,m7,d7,er7,rfl,hr7,ht7,hP7,hS7⟩;obtain ⟨rfl,hd7⟩:=zUa HIN.out HMR.out ht7.out;obtain rfl:=hd7.trans (HD.out pg HMEM.out);clear hd7 ht7;have HR7:=hI hr7;have HP7:=hI hP7;have HS7:=hI hS7;have HX7:=hI ((HS7.out.block (qD HX5.out) (.inr ⟨Nat.le_refl _,qD HX5.out⟩)).trans HX5.out);have HK7:Hid (w7.cell? ⟨s,1,none⟩=some (.pointer (some ⟨p,0,none⟩))/\w7.cell? ⟨wr.heap.size,0,none⟩=some (.int .i64 pg.r.1)/\w7.cell? ⟨wr.heap.size,1,none⟩=some (.int .i64 pg.r.2)):=hI ⟨(World.cell?_of_block (a:=⟨s,1,none⟩) (HS7.out.block HST6.out.lt HST6.out.hx)).trans c1,(qT HX7.out).1,(qT HX7.out).2.1⟩;clear hr7 hP7 hS7))
     clear c1 b0 b1 b2
     obtain ⟨b0,b1,b2,-⟩:=qT HX7.out
     have ks1:=zPa HR7.out m7
     have HDT7:=hI (HDT.out.1.keep (λb hb=>HS7.out.block (HST5.out.pool.there b hb.1) hb.1) λb hb=>hb)
     have ks2:=zPa (HDT7.out.rb (B:=w7.heap.size) (λb hb=>HP7.out.there b hb.1)) pg.c
     go_wp2_with fail
     go_roundw
     case rel =>
      obtain ⟨r1,r2,r3,-,-,S',r4⟩:=zUb HIN.out (c:=N+(lv.length+fr.length - (j+1))) (by rw[show N+(lv.length+fr.length - (j+1))+1=N+(lv.length+fr.length - j) by omega];exact HLW.out) pg.r
      have hs57:Safe (λb=>x b\/New w w4 b) wr w7:=((qC HB5.out).then (qC (bR.drew))).then' HS7.out λb hb k=>.inl k
      obtain ⟨S0,hS0⟩:=HSA.out
      exact ⟨j+1,Qr.readQ pg.r,by omega,by go_num,HST.out.safe hs57 (HP7.out.less λb k=>.inl k) (λ_ k=>k) (by rw[r4];exact HST.out.cfg),r1,⟨S',by rw[r4,hS0]⟩,r3.trans HBL.out,r2,HSF.out.then hs57⟩
     case measure=>simp[intOf];omega
   . obtain rfl:j=lv.length+fr.length:=by omega
     obtain ⟨lp,fp,hpt⟩:=HST.out.pool.parts
     have HPT:=hI hpt
     have HLL:Hid ((zKq Qr.L).length=lv.length/\(zKq Qr.F).length=fr.length):=hI (by
      have h1:=HIN.out.lens
      rw[List.length_map,List.length_map] at h1
      exact ⟨(yT Qr.L []).length_eq.trans (by simpa using h1.1),(yT Qr.F []).length_eq.trans (by simpa using h1.2)⟩)
     clear hpt
     go_upto_region 8 with fail
     refine qR (λj v w'=>match j with | 0=>v=.pointer (some ⟨s,0,none⟩) | 1=>v=.pointer (some ⟨s,0,none⟩) | 2=>v=.pointer (some ⟨s,1,none⟩) | 3=>v=.pointer (some ⟨p,0,none⟩) | 4=>∃A9 m9,v=.slice A9 (zKq Qr.L).length m9/\AnyW w' | 5=>v=.int .i64 (lv.length:Int) | 6=>v=.pointer (some ⟨s,0,none⟩) | 7=>v=.pointer (some ⟨s,0,none⟩) | 8=>v=.pointer (some ⟨s,8,none⟩) | 9=>v=.slice Al lv.length cl | 10=>v=.int .i64 (lv.length:Int) | 11=>v=.bool true | 12=>v=.bool true | 13=>v=.pointer (some ⟨s,0,none⟩) | 14=>v=.pointer (some ⟨s,0,none⟩) | 15=>v=.pointer (some ⟨s,1,none⟩) | 16=>v=.pointer (some ⟨p,0,none⟩) | 17=>∃A8 m8,v=.slice A8 fr.length m8/\AnyW w' | 18=>v=.int .i64 (fr.length:Int) | 19=>v=.pointer (some ⟨s,0,none⟩) | 20=>v=.pointer (some ⟨s,0,none⟩) | 21=>v=.pointer (some ⟨s,9,none⟩) | 22=>v=.slice Af fr.length cf | 23=>v=.int .i64 (fr.length:Int) | 24=>v=.bool true | 25=>v=.bool true | 26=>v=.bool true | _=>True) (λ_ w'=>Below wr.heap.size wr w') (λw1 w2=>Below w1.heap.size w1 w2) (by kernel_rfl) (by kernel_rfl) (by kernel_rfl) ?hR ?hG ?hops ?hend
     case hR =>
      intro j v w1 w2 hv hb
      match j,hv with
      | 0,hv | 1,hv | 2,hv | 3,hv=>exact hv
      | 4,⟨A9,m9,e,h⟩=>exact ⟨A9,m9,e,h.below hb⟩
      | 5,hv | 6,hv | 7,hv | 8,hv | 9,hv | 10,hv | 11,hv | 12,hv | 13,hv | 14,hv | 15,hv | 16,hv=>exact hv
      | 17,⟨A8,m8,e,h⟩=>exact ⟨A8,m8,e,h.below hb⟩
      | 18,hv | 19,hv | 20,hv | 21,hv | 22,hv | 23,hv | 24,hv | 25,hv | 26,hv=>exact hv
      | _+27,_=>exact trivial
     case hG=>exact bR.drew
     case hops =>
      refine oC ?_ (oC ?_ (oC ?_ (oC ?_ (oC ?_ (oC ?_ (oC ?_ (oC ?_ (oC ?_ (oC ?_ (oC ?_ (oC ?_ (oC ?_ (oC ?_ (oC ?_ (oC ?_ (oC ?_ (oC ?_ (oC ?_ (oC ?_ (oC ?_ (oC ?_ (oC ?_ (oC ?_ (oC ?_ (oC ?_ (oC ?_ OpsOkS.nil))))))))))))))))))))))))))
      . intro a w1 ξ γ ν ω ζ ψ κ
        have e0:=og (v:=.pointer (some ⟨s,0,none⟩)) (ω 0 (by kernel_rfl))
        refine qB (v:=.pointer (some ⟨s,0,none⟩)) (qA rfl) ?_ (κ _ w1 rfl γ bR)
        simp[execOp,go_sem,e0]
      . intro a w1 ξ γ ν ω ζ ψ κ
        have e0:=og (v:=.pointer (some ⟨s,0,none⟩)) (ν 0 (by kernel_rfl) (by kernel_rfl))
        refine qB (v:=.pointer (some ⟨s,0,none⟩)) (qA rfl) ?_ (κ _ w1 rfl γ bR)
        simp[execOp,go_sem,e0]
      . intro a w1 ξ γ ν ω ζ ψ κ
        have e0:=og (v:=.pointer (some ⟨s,0,none⟩)) (ν 1 (by kernel_rfl) (by kernel_rfl))
        refine qB (v:=.pointer (some ⟨s,1,none⟩)) (qA rfl) ?_ (κ _ w1 rfl γ bR)
        simp[execOp,go_sem,e0]
      . intro a w1 ξ γ ν ω ζ ψ κ
        have e0:=og (v:=.pointer (some ⟨s,1,none⟩)) (ν 2 (by kernel_rfl) (by kernel_rfl))
        have k0:=(HST.out.sc.below γ).c1
        refine qB (v:=.pointer (some ⟨p,0,none⟩)) (qA rfl) ?_ (κ _ w1 rfl γ bR)
        simp[execOp,go_sem,e0,k0]
      . intro a w1 ξ γ ν ω ζ ψ κ
        have e0:=og (v:=.pointer (some ⟨p,0,none⟩)) (ν 3 (by kernel_rfl) (by kernel_rfl))
        refine qM (qA rfl) (f:=29) (args:=#[.pointer (some ⟨p,0,none⟩)]) ?run ((q_live (HPT.out.below γ) HIN.out.mid.ok).mono ?post)
        case run=>simp[go_sem,e0]
        case post =>
         rintro e w2 ⟨A9,m9,rfl,hv9⟩
         have hb2:=hv9.2.2.2
         exact ⟨_,rfl,κ _ w2 ⟨A9,m9,rfl,⟨trivial⟩⟩ (γ.trans (hb2.mono γ.size)) hb2⟩
      . intro a w1 ξ γ ν ω ζ ψ κ
        obtain ⟨A9,m9,qe0,he0⟩ := ν 4 (by kernel_rfl) (by kernel_rfl)
        have e0:a.tmps[48]?.getD undef=.slice A9 (zKq Qr.L).length m9:=by rw[<- Array.getD_eq_getD_getElem?];exact qe0
        refine qB (v:=.int .i64 (lv.length:Int)) (qA rfl) ?_ (κ _ w1 rfl γ bR)
        simp[go_sem,e0,HLL.out.1]
      . intro a w1 ξ γ ν ω ζ ψ κ
        have e0:=og (v:=.pointer (some ⟨s,0,none⟩)) (ω 0 (by kernel_rfl))
        refine qB (v:=.pointer (some ⟨s,0,none⟩)) (qA rfl) ?_ (κ _ w1 rfl γ bR)
        simp[execOp,go_sem,e0]
      . intro a w1 ξ γ ν ω ζ ψ κ
        have e0:=og (v:=.pointer (some ⟨s,0,none⟩)) (ν 6 (by kernel_rfl) (by kernel_rfl))
        refine qB (v:=.pointer (some ⟨s,0,none⟩)) (qA rfl) ?_ (κ _ w1 rfl γ bR)
        simp[execOp,go_sem,e0]
      . intro a w1 ξ γ ν ω ζ ψ κ
        have e0:=og (v:=.pointer (some ⟨s,0,none⟩)) (ν 7 (by kernel_rfl) (by kernel_rfl))
        refine qB (v:=.pointer (some ⟨s,8,none⟩)) (qA rfl) ?_ (κ _ w1 rfl γ bR)
        simp[execOp,go_sem,e0]
      . intro a w1 ξ γ ν ω ζ ψ κ
        have e0:=og (v:=.pointer (some ⟨s,8,none⟩)) (ν 8 (by kernel_rfl) (by kernel_rfl))
        have k0:=(HST.out.sc.below γ).c8
        refine qB (v:=.slice Al lv.length cl) (qA rfl) ?_ (κ _ w1 rfl γ bR)
        simp[execOp,go_sem,e0,k0]
      . intro a w1 ξ γ ν ω ζ ψ κ
        have e0:=og (v:=.slice Al lv.length cl) (ν 9 (by kernel_rfl) (by kernel_rfl))
        refine qB (v:=.int .i64 (lv.length:Int)) (qA rfl) ?_ (κ _ w1 rfl γ bR)
        simp[go_sem,e0]
      . intro a w1 ξ γ ν ω ζ ψ κ
        have e0:=og (v:=.int .i64 (lv.length:Int)) (ν 5 (by kernel_rfl) (by kernel_rfl))
        have e1:=og (v:=.int .i64 (lv.length:Int)) (ν 10 (by kernel_rfl) (by kernel_rfl))
        refine qB (v:=.bool true) (qA rfl) ?_ (κ _ w1 rfl γ bR)
        simp[execOp,go_sem,e0,e1]
      . intro a w1 ξ γ ν ω ζ ψ κ
        have e0:=og (v:=.bool true) (ν 11 (by kernel_rfl) (by kernel_rfl))
        refine qB (v:=.bool true) (qA rfl) ?_ (κ _ w1 rfl γ bR)
        simp[execOp,go_sem,e0]
      . intro a w1 ξ γ ν ω ζ ψ κ
        have e0:=og (v:=.pointer (some ⟨s,0,none⟩)) (ω 0 (by kernel_rfl))
        refine qB (v:=.pointer (some ⟨s,0,none⟩)) (qE (j:=12) rfl (ν 12 (by kernel_rfl) (by kernel_rfl))) ?_ (κ _ w1 rfl γ bR)
        simp[execOp,go_sem,e0]
      . intro a w1 ξ γ ν ω ζ ψ κ
        have e0:=og (v:=.pointer (some ⟨s,0,none⟩)) (ν 13 (by kernel_rfl) (by kernel_rfl))
        refine qB (v:=.pointer (some ⟨s,0,none⟩)) (qE (j:=12) rfl (ν 12 (by kernel_rfl) (by kernel_rfl))) ?_ (κ _ w1 rfl γ bR)
        simp[execOp,go_sem,e0]
      . intro a w1 ξ γ ν ω ζ ψ κ
        have e0:=og (v:=.pointer (some ⟨s,0,none⟩)) (ν 14 (by kernel_rfl) (by kernel_rfl))
        refine qB (v:=.pointer (some ⟨s,1,none⟩)) (qE (j:=12) rfl (ν 12 (by kernel_rfl) (by kernel_rfl))) ?_ (κ _ w1 rfl γ bR)
        simp[execOp,go_sem,e0]
      . intro a w1 ξ γ ν ω ζ ψ κ
        have e0:=og (v:=.pointer (some ⟨s,1,none⟩)) (ν 15 (by kernel_rfl) (by kernel_rfl))
        have k0:=(HST.out.sc.below γ).c1
        refine qB (v:=.pointer (some ⟨p,0,none⟩)) (qE (j:=12) rfl (ν 12 (by kernel_rfl) (by kernel_rfl))) ?_ (κ _ w1 rfl γ bR)
        simp[execOp,go_sem,e0,k0]
      . intro a w1 ξ γ ν ω ζ ψ κ
        have e0:=og (v:=.pointer (some ⟨p,0,none⟩)) (ν 16 (by kernel_rfl) (by kernel_rfl))
        refine qM (qE (j:=12) rfl (ν 12 (by kernel_rfl) (by kernel_rfl))) (f:=30) (args:=#[.pointer (some ⟨p,0,none⟩)]) ?run ((q_new (HPT.out.below γ) HIN.out.mid.ok).mono ?post)
        case run=>simp[go_sem,e0]
        case post =>
         rintro e w2 ⟨A8,m8,l8,rfl,hp8,-,-,hb2⟩
         have hl8:l8.length=fr.length:=by rw[hp8.length_eq,List.length_map];exact HLL.out.2
         rw[hl8]
         exact ⟨_,rfl,κ _ w2 ⟨A8,m8,rfl,⟨trivial⟩⟩ (γ.trans (hb2.mono γ.size)) hb2⟩
      . intro a w1 ξ γ ν ω ζ ψ κ
        obtain ⟨A8,m8,qe0,he0⟩ := ν 17 (by kernel_rfl) (by kernel_rfl)
        have e0:a.tmps[61]?.getD undef=.slice A8 fr.length m8:=by rw[<- Array.getD_eq_getD_getElem?];exact qe0
        refine qB (v:=.int .i64 (fr.length:Int)) (qE (j:=12) rfl (ν 12 (by kernel_rfl) (by kernel_rfl))) ?_ (κ _ w1 rfl γ bR)
        simp[go_sem,e0]
      . intro a w1 ξ γ ν ω ζ ψ κ
        have e0:=og (v:=.pointer (some ⟨s,0,none⟩)) (ω 0 (by kernel_rfl))
        refine qB (v:=.pointer (some ⟨s,0,none⟩)) (qE (j:=12) rfl (ν 12 (by kernel_rfl) (by kernel_rfl))) ?_ (κ _ w1 rfl γ bR)
        simp[execOp,go_sem,e0]
      . intro a w1 ξ γ ν ω ζ ψ κ
        have e0:=og (v:=.pointer (some ⟨s,0,none⟩)) (ν 19 (by kernel_rfl) (by kernel_rfl))
        refine qB (v:=.pointer (some ⟨s,0,none⟩)) (qE (j:=12) rfl (ν 12 (by kernel_rfl) (by kernel_rfl))) ?_ (κ _ w1 rfl γ bR)
        simp[execOp,go_sem,e0]
      . intro a w1 ξ γ ν ω ζ ψ κ
        have e0:=og (v:=.pointer (some ⟨s,0,none⟩)) (ν 20 (by kernel_rfl) (by kernel_rfl))
        refine qB (v:=.pointer (some ⟨s,9,none⟩)) (qE (j:=12) rfl (ν 12 (by kernel_rfl) (by kernel_rfl))) ?_ (κ _ w1 rfl γ bR)
        simp[execOp,go_sem,e0]
      . intro a w1 ξ γ ν ω ζ ψ κ
        have e0:=og (v:=.pointer (some ⟨s,9,none⟩)) (ν 21 (by kernel_rfl) (by kernel_rfl))
        have k0:=(HST.out.sc.below γ).c9
        refine qB (v:=.slice Af fr.length cf) (qE (j:=12) rfl (ν 12 (by kernel_rfl) (by kernel_rfl))) ?_ (κ _ w1 rfl γ bR)
        simp[execOp,go_sem,e0,k0]
      . intro a w1 ξ γ ν ω ζ ψ κ
        have e0:=og (v:=.slice Af fr.length cf) (ν 22 (by kernel_rfl) (by kernel_rfl))
        refine qB (v:=.int .i64 (fr.length:Int)) (qE (j:=12) rfl (ν 12 (by kernel_rfl) (by kernel_rfl))) ?_ (κ _ w1 rfl γ bR)
        simp[go_sem,e0]
      . intro a w1 ξ γ ν ω ζ ψ κ
        have e0:=og (v:=.int .i64 (fr.length:Int)) (ν 18 (by kernel_rfl) (by kernel_rfl))
        have e1:=og (v:=.int .i64 (fr.length:Int)) (ν 23 (by kernel_rfl) (by kernel_rfl))
        refine qB (v:=.bool true) (qE (j:=12) rfl (ν 12 (by kernel_rfl) (by kernel_rfl))) ?_ (κ _ w1 rfl γ bR)
        simp[execOp,go_sem,e0,e1]
      . intro a w1 ξ γ ν ω ζ ψ κ
        have e0:=og (v:=.bool true) (ν 12 (by kernel_rfl) (by kernel_rfl))
        have e1:=og (v:=.bool true) (ν 24 (by kernel_rfl) (by kernel_rfl))
        refine qB (v:=.bool true) (qA rfl) ?_ (κ _ w1 rfl γ bR)
        simp[execOp,go_sem,asBool,e0,e1]
      . intro a w1 ξ γ ν ω ζ ψ κ
        have e0:=og (v:=.bool true) (ν 25 (by kernel_rfl) (by kernel_rfl))
        refine qB (v:=.bool true) (qA rfl) ?_ (κ _ w1 rfl γ bR)
        simp[execOp,go_sem,e0]
     case hend =>
      intro a w6 hG hde hsz hφ hold
      obtain ⟨A9_4,m9_4,hv_4,hp_4⟩:=hφ 4 (by kernel_rfl)
      obtain ⟨A8_17,m8_17,hv_17,hp_17⟩:=hφ 17 (by kernel_rfl)
      obtain rfl:=qy [(44,.pointer (some ⟨s,0,none⟩)),(45,.pointer (some ⟨s,0,none⟩)),(46,.pointer (some ⟨s,1,none⟩)),(47,.pointer (some ⟨p,0,none⟩)),(48,.slice A9_4 (zKq Qr.L).length m9_4),(49,.int .i64 (lv.length:Int)),(50,.pointer (some ⟨s,0,none⟩)),(51,.pointer (some ⟨s,0,none⟩)),(52,.pointer (some ⟨s,8,none⟩)),(53,.slice Al lv.length cl),(54,.int .i64 (lv.length:Int)),(55,.bool true),(56,.bool true),(57,.pointer (some ⟨s,0,none⟩)),(58,.pointer (some ⟨s,0,none⟩)),(59,.pointer (some ⟨s,1,none⟩)),(60,.pointer (some ⟨p,0,none⟩)),(61,.slice A8_17 fr.length m8_17),(62,.int .i64 (fr.length:Int)),(63,.pointer (some ⟨s,0,none⟩)),(64,.pointer (some ⟨s,0,none⟩)),(65,.pointer (some ⟨s,9,none⟩)),(66,.slice Af fr.length cf),(67,.int .i64 (fr.length:Int)),(68,.bool true),(69,.bool true),(2,.bool true)] [44,45,46,47,48,49,50,51,52,53,54,55,56,57,58,59,60,61,62,63,64,65,66,67,68,69,2] rfl (by kernel_rfl) (by kernel_rfl) hde hsz (fC ⟨(show a.tmps.getD 44 undef=.pointer (some ⟨s,0,none⟩) from (hφ 0 (by kernel_rfl))),(fC ⟨(show a.tmps.getD 45 undef=.pointer (some ⟨s,0,none⟩) from (hφ 1 (by kernel_rfl))),(fC ⟨(show a.tmps.getD 46 undef=.pointer (some ⟨s,1,none⟩) from (hφ 2 (by kernel_rfl))),(fC ⟨(show a.tmps.getD 47 undef=.pointer (some ⟨p,0,none⟩) from (hφ 3 (by kernel_rfl))),(fC ⟨(show a.tmps.getD 48 undef=.slice A9_4 (zKq Qr.L).length m9_4 from hv_4),(fC ⟨(show a.tmps.getD 49 undef=.int .i64 (lv.length:Int) from (hφ 5 (by kernel_rfl))),(fC ⟨(show a.tmps.getD 50 undef=.pointer (some ⟨s,0,none⟩) from (hφ 6 (by kernel_rfl))),(fC ⟨(show a.tmps.getD 51 undef=.pointer (some ⟨s,0,none⟩) from (hφ 7 (by kernel_rfl))),(fC ⟨(show a.tmps.getD 52 undef=.pointer (some ⟨s,8,none⟩) from (hφ 8 (by kernel_rfl))),(fC ⟨(show a.tmps.getD 53 undef=.slice Al lv.length cl from (hφ 9 (by kernel_rfl))),(fC ⟨(show a.tmps.getD 54 undef=.int .i64 (lv.length:Int) from (hφ 10 (by kernel_rfl))),(fC ⟨(show a.tmps.getD 55 undef=.bool true from (hφ 11 (by kernel_rfl))),(fC ⟨(show a.tmps.getD 56 undef=.bool true from (hφ 12 (by kernel_rfl))),(fC ⟨(show a.tmps.getD 57 undef=.pointer (some ⟨s,0,none⟩) from (hφ 13 (by kernel_rfl))),(fC ⟨(show a.tmps.getD 58 undef=.pointer (some ⟨s,0,none⟩) from (hφ 14 (by kernel_rfl))),(fC ⟨(show a.tmps.getD 59 undef=.pointer (some ⟨s,1,none⟩) from (hφ 15 (by kernel_rfl))),(fC ⟨(show a.tmps.getD 60 undef=.pointer (some ⟨p,0,none⟩) from (hφ 16 (by kernel_rfl))),(fC ⟨(show a.tmps.getD 61 undef=.slice A8_17 fr.length m8_17 from hv_17),(fC ⟨(show a.tmps.getD 62 undef=.int .i64 (fr.length:Int) from (hφ 18 (by kernel_rfl))),(fC ⟨(show a.tmps.getD 63 undef=.pointer (some ⟨s,0,none⟩) from (hφ 19 (by kernel_rfl))),(fC ⟨(show a.tmps.getD 64 undef=.pointer (some ⟨s,0,none⟩) from (hφ 20 (by kernel_rfl))),(fC ⟨(show a.tmps.getD 65 undef=.pointer (some ⟨s,9,none⟩) from (hφ 21 (by kernel_rfl))),(fC ⟨(show a.tmps.getD 66 undef=.slice Af fr.length cf from (hφ 22 (by kernel_rfl))),(fC ⟨(show a.tmps.getD 67 undef=.int .i64 (fr.length:Int) from (hφ 23 (by kernel_rfl))),(fC ⟨(show a.tmps.getD 68 undef=.bool true from (hφ 24 (by kernel_rfl))),(fC ⟨(show a.tmps.getD 69 undef=.bool true from (hφ 25 (by kernel_rfl))),(fC ⟨(show a.tmps.getD 2 undef=.bool true from (hφ 26 (by kernel_rfl))),(λ_ h=>absurd h (by simp))⟩)⟩)⟩)⟩)⟩)⟩)⟩)⟩)⟩)⟩)⟩)⟩)⟩)⟩)⟩)⟩)⟩)⟩)⟩)⟩)⟩)⟩)⟩)⟩)⟩)⟩)⟩) hold
      clear hφ hold hsz hde hv_4 hv_17
      simp only[qd]
      go_frame
      go_wp2_with fail
      go_ret
      refine ⟨rfl,Qr,_,HST.out.below hG,HIN.out,HSA.out,HBL.out,by have:=HLW.out;rw[Nat.sub_self] at this;exact this,(qC HB4.out).then' (HSF.out.then (qC hG)) λb _ k=>.inl k,λb k=>.inl (.inl k)⟩
end
end
section
open Go.RowKit
attribute [local go_sem] Oper.semAt_some
def vJ (all:List Pg) (pk:List Bool) (K:Int) (out:List Pg) (i:Nat):List Pg:=match all[i]? with
 | none=>out
 | some x=>if x.r.1=0\/pk.length<=i\/pk.getD i false=false\/K<=(out.length:Int)\/(out.any λy=>y.r.1==x.r.1)=true then out else out++[x]
def vb (all:List Pg) (pk:List Bool) (K:Int):Nat->List Pg
 | 0=>[]
 | m+1=>vJ all pk K (vb all pk K m) (all.length - 1 - m)
def zDn (all:List Pg) (pk:List Bool) (K:Int):List Pg:=vb all pk K all.length
theorem zMt (all:List Pg) (pk:List Bool) (K:Int) (out:List Pg) (i:Nat):(vJ all pk K out i).length<=out.length+1:=by
 unfold vJ
 split
 . omega
 . split<;>simp
theorem zUe (all:List Pg) (pk:List Bool) (K:Int) (m:Nat):(vb all pk K m).length<=m:=by
 induction m with
 | zero=>exact Nat.le_refl _
 | succ m ih =>
  have:=zMt all pk K (vb all pk K m) (all.length - 1 - m)
  show (vJ _ _ _ _ _).length<=_
  omega
theorem pickS_at {all:List Pg} {i:Nat} (hi:i<all.length) (pk:List Bool) (K:Int) (out:List Pg):vJ all pk K out i=if all[i].r.1=0\/pk.length<=i\/pk.getD i false=false\/K<=(out.length:Int)\/(out.any λy=>y.r.1==all[i].r.1)=true then out else out++[all[i]]:=by
 unfold vJ
 rw[List.getElem?_eq_getElem hi]
section
variable {w:World}
theorem yBh (w:World):GOwn (w.alloc (.cells #[] 36)) w.heap.size (.slice (some ⟨w.heap.size,0,none⟩) 0 0) [] :=
 World.ownsRow_lit (base:=w.heap.size) (e:=36) (size:=3) w #[] 0 nL (by omega) rfl
theorem zPx (A1 A2:Option Addr) (c1 c2:Nat) (l1 l2:List Pg) (Ap:Option Addr) (cp:Nat) (pk:List Bool) (K:Int) (w:World) (h1:GLies w A1 l1) (h2:GLies w A2 l2) (n1:A1=none->l1 = []/\c1=0) (n2:A2=none->l2 = []/\c2=0) (hp:BA w Ap pk) (hl1:l1.length<=1000) (hl2:l2.length<=1000) (hlp:pk.length<=1000) :
 Calls Tryz.prog 17 #[.slice A1 l1.length c1,.slice A2 l2.length c2,.slice Ap pk.length cp,.int .i64 K] w λe w'=>∃A c,e=.returned (.slice A (zDn (l1++l2) pk K).length c)/\GOwn w' w.heap.size (.slice A (zDn (l1++l2) pk K).length c) (zDn (l1++l2) pk K)/\Below w.heap.size w w':=by
 have H1:=hI h1
 have H2:=hI h2
 have N1:=hI n1
 have N2:=hI n2
 have HPk:=hI hp
 have HE0:=hI (yBh w)
 have HB0:Hid (Below w.heap.size w (w.alloc (.cells #[] 36))):=hI (bR.alloc nL _)
 clear h1 h2 n1 n2 hp
 go_enter Tryz.func17,Tryz.ntmps17
 go_upto_region 3 with (first
  | (at_builtin;(with_reducible refine zBq rfl (.tmp 16) (.tmp 17) rfl w.heap.size (.slice (some ⟨w.heap.size,0,none⟩) 0 0) [] l1 A1 c1 rfl rfl HE0.out (H1.out.below HB0.out) N1.out (by simp;omega) HB0.out.size ?_);intro q3 cap3 w3 hown hgr;simp only[List.nil_append,List.length_nil,Nat.zero_add] at hown;have HO3:=hI hown;have HB3:Hid (Below w.heap.size w w3):=hI (yn HE0.out HB0.out hgr HB0.out.size);clear hown hgr)
  | (at_builtin;(with_reducible refine zBq rfl (.tmp 18) (.tmp 19) rfl w.heap.size (.slice q3 l1.length cap3) l1 l2 A2 c2 rfl rfl HO3.out (H2.out.below HB3.out) N2.out (by omega) HB3.out.size ?_);intro q4 cap4 w4 hown hgr;have HO4:=hI hown;have HB4:Hid (Below w.heap.size w w4):=hI (yn HO3.out HB3.out hgr HB3.out.size);clear hown hgr))
 obtain ⟨all,hall⟩:∃all,all=l1++l2:=⟨_,rfl⟩
 have HALL:=hI hall
 have hlen:all.length=l1.length+l2.length:=by rw[hall,List.length_append]
 rw[<- hall] at HO4
 generalize hn:l1.length+l2.length=n at HO4 hlen ⊢
 have hnb:n<=2000:=by omega
 have HLn:=hI hlen
 have HL4:=hI HO4.out.lies
 clear hall hlen hn
 have en:IntKind.i64.wrap ((n:Int) - 1)=(n:Int) - 1:=by rw[IntKind.wrap_i64];omega
 go_wp2_with fail
 go_loopw [9,11] (λv9 v11 wr=>∃(k:Nat) (z:Int),k<=n/\z=(k:Int) - 1/\v11=.int .i64 z/\GOwn wr w4.heap.size v9 (vb all pk K (n - k))/\Below w4.heap.size w4 wr) (λ_ v11 _=>(intOf v11+1).toNat)
 case atStart=>exact ⟨n,_,Nat.le_refl _,rfl,rfl,by rw[Nat.sub_self];exact zEv _ _,bR⟩
 case round =>
  obtain ⟨k,z,hk,hz,rfl,hO,hB⟩:=hrel
  have HO:=hI hO
  have HB:=hI hB
  have hs:=hB.size
  clear hO hB
  obtain ⟨w5,rfl⟩:∃w5,w5=wr:=⟨_,rfl⟩
  cases k with
  | zero =>
   obtain rfl:z = -1:=by omega
   clear hz
   have HO':=HO.out
   rw[Nat.sub_zero,<- HLn.out] at HO'
   have HOE:=hI (show GOwn w5 w4.heap.size _ (zDn all pk K) from HO')
   obtain ⟨V,mv,rfl,_⟩:=qN HOE.out
   clear HO' HO
   go_wp2_with fail
   go_ret
   rw[<- HALL.out]
   exact ⟨V,mv,rfl,⟨HOE.out.1,HOE.out.2.imp id λ⟨g,cap,cur,e1,e2,e3⟩=>⟨g,cap,cur,e1,Nat.le_trans HB4.out.size e2,e3⟩⟩,HB4.out.trans (HB.out.mono HB4.out.size)⟩
  | succ i =>
   obtain rfl:z=(i:Int):=by omega
   clear hz
   have hi:i<n:=by omega
   have hia:i<all.length:=by rw[HLn.out];exact hi
   obtain ⟨B,o,hq4,hBs,hc⟩:=HL4.out.1 (by omega)
   subst hq4
   obtain ⟨e0,e1,e2⟩:=hc i hia
   have hk':w5.heap[B]? = w4.heap[B]? := HB.out.block B hBs
   have k0:=(World.cell?_of_block (a:=⟨B,o+i * 3,none⟩) hk').trans e0
   have k1:=(World.cell?_of_block (a:=⟨B,o+i * 3+1,none⟩) hk').trans e1
   have k2:=(World.cell?_of_block (a:=⟨B,o+i * 3+2,none⟩) hk').trans e2
   obtain ⟨out,hout⟩:∃out,out=vb all pk K (n - (i+1)):=⟨_,rfl⟩
   have hol:out.length<=2000:=by rw[hout];have:=zUe all pk K (n - (i+1));omega
   rw[<- hout] at HO
   have hst:vb all pk K (n - i)=vJ all pk K out i:=by
    rw[show n - i=(n - (i+1))+1 by omega]
    show vJ all pk K (vb all pk K (n - (i+1))) (all.length - 1 - (n - (i+1)))=_
    rw[<- hout,show all.length - 1 - (n - (i+1))=i by rw[HLn.out];omega]
   rw[pickS_at hia] at hst
   have hmem:all[i]∈all:=List.getElem_mem _
   generalize all[i]=pg at k0 k1 k2 hst hmem
   have HST:=hI hst
   obtain ⟨V,mv,rfl,_⟩:=qN HO.out
   clear hc e0 e1 e2 hk' hst hout hmem
   have ei:IntKind.i64.wrap ((i:Int) - 1)=(i:Int) - 1:=by rw[IntKind.wrap_i64];omega
   obtain ⟨W6,hW6⟩:∃W6,W6=w5.alloc (.cells #[.int .i64 pg.r.1,.int .i64 pg.r.2,.slice pg.A pg.d.length pg.c] 36):=⟨_,rfl⟩
   have HB6:Hid (Below w5.heap.size w5 W6):=hI (by rw[hW6];exact bR.alloc nL _)
   have HX6:Hid (W6.heap[w5.heap.size]? = some (.cells #[.int .i64 pg.r.1,.int .i64 pg.r.2,.slice pg.A pg.d.length pg.c] 36 (0,0))):=hI (by rw[hW6];exact heap_alloc_new _ _)
   have HBZ:Hid (Below w4.heap.size w4 W6):=hI (HB.out.trans (HB6.out.mono hs))
   have HOZ:=hI (yS HO.out HB6.out)
   have hz6:W6.heap.size=w5.heap.size+1:=by rw[hW6];simp
   go_upto_region 7 with fail
   rw[<- hW6]
   clear hW6 k0 k1 k2
   obtain ⟨b0,b1,b2,-⟩:=qT HX6.out
   by_cases q1:pg.r.1=0
   . have HQ:=hI (HST.out.trans (if_pos (.inl q1)))
     rw[q1] at b0
     go_wp2_with fail
     go_roundw
     case rel=>exact ⟨i,_,by omega,rfl,by go_num,by rw[HQ.out];exact HOZ.out,HBZ.out⟩
     case measure=>simp[intOf]
   . by_cases q2:pk.length<=i
     . have HQ:=hI (HST.out.trans (if_pos (.inr (.inl q2))))
       go_wp2_with fail
       go_roundw
       case rel=>exact ⟨i,_,by omega,rfl,by go_num,by rw[HQ.out];exact HOZ.out,HBZ.out⟩
       case measure=>simp[intOf]
     . have q2':i<pk.length:=by omega
       obtain ⟨Bp,op',hAp,hBp,hcp⟩:=HPk.out (by omega)
       subst hAp
       have kp:=(World.cell?_of_block (a:=⟨Bp,op'+i,none⟩) ((HB4.out.trans (HBZ.out.mono HB4.out.size)).block Bp hBp)).trans (hcp i q2')
       have hgd:pk.getD i false=pk[i]:=by rw[List.getD_eq_getElem?_getD,List.getElem?_eq_getElem q2'];rfl
       have HGD:=hI hgd
       clear hcp hgd
       generalize pk[i]=bt at kp HGD
       cases bt with
       | false =>
        have HQ:=hI (HST.out.trans (if_pos (.inr (.inr (.inl HGD.out)))))
        go_wp2_with fail
        go_roundw
        case rel=>exact ⟨i,_,by omega,rfl,by go_num,by rw[HQ.out];exact HOZ.out,HBZ.out⟩
        case measure=>simp[intOf]
       | true =>
        by_cases q4:K<=(out.length:Int)
        . skip
          have HQ:=hI (HST.out.trans (if_pos (.inr (.inr (.inr (.inl q4))))))
          go_wp2_with fail
          go_roundw
          case rel=>exact ⟨i,_,by omega,rfl,by go_num,by rw[HQ.out];exact HOZ.out,HBZ.out⟩
          case measure=>simp[intOf]
        . have q3:¬pk.getD i false=false:=by rw[HGD.out];simp
          have HQ0:Hid (¬(pg.r.1=0\/pk.length<=i\/pk.getD i false=false\/K<=(out.length:Int))):=hI (by rintro (k | k | k | k);exact q1 k;exact q2 k;exact q3 k;exact q4 k)
          have hq1:(pg.r.1==0)=false:=by simpa using q1
          clear q3
          go_wp2_with fail
          clear hq1 kp
          go_loopw [13,57] (λv13 v57 wr=>∃j:Nat,j<=out.length/\v57=.int .i64 j/\v13=.bool ((out.take j).any λy=>y.r.1==pg.r.1)/\Below W6.heap.size W6 wr) (λ_ v57 _=>out.length - (intOf v57).toNat)
          case atStart=>exact ⟨0,Nat.zero_le _,rfl,rfl,bR⟩
          case round =>
           obtain ⟨j,hj,rfl,rfl,hB7⟩:=hrel
           have HB7:=hI hB7
           have hs7:=hB7.size
           clear hB7 b0 b1 b2
           have HX7:=hI ((HB7.out.block w5.heap.size (by omega)).trans HX6.out)
           obtain ⟨b0,b1,b2,-⟩:=qT HX7.out
           by_cases hj1:j<out.length
           . obtain ⟨Bo,oo,hVo,hBo,hco⟩:=(yS HOZ.out HB7.out).lies.1 (by omega)
             subst hVo
             obtain ⟨f0,f1,f2⟩:=hco j hj1
             have HTK:Hid (((out.take (j+1)).any λy=>y.r.1==pg.r.1)=(((out.take j).any λy=>y.r.1==pg.r.1)||out[j].r.1==pg.r.1)):=hI (by rw[List.take_succ_eq_append_getElem hj1,List.any_append];simp)
             generalize out[j]=pj at f0 f1 f2 HTK
             clear hco
             obtain ⟨W8,hW8⟩:∃W8,W8=wr.alloc (.cells #[.int .i64 pj.r.1,.int .i64 pj.r.2,.slice pj.A pj.d.length pj.c] 36):=⟨_,rfl⟩
             have HB8:Hid (Below wr.heap.size wr W8):=hI (by rw[hW8];exact bR.alloc nL _)
             have HX8:Hid (W8.heap[wr.heap.size]? = some (.cells #[.int .i64 pj.r.1,.int .i64 pj.r.2,.slice pj.A pj.d.length pj.c] 36 (0,0))):=hI (by rw[hW8];exact heap_alloc_new _ _)
             have hlt7:w5.heap.size<wr.heap.size:=by omega
             go_upto_region 12 with fail
             rw[<- hW8]
             clear hW8 f0 f1 f2 b0 b1 b2
             obtain ⟨a0,a1,a2,-⟩:=qT HX8.out
             obtain ⟨b0,b1,b2,-⟩:=qT ((HB8.out.block w5.heap.size hlt7).trans HX7.out)
             generalize hbt:((out.take j).any λy=>y.r.1==pg.r.1)=bt at HTK ⊢
             clear hbt
             cases bt with
             | true =>
              go_wp2_with fail
              go_roundw
              case rel=>exact ⟨j+1,by omega,by go_num,by rw[HTK.out];rfl,HB7.out.trans (HB8.out.mono hs7)⟩
              case measure=>simp[intOf];omega
             | false =>
              go_wp2_with fail
              go_roundw
              case rel=>exact ⟨j+1,by omega,by go_num,by rw[HTK.out];simp,HB7.out.trans (HB8.out.mono hs7)⟩
              case measure=>simp[intOf];omega
           . obtain rfl:j=out.length:=by omega
             rw[List.take_length]
             have HO7:=hI (yS HOZ.out HB7.out)
             have HB9:Hid (Below w4.heap.size w4 wr):=hI (HBZ.out.trans (HB7.out.mono HBZ.out.size))
             generalize hbt:(out.any λy=>y.r.1==pg.r.1)=bt
             cases bt with
             | true =>
              have HQ:=hI (HST.out.trans (if_pos (.inr (.inr (.inr (.inr hbt))))))
              clear hbt
              go_wp2_with fail
              go_roundw
              case rel=>exact ⟨i,_,by omega,rfl,by go_num,by rw[HQ.out];exact HO7.out,HB9.out⟩
              case measure=>simp[intOf]
             | false =>
              have HQ:=hI (HST.out.trans (if_neg (by
               rintro (k | k | k | k | k)
               . exact HQ0.out (.inl k)
               . exact HQ0.out (.inr (.inl k))
               . exact HQ0.out (.inr (.inr (.inl k)))
               . exact HQ0.out (.inr (.inr (.inr k)))
               . rw[hbt] at k;cases k)))
              clear hbt
              have HB10:Hid (Below wr.heap.size wr (wr.alloc (.cells #[.int .i64 pg.r.1,.int .i64 pg.r.2,.slice pg.A pg.d.length pg.c] 36))):=hI (bR.alloc nL _)
              have HS10:Hid (w4.heap.size<=(wr.alloc (.cells #[.int .i64 pg.r.1,.int .i64 pg.r.2,.slice pg.A pg.d.length pg.c] 36)).heap.size):=hI (Nat.le_trans HB9.out.size HB10.out.size)
              go_wp2_with (at_builtin;(with_reducible refine zBq rfl (.tmp 74) (.tmp 76) rfl w4.heap.size (.slice V out.length mv) out [pg] (some ⟨wr.heap.size,0,none⟩) 1 rfl rfl (yS HO7.out HB10.out) (zBx wr pg rfl) (by intro h;cases h) (by simp;omega) HS10.out ?_);intro q9 cap9 w9 hown hgr;have HO9:=hI hown;have HB11:Hid (Below w4.heap.size w4 w9):=hI (yn (yS HO7.out HB10.out) (HB9.out.trans (HB10.out.mono HB9.out.size)) hgr HS10.out);clear hown hgr)
              go_roundw
              case rel=>exact ⟨i,_,by omega,rfl,by go_num,by rw[HQ.out];exact HO9.out,HB11.out⟩
              case measure=>simp[intOf]
end
end
end Go.Proofs.YtinkkmlbhkfmnaaGreat
