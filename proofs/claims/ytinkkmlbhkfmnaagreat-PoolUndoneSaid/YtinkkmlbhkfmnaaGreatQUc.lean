/- A part of what the last text proves. -/
import Derived.Test.YtinkkmlbhkfmnaaGreatQUb
import Derived.Test.YtinkkmlbhkfmnaaGreatQPoOpen
set_option maxRecDepth 100000
set_option maxHeartbeats 40000000
namespace Go.Proofs.YtinkkmlbhkfmnaaGreat
open Go.RowKit
attribute [local go_sem] Oper.semAt_some
theorem rb_cbU {w w':World} {C:Nat->Prop} {A:Option Addr} {l:List UInt8} (h:RB w w.heap.size A l) (hb:Below w.heap.size w w') (hc:∀b,b<w.heap.size->C b):CB w' C A l:=λhn=>by
 obtain ⟨ad,e,Ab,hk⟩:=h hn
 refine ⟨ad,e,hc _ Ab,λj hj=>?_⟩
 have e2:(ad.add j).block=ad.block:=by unfold Addr.add;split<;>rfl
 exact (World.cell?_of_block (a:=ad.add j) (by rw[e2];exact hb.block _ Ab)).trans (hk j hj)
section
variable {N:Nat} {w wx w2:World} {s p c:Nat} {y:Nat->Prop} {g:Cf} {Q:PS} {D:Dat} {lv fr:List Pg} {Al:Option Addr} {cl:Nat} {Af:Option Addr} {cf cc cc' m m':Nat} {gs:List P2} {Gb:Option Nat}
theorem Und.weak (h:Und N w s p c y g Q D lv fr Al cl Af cf cc m gs Gb wx) (hc:cc'<=cc) (hm:m<=m'):Und N w s p c y g Q D lv fr Al cl Af cf cc' m' gs Gb wx :=
 ⟨⟨h.sit.st,h.sit.inv,h.sit.dat,h.sit.bud.less hc,h.sit.calm,h.sit.over⟩,h.root,h.lenl,h.far,h.big,h.bel,by have:=h.seq;omega,h.gone,h.wfs,h.lone⟩
theorem Und.own {v:Value} {l:List P2} {x:Nat->Prop} (h:Und N w s p c y g Q D lv fr Al cl Af cf cc m gs v.ownBlock wx) (ho:ROwn wx N v l) (hs:Safe x wx w2) (hx:∀b,vW y s Af b->x b):ROwn w2 N v l :=
 vS ho λk e=>Safe.block hs (World.ownsRow.lt ho k e).2 (hx k (h.lone k e).1)
end
theorem rown_keep {w w':World} {base:Nat} {v:Value} {l:List P2} (h:ROwn w base v l) (hb:Below w.heap.size w w'):ROwn w' base v l:=vS h λk e=>hb.block k (World.ownsRow.lt h k e).2
def Rnd (N:Nat) (w:World) (s p c:Nat) (g:Cf) (k:Nat) (v:Value) (wx:World):Prop :=
 ∃Q D lv fr Al cl Af cf y gs Gq gc,v=.slice Gq gs.length gc/\Und N w s p c y g Q D lv fr Al cl Af cf (2 * (121 - k)+1) (2 * k) gs (Value.slice Gq gs.length gc).ownBlock wx/\ROwn wx N (.slice Gq gs.length gc) gs/\fr.length<=k % 3/\gs.length+k % 3<=k
theorem undone_law (B P Sp K U:Int) (A:Option Addr) (m:Nat) (l:List Cal) (w:World) (hc:CalsLie w A l) (B1:∀q∈l,CalOk w q) (hl:l.length<=maxLen):Calls Tryz.prog 7 #[.agg #[.int .i64 B,.int .i64 P,.int .i64 Sp,.int .i64 K,.int .i64 U],.slice A l.length m] w λe w'=>e=.returned (.bool true)/\Below w.heap.size w w':=by
 obtain ⟨W,hW⟩:∃W,W=w.alloc (.cells #[.int .i64 B,.int .i64 P,.int .i64 Sp,.int .i64 K,.int .i64 U] 23):=⟨_,rfl⟩
 have hbW:Below w.heap.size w W:=by rw[hW];exact bR.alloc nL _
 have Ac:=hI hbW
 have HX:Hid (W.heap[w.heap.size]? = some (.cells #[.int .i64 B,.int .i64 P,.int .i64 Sp,.int .i64 K,.int .i64 U] 23 (0,0))):=hI (by rw[hW];exact heap_alloc_new _ _)
 have HC:=hI hc
 have BC:=hI B1
 have BD:=hI hl
 have BE:=hI hW
 obtain ⟨a0,a1,a2,a3,a4⟩:=cfg5 HX.out
 clear hc B1 hbW hW hl
 go_enter Tryz.func7,Tryz.ntmps7
 go_upto_region 1 with fail
 rw[<-BE.out]
 go_wp2_with fail
 refine (zIh B P Sp K U none 0 [] A m l W (λh=>absurd h (by simp)) (HC.out.below Ac.out) BD.out (by simp)).mono ?_
 rintro e w1 Ad
 rcases zWk Ad with ⟨rfl,Ao⟩ | ⟨s,p,c,x,Q,rfl,A3,AH,-,AI,Ao,hlight⟩
 . have Az:Hid (Below w.heap.size w w1):=hI (Ac.out.trans (Ao.mono Ac.out.size))
   clear Ao Ad
   go_wp2_with (first
    | (go_at_call 10;(with_reducible refine (zAw _).mono ?_);rintro e w2 ⟨rfl,B2⟩;have AA:=hI B2;clear B2)
    | fail)
   go_ret
   exact ⟨rfl,Az.out.trans (AA.out.mono Az.out.size)⟩
 . have Az:Hid (Below w.heap.size w w1):=hI (Ac.out.trans (Ao.mono Ac.out.size))
   have B3:Hid (l.length<=120/\∀d∈l,d.d.length<=60/\d.pk.length<=80):=hI hlight.2.2
   have c1:=(A3 (λ_=>[]) 0 (by omega)).st.sc.c1
   obtain ⟨g,hg⟩:∃g,g=(⟨B,P,Sp,K,U,Q.bad⟩:Cf):=⟨_,rfl⟩
   rw[<-hg] at A3
   have BF:Hid (Rnd w.heap.size w s p c g 0 (.slice none 0 0) w1):=hI ⟨Q,λ_=>[],[],[],none,0,none,0,x,[],none,0,rfl,⟨A3 _ _ (by omega),λq hq=>(by cases hq),by simp,λb hb=>⟨(AI b (Nat.lt_of_lt_of_le hb Ac.out.size)).1,(AI b (Nat.lt_of_lt_of_le hb Ac.out.size)).2,λ_ e=>(by cases e)⟩,Nat.le_refl _,Az.out,by omega,λr hr=>(by cases hr),λr hr=>(by cases hr),λb e=>(by cases e)⟩,ROwn.nil _ _,Nat.le_refl _,Nat.le_refl _⟩
   clear A3 AH AI Ao hlight hg Ad
   go_wp2_with fail
   clear c1
   go_loopw [6,7,8,10,12,13,14,28,45,71] (λv6 _ _ _ _ _ _ v28 _ _ wx=>∃k:Nat,v28=.int .i64 k/\k<=l.length/\Rnd w.heap.size w s p c g k v6 wx) (λ_ _ _ _ _ _ _ v28 _ _ _=>l.length - (intOf v28).toNat)
   case atStart=>exact ⟨0,rfl,Nat.zero_le _,BF.out⟩
   case round =>
    obtain ⟨k,rfl,hk,Q1,D1,lv,fr,Al,cl,Af,cf,y,gs,Gq,gc,rfl,hu,ho,AJ,AK⟩:=hrel
    have B4:=B3.out.1
    by_cases Ab:k<l.length
    . have HK:Hid (k<l.length/\k<120):=hI ⟨Ab,by omega⟩
      obtain ⟨cc,A6⟩:∃cc,2 * (121 - (k+1))+1=cc:=⟨_,rfl⟩
      have B6:2 * (121 - k)+1=(cc+1)+1:=by omega
      rw[B6] at hu
      have B8:=hI A6
      obtain ⟨b,o,rfl,C4,kc⟩:=(HC.out.below hu.bel) k Ab
      obtain ⟨d,hd⟩:∃d,l[k]=d:=⟨_,rfl⟩
      rw[hd] at kc
      have HD:Hid (CalOk w d/\d.d.length<=60/\d.pk.length<=80):=hI ⟨BC.out d (by rw[<-hd];exact List.getElem_mem Ab),B3.out.2 d (by rw[<-hd];exact List.getElem_mem Ab)⟩
      have Aj:=hI hu
      have BG:=hI ho
      have B9:=hI AJ
      have AL:=hI AK
      obtain ⟨k0,k1,k2,k3,k4,k5⟩:=kc
      clear hu ho AJ AK hd A6 B6
      go_upto_region 10 with fail
      obtain ⟨W2,AB⟩:∃W2,wr.alloc (.cells #[.int .i64 d.dO,.int .i64 d.n,.int .i64 d.keep,.int .i64 d.page,.slice d.A d.d.length d.c,.slice d.A2 d.pk.length d.c2] 41)=W2:=⟨_,rfl⟩
      rw[AB]
      have AC:Hid (Below wr.heap.size wr W2):=hI (by rw[<-AB];exact bR.alloc nL _)
      have BH:Hid (W2.heap[wr.heap.size]? = some (.cells #[.int .i64 d.dO,.int .i64 d.n,.int .i64 d.keep,.int .i64 d.page,.slice d.A d.d.length d.c,.slice d.A2 d.pk.length d.c2] 41 (0,0))):=hI (by rw[<-AB];exact heap_alloc_new _ _)
      have AD:=hI (Aj.out.below AC.out)
      have BI:=hI (rown_keep BG.out AC.out)
      have BJ:=hI (rb_cbU HD.out.1.rb AD.out.bel AD.out.far)
      obtain ⟨m0,m1,m2,m3,m4,m5⟩:=zEk BH.out
      clear AB k0 k1 k2 k3 k4 k5
      go_upto_region 12 with (first
       | (go_at_call 15;(with_reducible refine (und_put d AD.out BJ.out HD.out.2.1 HD.out.1.nn).mono ?_);rintro e w3 ⟨rfl,⟨Q3,D3,fr3,Af3,cf3,y3,Ba,AE⟩,Ap⟩;have AM:=hI Ba;have Bb:=hI (AD.out.own BI.out Ap λ_ k=>k);have Bc:=hI AE;clear Ba AE Ap)
       | fail)
      clear m0 m1 m2 m3 m4 m5
      obtain ⟨T,hT⟩:∃T,decide (k % 3=2)=T:=⟨_,rfl⟩
      have HT:=hI hT
      have t1:((k:Int) % 3==2)=T:=by rw[<-hT,Bool.eq_iff_iff];simp;omega
      have t2:((k:Int).tmod 3==2)=T:=by rw[Int.tmod_eq_emod_of_nonneg (by omega)];exact t1
      clear hT
      go_upto_if 39 with fail
      go_cut [6,10] from 40 to 68 (λv6 _ wx=>Rnd w.heap.size w s p c g (k+1) v6 wx)
      case first=>as_aux_lemma =>
       cases T with
       | false =>
        have AN:¬k % 3=2:=of_decide_eq_false HT.out
        go_wp2_with fail
        go_meet
        case rel=>exact ⟨_,_,_,_,_,_,_,_,_,_,_,_,rfl,by rw[B8.out];exact AM.out.weak (by omega) (by omega),Bb.out,by have:=Bc.out;have:=B9.out;omega,by have:=AL.out;omega⟩
       | true =>
        have AN:k % 3=2:=of_decide_eq_true HT.out
        have AE:fr3.length<=3:=by have:=Bc.out;have:=B9.out;omega
        have c9:=AM.out.sit.st.sc.c9
        obtain ⟨i0,BK,BL,BM,AO⟩:=info_parts zSd
        have BN:(qY fr3).length=fr3.length:=List.length_map _
        go_wp2_with fail
        clear c9
        go_loopw [6,10,45] (λv6 _ v45 wx=>∃(j:Nat) (q:Option Addr) (L:List P2) (cap:Nat) (y4:Nat->Prop),j<=fr3.length/\v45=.int .i64 j/\v6=.slice q L.length cap/\Hid (L=gs++(qY fr3).take j)/\Hid (Und w.heap.size w s p c y4 g Q3 D3 lv fr3 Al cl Af3 cf3 (cc+1) (2 * k+1) gs (Value.slice q L.length cap).ownBlock wx)/\Hid (ROwn wx w.heap.size (.slice q L.length cap) L)) (λ_ _ v45 _=>fr3.length - (intOf v45).toNat)
        case atStart=>exact ⟨0,Gq,gs,gc,y3,Nat.zero_le _,rfl,rfl,hI (by simp),AM,Bb⟩
        case round =>
         obtain ⟨j,q,L,cap,y4,hj,rfl,rfl,AP,Ae,Bd⟩:=hrel
         have BO:L.length<=130:=by
          have:=AL.out
          rw[AP.out,List.length_append,List.length_take]
          omega
         by_cases Ak:j<fr3.length
         . obtain ⟨B5,o5,rfl,BP,A6⟩:=(GOwn.lies Ae.out.sit.st.fresh).1 (by omega)
           obtain ⟨k0,k1,k2⟩:=A6 j Ak
           have Be:Hid (L++[fr3[j].r]=gs++(qY fr3).take (j+1)):=hI (by
            have BQ:j<(qY fr3).length:=by omega
            rw[List.take_succ_eq_append_getElem BQ,<-List.append_assoc,<-AP.out]
            congr 2
            exact (List.getElem_map _).symm)
           clear A6
           generalize fr3[j]=fd at k0 k1 k2 Be
           obtain ⟨W5,AQ⟩:∃W5,wr.alloc (.cells #[.int .i64 fd.r.1,.int .i64 fd.r.2,.slice fd.A fd.d.length fd.c] 36)=W5:=⟨_,rfl⟩
           have Bf:Hid (Below wr.heap.size wr W5):=hI (by rw[<-AQ];exact bR.alloc nL _)
           have AR:Hid (W5.heap[wr.heap.size]? = some (.cells #[.int .i64 fd.r.1,.int .i64 fd.r.2,.slice fd.A fd.d.length fd.c] 36 (0,0))):=hI (by rw[<-AQ];exact heap_alloc_new _ _)
           obtain ⟨b0,b1,b2,-⟩:=qT AR.out
           obtain ⟨W6,AS⟩:∃W6,W5.alloc (.cells #[.int .i64 fd.r.1,.int .i64 fd.r.2] 33)=W6:=⟨_,rfl⟩
           have Bg:Hid (Below wr.heap.size wr W6):=hI (by rw[<-AS];exact Bf.out.alloc Bf.out.size _)
           have Bh:Hid (W6.heap[W5.heap.size]? = some (.cells #[.int .i64 fd.r.1,.int .i64 fd.r.2] 33 (0,0))):=hI (by rw[<-AS];exact heap_alloc_new _ _)
           have Am:=hI (rown_keep Bd.out Bg.out)
           have Ag:=hI (Ae.out.below Bg.out)
           have BR:w.heap.size<=W6.heap.size:=Nat.le_trans Ag.out.big Ag.out.bel.size
           go_wp2_with (at_builtin;refine yC rfl _ _ _ rfl w.heap.size 33 i0 _ 2 16 Tryz.underlying64 BK BL BM AO rfl (by decide) (.slice q L.length cap) L.length (yP L) rfl Am.out ⟨W5.heap.size,0,none⟩ 1 1 [.int .i64 fd.r.1,.int .i64 fd.r.2] rfl rfl (λk u hu=>by match k,hu with | 0,hu=>(simp at hu;subst hu;simp[World.cell?,Bh.out,Addr.add]) | 1,hu=>(simp at hu;subst hu;simp[World.cell?,Bh.out,Addr.add]) | n+2,hu=>simp at hu) (λu hu=>by simp at hu;rcases hu with rfl | rfl<;>rfl) (by unfold maxLen;omega) (by omega) BR ?_;intro q7 cap7 w7 A1 Bi Aq)
           have A4:L.length+1=(L++[fd.r]).length:=by rw[List.length_append];rfl
           have An:=Ag.out.grown (λb e=>(World.ownsRow.lt Am.out b e).1) Bi Aq λb e=>(World.ownsRow.lt A1 b e).2
           have Ar:ROwn w7 w.heap.size (.slice q7 (L.length+1) cap7) (L++[fd.r]):=by unfold ROwn;rw[zFq,<-A4];exact A1
           have BS:=hI A4
           rw[A4] at An Ar
           have As:=hI An
           have AT:=hI Ar
           clear An Ar A1 Bi Aq A4 AQ AS b0 b1 b2 k0 k1 k2
           go_roundw
           case rel=>exact ⟨j+1,q7,L++[fd.r],cap7,_,by omega,by go_num,by rw[<-BS.out],Be,As,AT⟩
           case measure=>simp[intOf];omega
         . obtain rfl:j=fr3.length:=by omega
           have Bj:Hid (L=gs++qY fr3):=hI (AP.out.trans (by rw[<-BN,List.take_length]))
           have c1:=Ae.out.sit.st.sc.c1
           go_upto_region 19 with (first
            | (go_at_call 12;(with_reducible refine (sit_undo Ae.out.sit).mono ?_);rintro e w8 ⟨rfl,At,A0⟩;have Ah:=hI At;have Au:=hI A0;clear At A0)
            | fail)
           have f9:w8.frozen? ⟨s,9,none⟩=false:=by
            have:=Ah.out.self
            simp[World.frozen?,this]
           have c9:=Ah.out.sc.c9
           go_upto_region 20 with fail
           have A7:=hI (Ae.out.undone Ah.out Au.out)
           rw[<-Bj.out] at A7
           have AF:Hid (ROwn (w8.setCell ⟨s,9,none⟩ (.slice none 0 0)) w.heap.size (.slice q L.length cap) L):=hI (vS (Ae.out.own Bd.out Au.out λ_ k=>k.1) λb e=>heap_setCell_other _ _ _ _ λh=>(Ae.out.lone b e).1.2.1 h)
           generalize (w8.setCell ⟨s,9,none⟩ (.slice none 0 0))=w9 at A7 AF ⊢
           have Bl:=A7.out.lenl
           have Av:L.length<=k+1:=by
            have:=AL.out
            rw[Bj.out,List.length_append]
            omega
           have Bm:=hI Bl
           have BT:=hI Av
           have BU:=hI AN
           clear c1 f9 c9 Bl BO Av AN AE hj Ak
           go_wp2_with (first
            | (go_at_call 35;(with_reducible refine (all_any lv.length A7.out.sit.st (by simp) (by have:=Bm.out;omega)).mono ?_);rintro e w10 ⟨b10,rfl,A9,Ai⟩;have BV:=hI A9;have Aw:=hI (A7.out.below Ai);have AU:=hI (rown_keep AF.out Ai);clear A9 Ai)
            | (go_at_call 11;(with_reducible refine (und_seal Aw.out (some ⟨b10,0,none⟩) lv.length lv.length (List.replicate lv.length true) (by simp) BV.out (by have:=Bm.out;omega) (by have:=HK.out;omega)).mono ?_);rintro e w11 ⟨rfl,⟨Q11,D11,lv11,Al11,cl11,y11,Ax⟩,Aa⟩;have AV:=hI Ax;have AW:=hI (Aw.out.own AU.out Aa λ_ k=>k);clear Ax Aa)
            | fail)
           go_meet
           case rel=>exact ⟨_,_,_,_,_,_,_,_,_,_,_,_,rfl,by rw[B8.out];exact AV.out.weak nL (by omega),AW.out,Nat.zero_le _,by have:=BT.out;have:=BU.out;omega⟩
      case rest =>
       obtain ⟨Q5,D5,lv5,fr5,Al5,cl5,Af5,cf5,y5,gs5,Gq5,gc5,rfl,Bn,Bo,Bp,Bq⟩:=hcut
       have BW:=hI Bn
       have BX:=hI Bo
       have BY:=hI Bp
       have AR:=hI Bq
       have BZ:fr5.length<=1000:=by omega
       have C5:gs5.length<=1000:=by omega
       clear Bn Bo Bp Bq t1 t2
       go_wp2_with fail
       go_loopw [12,13,14,71] (λ_ _ _ v71 wx=>∃(j:Nat) (y6:Nat->Prop),j<=gs5.length/\v71=.int .i64 j/\Hid (Und w.heap.size w s p c y6 g Q5 D5 lv5 fr5 Al5 cl5 Af5 cf5 (2 * (121 - (k+1))+1) (2 * (k+1)) gs5 (Value.slice Gq5 gs5.length gc5).ownBlock wx)/\Hid (ROwn wx w.heap.size (.slice Gq5 gs5.length gc5) gs5)) (λ_ _ _ v71 _=>gs5.length - (intOf v71).toNat)
       case atStart=>exact ⟨0,y5,Nat.zero_le _,rfl,BW,BX⟩
       case round =>
        obtain ⟨j,y6,hj,rfl,Ag,Am⟩:=hrel
        by_cases Ak:j<gs5.length
        . obtain ⟨B7,o7,rfl,BP,A6⟩:=(ROwn.lies Am.out).1 (by omega)
          obtain ⟨k0,k1⟩:=A6 j Ak
          have A5:gs5[j]∈gs5:=List.getElem_mem Ak
          clear A6
          generalize gs5[j]=r at k0 k1 A5
          have AX:=hI A5
          have Br:=hI Ak
          have C0:Hid (r∉qY fr5):=hI λh=>(Ag.out.gone r A5).1 (List.mem_append_right _ h)
          obtain ⟨W7,AY⟩:∃W7,wr.alloc (.cells #[.int .i64 r.1,.int .i64 r.2] 33)=W7:=⟨_,rfl⟩
          have Bs:Hid (Below wr.heap.size wr W7):=hI (by rw[<-AY];exact bR.alloc nL _)
          have Bt:Hid (W7.heap[wr.heap.size]? = some (.cells #[.int .i64 r.1,.int .i64 r.2] 33 (0,0))):=hI (by rw[<-AY];exact heap_alloc_new _ _)
          have An:=hI (Ag.out.below Bs.out)
          have Ar:=hI (rown_keep Am.out Bs.out)
          have Ay:=qD Bt.out
          clear A5
          go_upto_region 25 with fail
          clear AY k0 k1
          obtain ⟨r0,r1,-,-⟩:=qG Bt.out
          have c1:=An.out.sit.st.sc.c1
          have Bu:=hI (An.out.below bR.drew)
          have C1:=hI (rown_keep Ar.out bR.drew)
          go_region_held3 (λV=>V.cell? ⟨s,1,none⟩=some (.pointer (some ⟨p,0,none⟩))/\V.cell? ⟨wr.heap.size,0,none⟩=some (.int .i64 r.1)/\V.cell? ⟨wr.heap.size,1,none⟩=some (.int .i64 r.2))
           (first | exact ⟨c1,r0,r1⟩ | exact Bv.out | fail)
           (first
            | (go_at_call 26;(with_reducible refine (und_read r Bu.out AX.out).mono ?_);rintro e w8 ⟨A8,m8,n8,rfl,AZ,A0⟩;have As:=hI AZ;have AT:=hI (Bu.out.own C1.out A0 λ_ k=>k.1);have Bv:Hid (w8.cell? ⟨s,1,none⟩=some (.pointer (some ⟨p,0,none⟩))/\w8.cell? ⟨wr.heap.size,0,none⟩=some (.int .i64 r.1)/\w8.cell? ⟨wr.heap.size,1,none⟩=some (.int .i64 r.2)):=hI ⟨AZ.sit.st.sc.c1,(World.cell?_of_block (a:=⟨wr.heap.size,0,none⟩) (Safe.block A0 Ay (.inl (.inr ⟨Nat.le_refl _,Ay⟩)))).trans r0,(World.cell?_of_block (a:=⟨wr.heap.size,1,none⟩) (Safe.block A0 Ay (.inl (.inr ⟨Nat.le_refl _,Ay⟩)))).trans r1⟩;clear AZ A0)
            | fail)
          clear c1 r0 r1 Ay
          obtain ⟨-,q0,q1⟩:=Bv.out
          have c9:=As.out.sit.st.sc.c9
          have B0:=World.block_lt_of_cell? _ _ q0
          go_wp2_with fail
          go_region_held3 (λV=>V.cell? ⟨s,9,none⟩=some (.slice Af5 fr5.length cf5)/\V.cell? ⟨wr.heap.size,0,none⟩=some (.int .i64 r.1)/\V.cell? ⟨wr.heap.size,1,none⟩=some (.int .i64 r.2))
           (first | exact ⟨c9,q0,q1⟩ | exact C2.out | fail)
           (first
            | (go_at_call 37;(with_reducible refine (has_none Af5 cf5 fr5 r _ ((GOwn.lies As.out.sit.st.fresh).1.below bR.drew) BZ C0.out).mono ?_);rintro e w9 ⟨rfl,Bw⟩;have AG:=hI ((Below.refl w8.heap.size w8).drew.trans Bw);have A7:=hI (As.out.below AG.out);have AF:=hI (rown_keep AT.out AG.out);have C2:Hid (w9.cell? ⟨s,9,none⟩=some (.slice Af5 fr5.length cf5)/\w9.cell? ⟨wr.heap.size,0,none⟩=some (.int .i64 r.1)/\w9.cell? ⟨wr.heap.size,1,none⟩=some (.int .i64 r.2)):=hI ⟨A7.out.sit.st.sc.c9,(AG.out.cell (p:=⟨wr.heap.size,0,none⟩) B0).trans q0,(AG.out.cell (p:=⟨wr.heap.size,1,none⟩) B0).trans q1⟩;clear Bw)
            | fail)
          clear c9 q0 q1 B0
          go_wp2_with fail
          go_roundw
          case rel=>exact ⟨j+1,_,Br.out,by go_num,A7,AF⟩
          case measure=>simp[intOf];have:=Br.out;omega
        . obtain rfl:j=gs5.length:=by omega
          go_wp2_with fail
          go_roundw
          case rel=>exact ⟨k+1,by go_num,by have:=HK.out;omega,_,_,_,_,_,_,_,_,_,_,_,_,rfl,Ag.out,Am.out,BY.out,AR.out⟩
          case measure=>simp[intOf];have:=HK.out;omega
    . have Aj:=hI hu
      have By:lv.length+fr.length<=1000:=by have:=hu.lenl;omega
      have C3:=hI By
      clear hu ho AJ AK By
      go_wp2_with (first
       | (go_at_call 16;(with_reducible refine (zWj Aj.out.sit C3.out).mono ?_);rintro e w2 ⟨rfl,Bz⟩;have AA:=hI (below_safeU Aj.out.big Aj.out.bel Bz λb hb=>(Aj.out.far b hb).1);clear Bz)
       | (go_at_call 10;(with_reducible refine (zAw _).mono ?_);rintro e w3 ⟨rfl,BB⟩;have AC:=hI BB;clear BB)
       | fail)
      go_ret
      exact ⟨rfl,AA.out.trans (AC.out.mono AA.out.size)⟩
end Go.Proofs.YtinkkmlbhkfmnaaGreat
