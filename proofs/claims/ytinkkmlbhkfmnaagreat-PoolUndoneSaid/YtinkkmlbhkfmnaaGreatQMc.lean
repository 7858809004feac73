/- A part of what the last text proves: PoM16, PoM17, PoM18. -/
import Derived.Test.YtinkkmlbhkfmnaaGreatQMb
import Derived.Test.YtinkkmlbhkfmnaaGreatQPe
set_option maxRecDepth 100000
set_option maxHeartbeats 8000000
namespace Go.Proofs.YtinkkmlbhkfmnaaGreat
section
open Go.RowKit
theorem zKo {Q:PS} {D:Dat} (h:Mid Q D) {r s:P2} (hm:(r,s)∈Q.L++Q.F):Q.at r=some s:=by
 unfold PS.at
 cases e:atT Q.F r with
 | some t =>
  rw[if_pos (show (some t).isSome=true from rfl)]
  have h1:=zCz e
  have:=vr h.tabs.nodR (List.mem_append_right _ h1) hm rfl
  rw[Prod.mk.injEq] at this
  rw[this.2]
 | none =>
  rw[if_neg (by simp)]
  rcases List.mem_append.1 hm with k | k
  . cases e2:atT Q.L r with
    | some t =>
     have h1:=zCz e2
     have:=vr h.tabs.nodR (List.mem_append_left _ h1) hm rfl
     rw[Prod.mk.injEq] at this
     rw[this.2]
    | none=>exact absurd rfl (zQx e2 _ k)
  . exact absurd rfl (zQx e _ k)
theorem zTe {Q:PS} {r:P2} (h:∀f∈Q.L++Q.F,f.1≠r):Q.at r=none:=by
 unfold PS.at
 cases e:atT Q.F r with
 | some t=>exact absurd rfl (h _ (List.mem_append_right _ (zCz e)))
 | none =>
  rw[if_neg (by simp)]
  cases e2:atT Q.L r with
  | some t=>exact absurd rfl (h _ (List.mem_append_left _ (zCz e2)))
  | none=>rfl
theorem zNx {Q:PS} (h1:Q.down=false) (h2:Q.S.dark=false):Q.gone=Q:=by
 cases Q
 simp only at h1 h2
 simp[PS.gone,h1,h2]
def zTp (D:Dat) (r:P2) (d:List UInt8):Dat:=λq=>if q=r then d else D q
theorem PageIs.upd {S:LS} {D:Dat} {f:Fd} {r:P2} {d:List UInt8} (h:PageIs S D f) (hr:f.1≠r):PageIs S (zTp D r d) f:=by
 have e:zTp D r d f.1=D f.1:=if_neg hr
 unfold PageIs vG at h ⊢
 rw[e];exact h
theorem Mid.upd {Q:PS} {D:Dat} {r:P2} {d:List UInt8} (h:Mid Q D) (hr:∀f∈Q.L++Q.F,f.1≠r):Mid Q (zTp D r d):=⟨h.ok,h.dark,h.sized,h.tabs,λf hf=>(h.page f hf).upd (hr f hf)⟩
structure Inv (Q:PS) (D:Dat) (lv fr:List P2):Prop where
 mid:Mid Q D
 cut:Q.S.c.set=false
 down:Q.down=false
 fit:yZ Q.B Q.P Q.Sp Q.K Q.U Q.bad
 badc:Q.bad<=(qx Q.S.bl:Int)
 refsL:(Q.L.map (·.1)).Perm lv
 refsF:(Q.F.map (·.1)).Perm fr
 seqs:∀r∈lv++fr,r.2<=Q.seq
 lenL:(lv.length:Int)<=Q.K+1
 lenA:(lv.length:Int)+fr.length<=Q.K+6
 good:Q.over=false->Q.Sp+Q.bad+1<=(sl Q.S:Int)/\yE Q/\∃M o,WInv Q.S.bl Q.U M o
 none:Q.over=true->fr = []
structure Bud (Q:PS) (c:Nat):Prop where
 low:Low Q.S (c * 1000000)
 cnt:Q.over=false->CntOk Q.S (c * 10000)
structure Cost (Q Q':PS):Prop where
 same:Q'.B=Q.B/\Q'.P=Q.P/\Q'.Sp=Q.Sp/\Q'.K=Q.K/\Q'.U=Q.U/\Q'.bad=Q.bad
 cost:∃R f x:Nat,(R:Int)<=Q.B+3/\x<=f+1/\qx Q'.S.bl=qx Q.S.bl+f/\Spent Q.S Q'.S (R * Q.S.np) ((R+f) * Q.S.np+x) R
 np:Q'.S.np=Q.S.np
 len:Q'.S.bl.length=Q.S.bl.length
 keeps:Keeps Q.S Q'.S
section
variable {Q Q':PS} {D:Dat} {lv fr:List P2}
theorem Inv.lens (h:Inv Q D lv fr):Q.L.length=lv.length/\Q.F.length=fr.length:=by
 have h1:=h.refsL.length_eq
 have h2:=h.refsF.length_eq
 simp only[List.length_map] at h1 h2
 exact ⟨h1,h2⟩
theorem Inv.mem (h:Inv Q D lv fr) {r:P2} (hr:r∈lv++fr):∃s,(r,s)∈Q.L++Q.F:=by
 rcases List.mem_append.1 hr with k | k
 . obtain ⟨f,hf,rfl⟩:=List.mem_map.1 (h.refsL.mem_iff.2 k)
   exact ⟨f.2,List.mem_append_left _ hf⟩
 . obtain ⟨f,hf,rfl⟩:=List.mem_map.1 (h.refsF.mem_iff.2 k)
   exact ⟨f.2,List.mem_append_right _ hf⟩
theorem Inv.ref (h:Inv Q D lv fr) {f:Fd} (hf:f∈Q.L++Q.F):f.1∈lv++fr:=by
 rcases List.mem_append.1 hf with k | k
 . exact List.mem_append_left _ (h.refsL.mem_iff.1 (List.mem_map_of_mem k))
 . exact List.mem_append_right _ (h.refsF.mem_iff.1 (List.mem_map_of_mem k))
theorem Inv.new (h:Inv Q D lv fr) (page:Int):∀f∈Q.L++Q.F,f.1≠(page,Q.seq+1):=λf hf e=>by
 have:=h.seqs _ (h.ref hf)
 rw[e] at this
 have:Q.seq+1<=Q.seq:=this
 omega
theorem Inv.rich (h:Inv Q D lv fr) (ho:Q.over=false):Rich Q D:=by
 obtain ⟨h1,h2⟩:=h.lens
 have:=h.lenA
 exact ⟨h.mid,h.fit,by rw[List.length_append];omega,ho,(h.good ho).1,h.badc⟩
theorem Inv.gone (h:Inv Q D lv fr):Q.gone=Q:=zNx h.down h.mid.dark
theorem Mid.undo (h:Mid Q D):Mid Q.undo D :=
 ⟨h.ok.undo,h.dark,h.sized,⟨(List.nodup_append.1 (by have:=h.tabs.nodR;rw[List.map_append] at this;exact this)).1 |> λk=>by show ((Q.L++[]).map _).Nodup;rw[List.append_nil];exact k,(List.nodup_append.1 (by have:=h.tabs.nodS;rw[List.map_append] at this;exact this)).1 |> λk=>by show ((Q.L++[]).map _).Nodup;rw[List.append_nil];exact k⟩,λf hf=>h.page f (List.mem_append_left _ (by
  have hf':f∈Q.L++[]:=hf
  rw[List.append_nil] at hf';exact hf'))⟩
theorem Inv.undo (h:Inv Q D lv fr):Inv Q.undo D lv [] :=
 ⟨h.mid.undo,h.cut,h.down,h.fit,h.badc,h.refsL,List.Perm.refl _,λr hr=>h.seqs r (List.mem_append_left _ (by simpa using hr)),h.lenL,by have:=h.lenA;show (lv.length:Int)+(0:Nat)<=Q.K+6;omega,h.good,λ_=>rfl⟩
theorem Bud.undo {c:Nat} (h:Bud Q c):Bud Q.undo c:=⟨h.low,h.cnt⟩
theorem Inv.next (h:Inv Q D lv fr) (hs:Q.seq+1<=1099511627776):Inv Q.next D lv fr :=
 ⟨⟨h.mid.ok.next1 hs,h.mid.dark,h.mid.sized,h.mid.tabs,h.mid.page⟩,h.cut,h.down,h.fit,h.badc,h.refsL,h.refsF,λr hr=>by have:=h.seqs r hr;show r.2<=Q.seq+1;omega,h.lenL,h.lenA,h.good,h.none⟩
theorem zUa (h:Inv Q D lv fr) {r:P2} (hr:r∈lv++fr) {er:Int} {d:List UInt8} (ht:Q.tells r er d):er=0/\d=D r:=by
 obtain ⟨s,hs⟩:=h.mem hr
 obtain ⟨i,j,e,hj,hm,b,hb,hn,hp⟩:=h.mid.page _ hs
 obtain ⟨hi,-⟩:=List.getElem?_eq_some_iff.1 hb
 obtain ⟨S1,e1,-⟩:=zFp hi hj h.mid.dark
 have hpage:zHd Q.S (i:Int) (j:Int)=vG D r:=by
  unfold zHd
  rw[Int.toNat_natCast,hb]
  show b.pages.getD (j:Int).toNat []=_
  rw[Int.toNat_natCast,List.getD_eq_getElem?_getD,hp];rfl
 unfold PS.tells at ht
 rw[zKo h.mid hs] at ht
 have e':s=((i:Int),(j:Int)):=e
 subst e'
 dsimp only at ht
 rw[h.gone,h.down,e1] at ht
 dsimp only at ht
 rw[if_neg (by decide),if_neg (by decide),hpage] at ht
 rcases ht with ⟨h1,pg,sq,h2,h3⟩ | ⟨-,-,h3⟩
 . exact ⟨h1,(zMd hm h3 h2).2.2.symm⟩
 . exact absurd rfl (h3 r.1 r.2 (D r) hm)
theorem zXg {r:P2} (hr:r∉lv++fr) (h:Inv Q D lv fr) {er:Int} {d:List UInt8} (ht:Q.tells r er d):er=8/\d = []:=by
 unfold PS.tells at ht
 rw[zTe λf hf e=>hr (by rw[<- e];exact h.ref hf)] at ht
 exact ht
theorem zUb (h:Inv Q D lv fr) {c:Nat} (hb:Low Q.S (c+1)) (r:P2):Inv (Q.readQ r) D lv fr/\Low (Q.readQ r).S c/\(Q.readQ r).S.bl=Q.S.bl/\(Q.readQ r).S.pr=Q.S.pr/\(Q.readQ r).S.er=Q.S.er/\(∃S',Q.readQ r = { Q with S:=S' }):=by
 unfold PS.readQ
 by_cases hr:∃s,(r,s)∈Q.L++Q.F
 . obtain ⟨s,hs⟩:=hr
   obtain ⟨i,j,e,hj,hm,b,hb2,hn,hp⟩:=h.mid.page _ hs
   obtain ⟨hi,-⟩:=List.getElem?_eq_some_iff.1 hb2
   have e':s=((i:Int),(j:Int)):=e
   subst e'
   rw[zKo h.mid hs]
   dsimp only
   rw[h.gone,if_neg (by rw[h.down];decide)]
   have hl:=hb.1
   obtain ⟨S1,e1,b1,d1,k1,s1⟩:=zFp hi hj h.mid.dark
   have hdef:S1 = { Q.S with rd:=wrap64 (Q.S.rd+1) } :=by
    unfold rdL at e1
    rw[if_neg (by rw[hasN hi hj];simp),if_neg (by rw[h.mid.dark];simp)] at e1
    injection e1 with _ e2
    injection e2 with _ e3
    exact e3.symm
   have s1:=s1 (by omega) hl.1
   rw[e1]
   dsimp only
   have hok:=h.mid.ok.read (i:Int) (j:Int)
   rw[e1] at hok
   refine ⟨⟨h.mid.chip hok d1 (λb hb=>by rw[b1] at hb;rw[k1.np];exact h.mid.sized b hb) λf hf=>(h.mid.page f hf).same k1.np b1,(k1.cut h.cut).1,h.down,h.fit,by show Q.bad<=(qx S1.bl:Int);rw[b1];exact h.badc,h.refsL,h.refsF,h.seqs,h.lenL,h.lenA,λho=>?_,λho=>h.none (by rw[<- ho];exact (yQ (by rw[b1])).symm)⟩,hb.spent s1 ⟨by omega,by omega,by omega⟩,b1,by rw[hdef],by rw[hdef],S1,rfl⟩
   have:=h.good (by rw[<- ho];exact (yQ (by rw[b1])).symm)
   refine ⟨by show Q.Sp+Q.bad+1<=(sl S1:Int);rw[zFj b1];exact this.1,λj b hj=>?_,?_⟩
   . have hj':S1.bl[j]? = some b:=hj
     rw[b1] at hj'
     exact this.2.1 j b hj'
   . show ∃M o,WInv S1.bl Q.U M o
     rw[b1];exact this.2.2
 . rw[zTe λf hf e=>hr ⟨f.2,by rw[<- e];exact hf⟩]
   exact ⟨h,hb.spent (Spent.refl _) ⟨by omega,by omega,by omega⟩,rfl,rfl,rfl,Q.S,rfl⟩
end
end
section
open Go.RowKit
section
variable {Q Q':PS} {D:Dat} {lv fr:List P2}
theorem Inv.wrote {Q2:PS} {R f x:Nat} (h:Inv Q D lv fr) (w:Wrote Q.next Q2 D R f x) (hg:Q2.over=false->Q.Sp+Q.bad+1<=(sl Q2.S:Int)/\yE Q2/\∃M o,WInv Q2.S.bl Q.U M o) (hn:Q2.over=true->fr = []):Inv Q2 D lv fr:=by
 obtain ⟨s1,s2,s3,s4,s5,s6,s7,s8⟩:=w.same
 have s1':Q2.B=Q.B:=s1
 have s2':Q2.P=Q.P:=s2
 have s3':Q2.Sp=Q.Sp:=s3
 have s4':Q2.K=Q.K:=s4
 have s5':Q2.U=Q.U:=s5
 have s6':Q2.bad=Q.bad:=s6
 have s7':Q2.seq=Q.seq+1:=s7
 have s8':Q2.down=Q.down:=s8
 have hb:qx Q2.S.bl=qx Q.S.bl+f:=w.bad
 have r1:Q2.L.map (·.1)=Q.L.map (·.1):=w.refs.1
 have r2:Q2.F.map (·.1)=Q.F.map (·.1):=w.refs.2
 refine ⟨w.mid,(w.keeps.cut h.cut).1,s8'.trans h.down,by rw[s1',s2',s3',s4',s5',s6'];exact h.fit,by rw[s6'];have:=h.badc;omega,by rw[r1];exact h.refsL,by rw[r2];exact h.refsF,λr hr=>by have:=h.seqs r hr;omega,by rw[s4'];exact h.lenL,by rw[s4'];exact h.lenA,λho=>?_,hn⟩
 rw[s3',s6',s5']
 exact hg ho
theorem Inv.wrote_undo {Q2:PS} {R f x:Nat} (h:Inv Q D lv fr) (w:Wrote Q.next Q2 D R f x) (ho:Q2.over=true):Inv Q2.undo D lv []/\Q2.undo.gone=Q2.undo:=by
 obtain ⟨s1,s2,s3,s4,s5,s6,s7,s8⟩:=w.same
 have s1':Q2.B=Q.B:=s1
 have s2':Q2.P=Q.P:=s2
 have s3':Q2.Sp=Q.Sp:=s3
 have s4':Q2.K=Q.K:=s4
 have s5':Q2.U=Q.U:=s5
 have s6':Q2.bad=Q.bad:=s6
 have s7':Q2.seq=Q.seq+1:=s7
 have s8':Q2.down=Q.down:=s8
 have hb:qx Q2.S.bl=qx Q.S.bl+f:=w.bad
 have r1:Q2.L.map (·.1)=Q.L.map (·.1):=w.refs.1
 have hl:=h.lenA
 refine ⟨⟨w.mid.undo,(w.keeps.cut h.cut).1,s8'.trans h.down,by show yZ Q2.B Q2.P Q2.Sp Q2.K Q2.U Q2.bad;rw[s1',s2',s3',s4',s5',s6'];exact h.fit,by show Q2.bad<=(qx Q2.S.bl:Int);rw[s6'];have:=h.badc;omega,by show (Q2.L.map _).Perm lv;rw[r1];exact h.refsL,List.Perm.refl _,λr hr=>?_,by show _<=Q2.K+1;rw[s4'];exact h.lenL,by show (lv.length:Int)+(0:Nat)<=Q2.K+6;omega,λk=>?_,λ_=>rfl⟩,zNx (s8'.trans h.down) w.mid.dark⟩
 . have:=h.seqs r (List.mem_append_left _ (by simpa using hr))
   show r.2<=Q2.seq
   omega
 . have k':Q2.over=false:=k
   rw[ho] at k';cases k'
theorem yAj {Q2:PS} {R f x:Nat} (w:Wrote Q.next Q2 D R f x) (hR:(R:Int)<=Q.B+3) (hx:x<=f+1):Cost Q Q2 :=
 ⟨⟨w.same.1,w.same.2.1,w.same.2.2.1,w.same.2.2.2.1,w.same.2.2.2.2.1,w.same.2.2.2.2.2.1⟩,⟨R,f,x,hR,hx,w.bad,w.spent⟩,w.keeps.np,w.keeps.len,w.keeps⟩
theorem Wrote.low {Q2:PS} {R f x c:Nat} (hM:Mid Q D) (w:Wrote Q.next Q2 D R f x) (hR:(R:Int)<=Q.B+3) (hx:x<=f+1) (h:Low Q.S ((c+1) * 1000000)):Low Q2.S (c * 1000000):=by
 have h1:=w.mid.sizes
 have h2:qx Q2.S.bl=qx Q.S.bl+f:=w.bad
 have h3:=hM.sizes
 have h4:=hM.ok.may.1
 have h5:(R+f) * Q.S.np<=131 * 32:=Nat.mul_le_mul (by omega) (by omega)
 have h6:R * Q.S.np<=67 * 32:=Nat.mul_le_mul (by omega) (by omega)
 exact h.spent w.spent ⟨by show c * 1000000+R * Q.S.np<=_;omega,by show c * 1000000+((R+f) * Q.S.np+x)<=_;omega,by omega⟩
inductive GiveEnd (Q:PS) (D:Dat) (lv fr:List P2) (page:Int) (bts:List UInt8) (c:Nat):Int->Fd->PS->Prop
 | over0:Q.over=true->GiveEnd Q D lv fr page bts c 6 ((0,0),(0,0)) Q
 | over (Q':PS):Q.over=false->Q'.over=true->Inv Q' D lv []->Cost Q Q'->Q'.seq=Q.seq+1->Bud Q' c->GiveEnd Q D lv fr page bts c 6 ((0,0),(0,0)) Q'
 | ok (Q':PS) (i j:Nat):Q.over=false->Q'.over=false->Inv Q' D lv fr->Cost Q Q'->Q'.seq=Q.seq+1->Bud Q' c->Stood Q' i j bts->(i:Int)<Q.B->GiveEnd Q D lv fr page bts c 0 ((page,Q.seq+1),((i:Int),(j:Int))) Q'
theorem zNy (h:Inv Q D lv fr) {c:Nat} (hb:Bud Q (c+1)) (page:Int) (bts:List UInt8) (hbt:1<=bts.length/\bts.length<=2000) (hs:Q.seq+1<=1099511627776) :
 ∃e fd Q',Q.give 100 page bts=some (e,fd,Q')/\GiveEnd Q D lv fr page bts c e fd Q':=by
 unfold PS.give
 rw[h.gone,if_neg (by rw[h.down];decide)]
 cases ho:Q.over with
 | true =>
  rw[if_pos rfl]
  exact ⟨_,_,_,rfl,.over0 ho⟩
 | false =>
  rw[if_neg (by decide)]
  have hr0:=(h.next hs).rich (show Q.next.over=false from ho)
  have hg:=h.good ho
  have hsz:=h.mid.sizes
  have hlow:Low Q.next.S (100 * 6000+320000):=hb.low.spent (Spent.refl _) ⟨by omega,by omega,by omega⟩
  have hcn0:CntOk Q.next.S (100 * 100):=λb hb'=>by
   have h7:=hb.cnt ho b hb'
   have e7:(((c+1) * 10000:Nat):Int)=(c:Int) * 10000+10000:=by omega
   rw[e7] at h7
   omega
  have hk0:Q.next.S.bl.length<100+qx Q.next.S.bl:=by show Q.S.bl.length<100+qx Q.S.bl;omega
  have hop0:yE Q.next:=hg.2.1
  obtain ⟨s,e,Q2,w1,w2⟩:=zTj D bts 100 ⟨by decide,by decide⟩ hbt 100 Q.next hr0 hop0 hk0 hcn0 hlow
  rw[w1]
  dsimp only
  cases w2 with
  | done _ R f x i j y0 y1 y2 y3 y4 y5 y6 y7 y8 y9 y10 =>
   rw[if_pos rfl]
   have hseq:Q2.seq=Q.seq+1:=y2.same.2.2.2.2.2.2.1
   rw[hseq]
   obtain ⟨M,o,hw⟩:=hg.2.2
   refine ⟨_,_,_,rfl,.ok Q2 i j ho y4 (h.wrote y2 (λ_=>⟨y6,y5,y7 M o hw⟩) λk=>by rw[y4] at k;cases k) (yAj y2 y0 y3) hseq ⟨y2.low h.mid y0 y3 hb.low,λ_=>y8 (c * 10000) λb hb'=>by have:=hb.cnt ho b hb';omega⟩ y9 y10⟩
  | over _ R f x y0 y1 y2 y3 y4 =>
   rw[if_neg (by decide)]
   obtain ⟨k1,k2⟩:=h.wrote_undo y2 y4
   rw[k2]
   have hc:=yAj y2 y0 y3
   have hlw:Low Q2.S (c * 1000000):=y2.low h.mid y0 y3 hb.low
   refine ⟨_,_,_,rfl,.over Q2.undo ho y4 k1 ⟨hc.same,hc.cost,hc.np,hc.len,hc.keeps⟩ y2.same.2.2.2.2.2.2.1 ⟨hlw,λk=>?_⟩⟩
   have k':Q2.over=false:=k
   rw[y4] at k';cases k'
  | cut _ y0 =>
   have h5:Q.S.c.set=true:=y0.cut
   rw[h.cut] at h5;cases h5
inductive PutEnd (Q:PS) (D:Dat) (lv fr:List P2) (page:Int) (d:List UInt8) (c:Nat):Int->P2->PS->Prop
 | arg:(page=0\/¬vg page (Q.seq+1) d)->PutEnd Q D lv fr page d c 1 (0,0) Q
 | full:¬(page=0\/¬vg page (Q.seq+1) d)->Q.K+6<=(lv.length:Int)+fr.length->PutEnd Q D lv fr page d c 18 (0,0) Q
 | over0:¬(page=0\/¬vg page (Q.seq+1) d)->¬Q.K+6<=(lv.length:Int)+fr.length->Q.over=true->PutEnd Q D lv fr page d c 6 (0,0) Q
 | over (Q':PS):¬(page=0\/¬vg page (Q.seq+1) d)->¬Q.K+6<=(lv.length:Int)+fr.length->Q.over=false->Q'.over=true->Inv Q' D lv []->Cost Q Q'->Q'.seq=Q.seq+1->Bud Q' c->PutEnd Q D lv fr page d c 6 (0,0) Q'
 | ok (Q':PS):¬(page=0\/¬vg page (Q.seq+1) d)->¬Q.K+6<=(lv.length:Int)+fr.length->Q.over=false->Q'.over=false->Inv Q' (zTp D (page,Q.seq+1) d) lv (fr++[(page,Q.seq+1)])->Cost Q Q'->Q'.seq=Q.seq+1->Bud Q' c->PutEnd Q D lv fr page d c 0 (page,Q.seq+1) Q'
theorem zYq {p s:Int} {d:List UInt8} (h:vg p s d):1<=(qo p.toNat s.toNat d).length/\(qo p.toNat s.toNat d).length<=2000:=⟨by unfold qo;simp;omega,h.2.2.2⟩
theorem zPk {T:List Fd} {r s:P2} (h0:0<=s.1/\0<=s.2) (h1:∀f∈T,f.2≠s) (h2:∀f∈T,f.1≠r):zD T r s=T++[(r,s)]:=by
 have hc:zGr T r s=true:=by
  unfold zGr
  rw[Bool.and_eq_true,Bool.and_eq_true,decide_eq_true_eq,decide_eq_true_eq,List.all_eq_true]
  refine ⟨h0,λf hf=>?_⟩
  rw[Bool.or_eq_true]
  exact .inl (bne_iff_ne.2 (h1 f hf))
 have hr:¬hasR T r=true:=by
  unfold hasR
  rw[List.any_eq_true]
  rintro ⟨f,hf,e⟩
  exact h2 f hf (eq_of_beq e)
 unfold zD
 rw[if_pos hc,if_neg hr]
theorem tabs_add {L F:List Fd} {x:Fd} (h:Tabs2 L F) (h1:∀f∈L++F,f.1≠x.1) (h2:∀f∈L++F,f.2≠x.2):Tabs2 L (F++[x]):=by
 constructor
 . rw[<- List.append_assoc,List.map_append,List.nodup_append]
   refine ⟨h.nodR,by simp,λa ha b hb e=>?_⟩
   obtain ⟨f,hf,rfl⟩:=List.mem_map.1 ha
   simp only[List.map_cons,List.map_nil,List.mem_singleton] at hb
   exact h1 f hf (e.trans hb)
 . rw[<- List.append_assoc,List.map_append,List.nodup_append]
   refine ⟨h.nodS,by simp,λa ha b hb e=>?_⟩
   obtain ⟨f,hf,rfl⟩:=List.mem_map.1 ha
   simp only[List.map_cons,List.map_nil,List.mem_singleton] at hb
   exact h2 f hf (e.trans hb)
theorem Stood.page {i j:Nat} {page s:Int} {d:List UInt8} (h:Stood Q i j (qo page.toNat s.toNat d)) (hm:vg page s d):PageIs Q.S (zTp D (page,s) d) ((page,s),((i:Int),(j:Int))):=by
 obtain ⟨b,h1,h2,h3⟩:=h.blk
 have e:zTp D (page,s) d (page,s)=d:=if_pos rfl
 refine ⟨i,j,rfl,h.lt,by rw[e];exact hm,b,h1,h2,?_⟩
 show b.pages[j]? = some (qo page.toNat s.toNat (zTp D (page,s) d (page,s)))
 rw[e];exact h3
theorem put_spec (h:Inv Q D lv fr) {c:Nat} (hb:Bud Q (c+1)) (page:Int) (d:List UInt8) :
 ∃e r Q',Q.put 100 page d=some (e,r,Q')/\PutEnd Q D lv fr page d c e r Q':=by
 obtain ⟨l1,l2⟩:=h.lens
 unfold PS.put
 by_cases h1:page=0
 . rw[if_pos h1];exact ⟨_,_,_,rfl,.arg (.inl h1)⟩
 . rw[if_neg h1]
   by_cases h2:vg page (Q.seq+1) d
   . rw[if_neg (λk=>k h2)]
     have hna:¬(page=0\/¬vg page (Q.seq+1) d):=by rintro (k | k);exact h1 k;exact k h2
     by_cases h3:Q.K+6<=((Q.L.length+Q.F.length:Nat):Int)
     . rw[if_pos h3];exact ⟨_,_,_,rfl,.full hna (by omega)⟩
     . rw[if_neg h3]
       have hnf:¬Q.K+6<=(lv.length:Int)+fr.length:=by omega
       obtain ⟨e,fd,Q2,g1,g2⟩:=zNy h hb page (qo page.toNat (Q.seq+1).toNat d) (zYq h2) h2.2.1.2
       rw[g1]
       dsimp only
       cases g2 with
       | over0 k1=>rw[if_neg (by decide)];exact ⟨_,_,_,rfl,.over0 hna hnf k1⟩
       | over _ k1 k2 k3 k4 k5 k6=>rw[if_neg (by decide)];exact ⟨_,_,_,rfl,.over _ hna hnf k1 k2 k3 k4 k5 k6⟩
       | ok _ i j k1 k2 k3 k4 k5 k6 k7 k8 =>
        rw[if_pos rfl]
        have hlen:Q2.L.length=lv.length/\Q2.F.length=fr.length:=k3.lens
        have hnew:∀f∈Q2.L++Q2.F,f.1≠(page,Q.seq+1):=λf hf e=>by
         have:=h.seqs _ (k3.ref hf)
         rw[e] at this
         have:Q.seq+1<=Q.seq:=this
         omega
        have hput:zD Q2.F (page,Q.seq+1) ((i:Int),(j:Int))=Q2.F++[((page,Q.seq+1),((i:Int),(j:Int)))]:=zPk ⟨by show (0:Int)<=i;omega,by show (0:Int)<=j;omega⟩ (λf hf=>k7.free f (List.mem_append_right _ hf)) λf hf=>hnew f (List.mem_append_right _ hf)
        have hsz:=k3.mid.sizes
        have hjl:=k7.lt
        have hB:=h.mid.ok.may.1
        have hseq:=h.mid.ok.seq
        have hP:=k3.mid.ok.may
        have hK4:Q2.K=Q.K:=k4.same.2.2.2.1
        have hlA:=h.lenA
        dsimp only
        rw[hput,if_pos (show _/\_/\_ from ⟨⟨yg (by have:=h2.1;omega),yg (by have:=h2.2.1;show _<=Q.seq+1/\Q.seq+1<=_;omega)⟩,⟨yg (by show _<=(i:Int)/\(i:Int)<=_;omega),yg (by show _<=(j:Int)/\(j:Int)<=_;omega)⟩,by rw[List.length_append,hlen.2];have:=hP.2.2.2.1;simp only[List.length_cons,List.length_nil];omega⟩)]
        refine ⟨_,_,_,rfl,.ok { Q2 with F:=Q2.F++[((page,Q.seq+1),((i:Int),(j:Int)))] } hna hnf k1 k2 ?_ ⟨k4.same,k4.cost,k4.np,k4.len,k4.keeps⟩ k5 ⟨k6.low,k6.cnt⟩⟩
        have hup:=k3.mid.upd (d:=d) hnew
        have htabs:Q2.L.length<=200/\(Q2.F++[((page,Q.seq+1),((i:Int),(j:Int)))]).length<=200:=by
         rw[List.length_append,hlen.1,hlen.2]
         have:=hP.2.2.2.1
         simp only[List.length_cons,List.length_nil]
         omega
        refine ⟨⟨{ k3.mid.ok with tabs:=htabs },k3.mid.dark,k3.mid.sized,tabs_add k3.mid.tabs hnew k7.free,λf hf=>?_⟩,k3.cut,k3.down,k3.fit,k3.badc,k3.refsL,?_,λr hr=>?_,k3.lenL,?_,λho=>?_,λho=>?_⟩
        . have hf':f∈Q2.L++(Q2.F++[((page,Q.seq+1),((i:Int),(j:Int)))]):=hf
          rw[<- List.append_assoc] at hf'
          rcases List.mem_append.1 hf' with k | k
          . exact hup.page f k
          . rw[List.mem_singleton] at k
            rw[k]
            exact k7.page h2
        . show ((Q2.F++[((page,Q.seq+1),((i:Int),(j:Int)))]).map (·.1)).Perm _
          rw[List.map_append]
          exact k3.refsF.append_right _
        . rw[<- List.append_assoc] at hr
          show r.2<=Q2.seq
          rw[k5]
          rcases List.mem_append.1 hr with k | k
          . have:=h.seqs r k;omega
          . rw[List.mem_singleton] at k;rw[k];exact Int.le_refl _
        . show (lv.length:Int)+((fr++[(page,Q.seq+1)]).length:Nat)<=Q2.K+6
          rw[List.length_append]
          simp only[List.length_cons,List.length_nil]
          omega
        . exact k3.good ho
        . have ho':Q2.over=true:=ho
          rw[k2] at ho';cases ho'
   . rw[if_pos h2];exact ⟨_,_,_,rfl,.arg (.inr h2)⟩
end
end
section
open Go.RowKit
section
variable {Q Q':PS} {D:Dat} {lv fr:List P2}
theorem zOv {l:List P2} (h:ya l=false):l.Nodup:=by
 have h1:(l.map (·.1)).Nodup:=by
  unfold ya at h
  simpa using h
 unfold List.Nodup at h1 ⊢
 rw[List.pairwise_map] at h1
 exact h1.imp λ{x y} k e=>k (by rw[e])
theorem zPt {D:Dat} (h:Mid Q D):∀(l:List P2) (T0:List Fd),(∀f∈T0,f∈Q.L++Q.F)->(∀r∈l,∃s,(r,s)∈Q.L++Q.F)->(T0.map (·.1)++l).Nodup ->
 ((l.foldl Q.name1 T0).map (·.1)=T0.map (·.1)++l)/\∀f∈l.foldl Q.name1 T0,f∈Q.L++Q.F:=by
 intro l
 induction l with
 | nil=>exact λT0 h0 _ _=>⟨by simp,h0⟩
 | cons r l ih =>
  intro T0 h0 hl hn
  obtain ⟨s,hs⟩:=hl r List.mem_cons_self
  have hat:=zKo h hs
  have hnr:r∉T0.map (·.1):=λk=>(List.nodup_append.1 hn).2.2 r k r List.mem_cons_self rfl
  have e1:Q.name1 T0 r=T0++[(r,s)]:=by
   unfold PS.name1
   rw[hat]
   dsimp only
   obtain ⟨i,j,e,-⟩:=h.page _ hs
   have e':s=((i:Int),(j:Int)):=e
   refine zPk (by rw[e'];exact ⟨by show (0:Int)<=i;omega,by show (0:Int)<=j;omega⟩) (λf hf e2=>?_) (λf hf e2=>hnr (by rw[<- e2];exact List.mem_map_of_mem hf))
   have:=vr h.tabs.nodS (h0 f hf) hs e2
   exact hnr (List.mem_map.2 ⟨f,hf,by rw[this]⟩)
  rw[List.foldl_cons,e1]
  obtain ⟨k1,k2⟩:=ih (T0++[(r,s)]) (λf hf=>by
   rcases List.mem_append.1 hf with k | k
   . exact h0 f k
   . rw[List.mem_singleton] at k;rw[k];exact hs) (λq hq=>hl q (List.mem_cons_of_mem _ hq)) (by simpa using hn)
  exact ⟨by rw[k1];simp,k2⟩
inductive SealEnd (Q:PS) (D:Dat) (lv fr:List P2) (d:List UInt8) (l:List P2) (c:Nat):Int->PS->Prop
 | arg:(¬vg 0 (Q.seq+1) d\/Q.may l=false)->SealEnd Q D lv fr d l c 1 Q.undo
 | over0:vg 0 (Q.seq+1) d->Q.may l=true->Q.over=true->SealEnd Q D lv fr d l c 6 Q.undo
 | over (Q':PS):vg 0 (Q.seq+1) d->Q.may l=true->Q.over=false->Q'.over=true->Inv Q' D lv []->Cost Q Q'->Q'.seq=Q.seq+1->Bud Q' c->SealEnd Q D lv fr d l c 6 Q'
 | ok (Q':PS):vg 0 (Q.seq+1) d->Q.may l=true->Q.over=false->Q'.over=false->Inv Q' (zTp D (0,Q.seq+1) d) (l++[(0,Q.seq+1)]) []->Cost Q Q'->Q'.seq=Q.seq+1->Bud Q' c->SealEnd Q D lv fr d l c 0 Q'
theorem zJp (h:Inv Q D lv fr) {l:List P2} (hm:Q.may l=true):(l.length:Int)<=Q.K/\ya l=false/\∀r∈l,r∈lv++fr/\r.1≠0:=by
 unfold PS.may at hm
 rw[Bool.and_eq_true,Bool.and_eq_true,decide_eq_true_eq,List.all_eq_true] at hm
 obtain ⟨⟨h1,h2⟩,h3⟩:=hm
 refine ⟨h1,by simpa using h2,λr hr=>?_⟩
 have h4:=h3 r hr
 unfold PS.okRef at h4
 rw[Bool.and_eq_true] at h4
 refine ⟨Classical.not_not.1 λk=>?_,by simpa using h4.2⟩
 rw[zTe λf hf e=>k (by rw[<- e];exact h.ref hf)] at h4
 exact absurd h4.1 (by decide)
theorem may_of (h:Inv Q D lv fr) {l:List P2} (h1:(l.length:Int)<=Q.K) (h2:ya l=false) (h3:∀r∈l,r∈lv++fr/\r.1≠0):Q.may l=true:=by
 unfold PS.may
 rw[Bool.and_eq_true,Bool.and_eq_true,decide_eq_true_eq,List.all_eq_true,h2]
 refine ⟨⟨h1,rfl⟩,λr hr=>?_⟩
 obtain ⟨k1,k2⟩:=h3 r hr
 obtain ⟨s,hs⟩:=h.mem k1
 unfold PS.okRef
 rw[zKo h.mid hs]
 simpa using k2
theorem zMf (h:Inv Q D lv fr) {c:Nat} (hb:Bud Q (c+1)) (d:List UInt8) (l:List P2) :
 ∃e Q',Q.sealQ 100 d l=some (e,Q')/\SealEnd Q D lv fr d l c e Q':=by
 unfold PS.sealQ PS.root
 by_cases hm:vg 0 (Q.seq+1) d
 . have e0:Q.sheetE 0 d=0:=if_pos hm
   have eb:Q.sheetB 0 d=qo (Int.toNat 0) (Q.seq+1).toNat d:=if_pos hm
   cases hmay:Q.may l with
   | false =>
    rw[if_pos (.inr rfl)]
    dsimp only
    rw[if_neg (by decide)]
    exact ⟨_,_,rfl,.arg (.inr hmay)⟩
   | true =>
    rw[if_neg (by rw[e0];simp),eb]
    obtain ⟨m1,m2,m3⟩:=zJp h hmay
    obtain ⟨e,fd,Q2,g1,g2⟩:=zNy h hb 0 (qo (Int.toNat 0) (Q.seq+1).toNat d) (zYq hm) hm.2.1.2
    rw[g1]
    dsimp only
    cases g2 with
    | over0 k1=>rw[if_neg (by decide)];exact ⟨_,_,rfl,.over0 hm hmay k1⟩
    | over _ k1 k2 k3 k4 k5 k6 =>
     rw[if_neg (by decide)]
     exact ⟨_,_,rfl,.over Q2.undo hm hmay k1 k2 k3.undo ⟨k4.same,k4.cost,k4.np,k4.len,k4.keeps⟩ k5 k6.undo⟩
    | ok _ i j k1 k2 k3 k4 k5 k6 k7 k8 =>
     rw[if_pos rfl]
     have hnew:∀f∈Q2.L++Q2.F,f.1≠((0:Int),Q.seq+1):=λf hf e=>by
      have:=h.seqs _ (k3.ref hf)
      rw[e] at this
      have:Q.seq+1<=Q.seq:=this
      omega
     have hlnew:((0:Int),Q.seq+1)∉l:=λk=>by have:=(m3 _ k).2;exact this rfl
     have hln:=zOv m2
     obtain ⟨n1,n2⟩:=zPt k3.mid l [] (λf hf=>by cases hf) (λr hr=>k3.mem (m3 r hr).1) (by simpa using hln)
     obtain ⟨T,hT⟩:∃T,l.foldl Q2.name1 []=T:=⟨_,rfl⟩
     rw[hT] at n1 n2
     simp only[List.map_nil,List.nil_append] at n1
     have hname:Q2.named ((0,Q.seq+1),((i:Int),(j:Int))) l=T++[((0,Q.seq+1),((i:Int),(j:Int)))]:=by
      unfold PS.named PS.nameTo
      rw[hT]
      exact zPk ⟨by show (0:Int)<=i;omega,by show (0:Int)<=j;omega⟩ (λf hf=>k7.free f (n2 f hf)) (λf hf=>hnew f (n2 f hf))
     have hTl:T.length=l.length:=by have:=congrArg List.length n1;simpa using this
     have hsz:=k3.mid.sizes
     have hjl:=k7.lt
     have hB:=h.mid.ok.may
     have hB1:=hB.1
     have hseq:=h.mid.ok.seq
     have hK4:Q2.K=Q.K:=k4.same.2.2.2.1
     have hKm:=hB.2.2.2.1
     rw[hname,if_pos (show _/\_/\_ from ⟨⟨yg (by show _<=(0:Int)/\(0:Int)<=_;omega),yg (by have:=hm.2.1;show _<=Q.seq+1/\Q.seq+1<=_;omega)⟩,⟨yg (by show _<=(i:Int)/\(i:Int)<=_;omega),yg (by show _<=(j:Int)/\(j:Int)<=_;omega)⟩,by rw[List.length_append,hTl];simp only[List.length_cons,List.length_nil];omega⟩)]
     have hup:=k3.mid.upd (d:=d) hnew
     have hnT:(T.map (·.2)).Nodup:=by
      have hR:(T.map (·.1)).Nodup:=by rw[n1];exact hln
      unfold List.Nodup at hR ⊢
      rw[List.pairwise_map] at hR ⊢
      exact hR.imp_of_mem λ{x y} hx hy hxy e=>hxy (by rw[vr k3.mid.tabs.nodS (n2 x hx) (n2 y hy) e])
     refine ⟨_,_,rfl,.ok ({ Q2 with L:=T++[((0,Q.seq+1),((i:Int),(j:Int)))] } : PS).undo hm hmay k1 k2 ?_ ⟨k4.same,k4.cost,k4.np,k4.len,k4.keeps⟩ k5 ⟨k6.low,k6.cnt⟩⟩
     have htabs:(T++[((0,Q.seq+1),((i:Int),(j:Int)))]).length<=200/\([]:List Fd).length<=200:=by
      rw[List.length_append,hTl]
      simp only[List.length_cons,List.length_nil]
      omega
     have hall:∀f∈T++[((0,Q.seq+1),((i:Int),(j:Int)))],PageIs Q2.S (zTp D (0,Q.seq+1) d) f:=λf hf=>by
      rcases List.mem_append.1 hf with k | k
      . exact hup.page f (n2 f k)
      . rw[List.mem_singleton] at k
        rw[k]
        exact k7.page hm
     refine ⟨⟨{ k3.mid.ok with tabs:=htabs },k3.mid.dark,k3.mid.sized,⟨?_,?_⟩,λf hf=>hall f (by
      have hf':f∈(T++[((0,Q.seq+1),((i:Int),(j:Int)))])++[]:=hf
      rw[List.append_nil] at hf';exact hf')⟩,k3.cut,k3.down,k3.fit,k3.badc,?_,List.Perm.refl _,λr hr=>?_,?_,?_,λho=>k3.good ho,λ_=>rfl⟩
     . show ((T++[((0,Q.seq+1),((i:Int),(j:Int)))]++[]:List Fd).map (·.1)).Nodup
       rw[List.append_nil,List.map_append,n1,List.nodup_append]
       refine ⟨hln,by simp,λa ha b hb e=>?_⟩
       simp only[List.map_cons,List.map_nil,List.mem_singleton] at hb
       rw[e,hb] at ha
       exact hlnew ha
     . show ((T++[((0,Q.seq+1),((i:Int),(j:Int)))]++[]:List Fd).map (·.2)).Nodup
       rw[List.append_nil,List.map_append,List.nodup_append]
       refine ⟨hnT,by simp,λa ha b hb e=>?_⟩
       obtain ⟨f,hf,rfl⟩:=List.mem_map.1 ha
       simp only[List.map_cons,List.map_nil,List.mem_singleton] at hb
       exact k7.free f (n2 f hf) (e.trans hb)
     . show ((T++[((0,Q.seq+1),((i:Int),(j:Int)))]:List Fd).map (·.1)).Perm _
       rw[List.map_append,n1]
       exact List.Perm.refl _
     . rw[List.append_nil] at hr
       show r.2<=Q2.seq
       rw[k5]
       rcases List.mem_append.1 hr with k | k
       . have:=h.seqs r (m3 r k).1;omega
       . rw[List.mem_singleton] at k;rw[k];exact Int.le_refl _
     . show ((l++[((0:Int),Q.seq+1)]).length:Int)<=Q2.K+1
       rw[List.length_append]
       simp only[List.length_cons,List.length_nil]
       omega
     . show ((l++[((0:Int),Q.seq+1)]).length:Int)+(0:Nat)<=Q2.K+6
       rw[List.length_append]
       simp only[List.length_cons,List.length_nil]
       omega
 . rw[if_pos (.inl (by show Q.sheetE 0 d≠0;unfold PS.sheetE;rw[if_neg hm];decide))]
   dsimp only
   rw[if_neg (by decide)]
   exact ⟨_,_,rfl,.arg (.inl hm)⟩
end
end
end Go.Proofs.YtinkkmlbhkfmnaaGreat
