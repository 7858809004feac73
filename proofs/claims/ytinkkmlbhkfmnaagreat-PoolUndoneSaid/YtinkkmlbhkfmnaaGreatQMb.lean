/- A part of what the last text proves: PoM11, PoM12, PoM13, PoM14, PoM15. -/
import Derived.Test.YtinkkmlbhkfmnaaGreatQMa
set_option maxRecDepth 100000
set_option maxHeartbeats 8000000
namespace Go.Proofs.YtinkkmlbhkfmnaaGreat
section
open Go.RowKit
def Rise (S S':LS):Prop:=∀(j:Nat) (b':Bk),S'.bl[j]? = some b'->∃b,S.bl[j]? = some b/\(b'.bad=false->b.bad=false)/\b.count<=b'.count/\(qJ b'=true->qJ b=true\/b.count<b'.count)
theorem Rise.refl (S:LS):Rise S S:=λ_ b h=>⟨b,h,λe=>e,Int.le_refl _,λe=>.inl e⟩
theorem Rise.trans {S T U:LS} (h:Rise S T) (g:Rise T U):Rise S U:=λj b2 h2=>by
 obtain ⟨b1,h1,e1,e2,e3⟩:=g j b2 h2
 obtain ⟨b,h0,d1,d2,d3⟩:=h j b1 h1
 refine ⟨b,h0,λe=>d1 (e1 e),by omega,λe=>?_⟩
 rcases e3 e with k | k
 . rcases d3 k with m | m
   . exact .inl m
   . exact .inr (by omega)
 . exact .inr (by omega)
abbrev yBa (l:List Bk) (op T:Int):Prop:=∀(j:Nat) (b:Bk),l[j]? = some b->b.bad=false->(j:Int)≠op->b.count<=T
def zJv (m op:Int) (l:List Bk) (j:Nat):Nat:=match l[j]? with
 | some b=>if b.bad=true\/(j:Int)=op then 0 else (m - b.count).toNat
 | none=>0
def lag (m op:Int) (l:List Bk):Nat:=((List.range l.length).map (zJv m op l)).sum
theorem sum_le (f g:Nat->Nat):∀n,(∀j,j<n->f j<=g j)->((List.range n).map f).sum<=((List.range n).map g).sum:=by
 intro n
 induction n with
 | zero=>intro _;simp
 | succ n ih =>
  intro h
  rw[List.range_succ,List.map_append,List.map_append,List.sum_append,List.sum_append]
  have h1:=ih λj hj=>h j (by omega)
  have h2:=h n (by omega)
  simp only[List.map_cons,List.map_nil,List.sum_cons,List.sum_nil]
  omega
theorem sum_lt (f g:Nat->Nat) (d:Nat):∀n,(∀j,j<n->f j<=g j)->d<n->f d<g d->((List.range n).map f).sum<((List.range n).map g).sum:=by
 intro n
 induction n with
 | zero=>intro _ h;omega
 | succ n ih =>
  intro h hd hlt
  rw[List.range_succ,List.map_append,List.map_append,List.sum_append,List.sum_append]
  simp only[List.map_cons,List.map_nil,List.sum_cons,List.sum_nil]
  have h2:=h n (by omega)
  by_cases e:d=n
  . subst e
    have h1:=sum_le f g d λj hj=>h j (by omega)
    omega
  . have h1:=ih (λj hj=>h j (by omega)) (by omega) hlt
    omega
theorem lag_rose {S S':LS} {m op:Int} {d:Nat} {b:Bk} (hlen:S'.bl.length=S.bl.length) (hr:Rose S S' d) (hb:S.bl[d]? = some b) (hbad:b.bad=false) (hdo:(d:Int)≠op) (hl:b.count<m):lag m op S'.bl<lag m op S.bl:=by
 have key:∀j:Nat,zJv m op S'.bl j<=zJv m op S.bl j/\(j=d->zJv m op S'.bl j<zJv m op S.bl j):=by
  intro j
  rcases Nat.lt_or_ge j S'.bl.length with hj | hj
  . obtain ⟨c,h1,h2,h3,h4⟩:=hr j _ (List.getElem?_eq_getElem hj)
    unfold zJv
    rw[List.getElem?_eq_getElem hj,h1]
    dsimp only
    by_cases e:j=d
    . subst e
      rw[hb] at h1
      obtain rfl:=Option.some.inj h1
      have hs2:¬(b.bad=true\/(j:Int)=op):=by rw[hbad];rintro (h | h);cases h;exact hdo h
      rw[if_neg hs2]
      by_cases e1:(S'.bl[j]).bad=true\/(j:Int)=op
      . rw[if_pos e1]
        exact ⟨by omega,λ_=>by omega⟩
      . rw[if_neg e1]
        have hg:(S'.bl[j]).bad=false:=by
         cases h:(S'.bl[j]).bad with
         | false=>rfl
         | true=>exact absurd (.inl h) e1
        have h5:=(h2 hg).2
        rw[if_pos rfl] at h5
        exact ⟨by omega,λ_=>by omega⟩
    . refine ⟨?_,λh=>absurd h e⟩
      by_cases e1:(S'.bl[j]).bad=true\/(j:Int)=op
      . rw[if_pos e1];exact Nat.zero_le _
      . rw[if_neg e1]
        have hg:(S'.bl[j]).bad=false:=by
         cases h:(S'.bl[j]).bad with
         | false=>rfl
         | true=>exact absurd (.inl h) e1
        obtain ⟨g1,g2⟩:=h2 hg
        rw[if_neg (by rw[g1];rintro (h | h);cases h;exact e1 (.inr h))]
        omega
  . have hj2:S.bl.length<=j:=by omega
    unfold zJv
    rw[List.getElem?_eq_none hj,List.getElem?_eq_none hj2]
    refine ⟨Nat.le_refl _,λe=>?_⟩
    subst e
    rw[List.getElem?_eq_none hj2] at hb;cases hb
 obtain ⟨hd,-⟩:=List.getElem?_eq_some_iff.1 hb
 unfold lag
 rw[hlen]
 exact sum_lt _ _ d _ (λj _=>(key j).1) hd ((key d).2 rfl)
inductive LevelEnd (Q:PS) (D:Dat) (k:Nat):Int->PS->Prop
 | done (Q':PS) (R f:Nat):R<=k->Went Q Q' D R f->Q'.op=Q.op->Q'.over=false->sl Q.S<=sl Q'.S->Rise Q.S Q'.S->(∀j:Nat,(j:Int)=Q.op->Q'.S.bl[j]? = Q.S.bl[j]?) ->
  (∀T,yBa Q.S.bl Q.op T->yBa Q'.S.bl Q.op T/\(lag (T - Q.U) Q.op Q.S.bl<k->Q'.due = -1))->(∀N,CntOk Q.S (k+N)->CntOk Q'.S N)->LevelEnd Q D k 0 Q'
 | over (Q':PS) (R f:Nat):R<=k->Went Q Q' D R f->Q'.over=true->LevelEnd Q D k 6 Q'
 | cut (Q':PS):Dark Q Q' D->LevelEnd Q D k 2 Q'
theorem Mid.sizes {Q:PS} {D:Dat} (h:Mid Q D):Q.S.bl.length<=64/\qx Q.S.bl<=64/\Q.S.np<=32/\2<=Q.S.np:=by
 have h1:=h.ok.lenN
 have h2:=zGt Q.S.bl
 have h3:=h.ok.np
 have h4:=h.ok.pg
 omega
theorem Went.small {Q Q':PS} {D:Dat} {f:Nat} (hm:Mid Q D) (h:Went Q Q' D 1 f):Spent Q.S Q'.S 3000 3000 3000:=by
 have h1:=h.mid.sizes
 have h2:=h.bad
 have h3:=hm.sizes
 have h4:(1+f) * Q.S.np<=65 * 32:=Nat.mul_le_mul (by omega) (by omega)
 exact h.spent.le (by omega) (by omega) (by omega)
theorem CntOk.rose {S S':LS} {d k:Nat} (h:CntOk S (k+1)) (hr:Rose S S' d):CntOk S' k:=λb' hb=>by
 obtain ⟨j,hj,rfl⟩:=List.getElem_of_mem hb
 obtain ⟨c,h1,-,h3,h4⟩:=hr j _ (List.getElem?_eq_getElem hj)
 have:=h c (List.mem_of_getElem? h1)
 omega
theorem Rose.rise {S S':LS} {d:Nat} (h:Rose S S' d) (hc:∀(j:Nat) (b':Bk),S'.bl[j]? = some b'->qJ b'=true->(∃b,S.bl[j]? = some b/\qJ b=true)\/j=d):Rise S S':=λj b' hj=>by
 obtain ⟨b,h1,h2,h3,h4⟩:=h j b' hj
 refine ⟨b,h1,λe=>(h2 e).1,h3,λe=>?_⟩
 rcases hc j b' hj e with ⟨b0,g1,g2⟩ | g
 . rw[h1] at g1
   obtain rfl:=Option.some.inj g1
   exact .inl g2
 . have:=(h2 (vF e).1).2
   rw[if_pos g] at this
   exact .inr (by omega)
theorem Dark.after {Q Q1 Q2:PS} {D:Dat} {R f:Nat} (h:Went Q Q1 D R f) (k:Dark Q1 Q2 D):Dark Q Q2 D:=by
 refine ⟨k.dark,?_,⟨k.refs.1.trans h.refs.1,k.refs.2.trans h.refs.2⟩,k.page,k.tabs⟩
 cases hs:Q.S.c.set with
 | true=>rfl
 | false =>
  have:=k.cut
  rw[(h.keeps.cut hs).1] at this;cases this
theorem zUk (D:Dat) (n:Nat) (hn:65<=n/\n<=100):∀(k:Nat) (Q:PS),Mid Q D->Q.over=false->Q.Sp+Q.bad+1<=(sl Q.S:Int)->yE Q->CntOk Q.S k->Low Q.S (k * 3000+20000) ->
 ∃e Q',PS.level n k Q=some (e,Q')/\LevelEnd Q D k e Q':=by
 intro k
 induction k with
 | zero =>
  intro Q hM ho hs hop hc hlow
  exact ⟨0,Q,rfl,.done Q 0 0 nL (Went.refl hM) rfl ho nL (Rise.refl _) (λ_ _=>rfl) (λT hT=>⟨hT,λh=>absurd h (by omega)⟩) (λN h b hb=>by have:=h b hb;omega)⟩
 | succ k ih =>
  intro Q hM ho hs hop hc hlow
  have hsz:=hM.sizes
  unfold PS.level
  rcases zSu Q hM.ok.op.1 (λb hb=>by have:=hc b hb;omega) with ⟨h1,-⟩ | ⟨d,b,h1,h2,h3,h4,h5,jh,ch,h6,h7,h8,h9⟩
  . rw[if_pos h1]
    exact ⟨0,Q,rfl,.done Q 0 0 (by omega) (Went.refl hM) rfl ho nL (Rise.refl _) (λ_ _=>rfl) (λT hT=>⟨hT,λ_=>h1⟩) (λN h b hb=>by have:=h b hb;omega)⟩
  . obtain ⟨hd,-⟩:=List.getElem?_eq_some_iff.1 h2
    have hlen:=hM.ok.len
    rw[if_neg (by rw[h1];omega),if_neg (λh=>h (by rw[h1];exact ⟨by omega,by omega⟩)),if_neg (by
     rintro ⟨-,hcl⟩
     obtain ⟨j,b',hj,hjc⟩:=zEy (zKh ho hs)
     rcases zEc Q true with ⟨-,g2⟩ | ⟨k',b'',g1,-⟩
     . have:=hop j b' hj (g2 j b' hj hjc)
       rw[hjc] at this;cases this
     . rw[g1] at hcl;omega),h1]
    have hml:4 * (n+1) * (Q.S.np+1)<=4 * 101 * 33:=Nat.mul_le_mul (by omega) (by omega)
    have hcn:zBi Q.S.bl<=Q.S.bl.length:=List.countP_le_length
    obtain ⟨e,Q1,r1,r2⟩:=zTy hM n d h4 h2 h3 (λb hb=>by have:=hc b hb;omega) ho hs hop (by omega) (hlow.spent (Spent.refl _) ⟨by omega,by omega,by omega⟩)
    rw[r1]
    dsimp only
    cases r2 with
    | done _ f w1 w2 w3 w4 w5 w6 w7 =>
     rw[if_pos rfl]
     obtain ⟨s1,s2,s3,s4,s5,s6,s7,s8⟩:=w1.same
     have hlen1:=w1.keeps.len
     have hop1:yE Q1:=λj b' hj e=>by
      rw[w2] at e
      rw[w7 j e] at hj
      exact hop j b' hj e
     obtain ⟨e2,Q2,t1,t2⟩:=ih Q1 w1.mid w3 (by rw[s3,s6];omega) hop1 (hc.rose w4) (hlow.spent (w1.small hM) ⟨by omega,by omega,by omega⟩)
     refine ⟨e2,Q2,t1,?_⟩
     cases t2 with
     | done _ R f2 x0 x1 x2 x3 x4 x5 x6 x7 x8 =>
      refine .done Q2 (1+R) (f+f2) (by omega) (w1.trans x1) (x2.trans w2) x3 (by omega) ((w4.rise w6).trans x5) (λj hj=>(x6 j (hj.trans w2.symm)).trans (w7 j hj)) (λT hT=>?_) (λN h=>x8 N ((show CntOk Q.S (k+N+1) from λb hb=>by have:=h b hb;omega).rose w4))
      have hcT:b.count+Q.U<T+1:=by have:=hT jh ch h6 h7 h8;omega
      have hU1:yBa Q1.S.bl Q1.op T:=by
       rw[w2]
       intro j b' hj hb hjo
       obtain ⟨c,g1,g2,g3,g4⟩:=w4 j b' hj
       obtain ⟨g5,g6⟩:=g2 hb
       have:=hT j c g1 g5 hjo
       have hu:=hM.ok.may.2.2.2.2.1
       split at g6
       . next e =>
         subst e
         rw[h2] at g1
         obtain rfl:=Option.some.inj g1
         omega
       . omega
      obtain ⟨y1,y2⟩:=x7 T hU1
      rw[w2] at y1 y2
      refine ⟨y1,λhl=>y2 ?_⟩
      have:=lag_rose (m:=T - Q.U) (op:=Q.op) hlen1 w4 h2 h3 h4 (by have:=hT jh ch h6 h7 h8;omega)
      rw[s5];omega
     | over _ R f2 x0 x1 x2=>exact .over Q2 (1+R) (f+f2) (by omega) (w1.trans x1) x2
     | cut _ x1=>exact .cut Q2 (Dark.after w1 x1)
    | over _ f w1 w2 =>
     rw[if_neg (by decide)]
     exact ⟨6,Q1,rfl,.over Q1 1 f (by omega) w1 w2⟩
    | cut _ w1 =>
     rw[if_neg (by decide)]
     exact ⟨2,Q1,rfl,.cut Q1 w1⟩
end
section
open Go.RowKit
def dirtyB (b:Bk):Bool := !(b.bad||qJ b)
theorem zGg (l:List Bk):l.countP dirtyB+zBi l+qx l=l.length:=by
 induction l with
 | nil=>rfl
 | cons b l ih =>
  have ih':l.countP dirtyB+l.countP qJ+l.countP (λb:Bk=>b.bad)=l.length:=ih
  show (b::l).countP dirtyB+(b::l).countP qJ+(b::l).countP (λb:Bk=>b.bad)=l.length+1
  rw[List.countP_cons,List.countP_cons,List.countP_cons]
  have hk:(if dirtyB b=true then 1 else 0)+(if qJ b=true then 1 else 0)+(if b.bad=true then 1 else 0)=1:=by
   unfold dirtyB
   cases h1:b.bad with
   | true=>rw[zAv h1];rfl
   | false=>cases h2:qJ b<;>rfl
  generalize (if dirtyB b=true then 1 else 0)=x1 at hk ⊢
  generalize (if qJ b=true then 1 else 0)=x2 at hk ⊢
  generalize (if b.bad=true then 1 else 0)=x3 at hk ⊢
  omega
theorem zTc {Q:PS} {i:Nat} (h:i<Q.S.bl.length):zOk Q i=Q.S.bl[i]:=by
 unfold zOk
 rw[Int.toNat_natCast,List.getD_eq_getElem?_getD,List.getElem?_eq_getElem h];rfl
theorem few_spec (Q:PS):∀k:Nat,((Q.fewTo k).1 = -1/\(Q.fewTo k).2=Q.P/\∀i:Nat,i<k->dirtyB (zOk Q i)=true->Q.P<=(Q.held i:Int)) \/
 ∃i:Nat,i<k/\(Q.fewTo k).1=(i:Int)/\dirtyB (zOk Q i)=true/\(Q.fewTo k).2=(Q.held i:Int)/\(Q.held i:Int)<Q.P:=by
 intro k
 induction k with
 | zero=>exact .inl ⟨rfl,rfl,λi h=>absurd h (by omega)⟩
 | succ k ih =>
  have e:Q.fewTo (k+1)=Q.few (Q.fewTo k) k:=by unfold PS.fewTo;rw[List.range_succ,List.foldl_append];rfl
  rw[e]
  unfold PS.few
  cases hf:Q.fewer (Q.fewTo k) k with
  | true =>
   rw[if_pos rfl]
   unfold PS.fewer at hf
   rw[Bool.and_eq_true] at hf
   obtain ⟨hd,ho⟩:=hf
   refine .inr ⟨k,by omega,rfl,hd,rfl,?_⟩
   simp only[Bool.or_eq_true,Bool.and_eq_true,decide_eq_true_eq] at ho
   rcases ih with ⟨h1,h2,-⟩ | ⟨i,-,-,-,h2,h3⟩
   . rcases ho with h | ⟨⟨-,h⟩,-⟩
     . omega
     . exact absurd h1 h
   . rcases ho with h | ⟨⟨h,-⟩,-⟩<;>omega
  | false =>
   rw[if_neg (by decide)]
   rcases ih with ⟨h1,h2,h3⟩ | ⟨i,h1,h2,h3,h4,h5⟩
   . refine .inl ⟨h1,h2,λi hi hd=>?_⟩
     by_cases e:i=k
     . subst e
       rcases Int.lt_or_le (Q.held i:Int) Q.P with h | h
       . have:Q.fewer (Q.fewTo i) i=true:=by
          unfold PS.fewer
          rw[Bool.and_eq_true]
          refine ⟨hd,?_⟩
          rw[Bool.or_eq_true]
          exact .inl (by rw[decide_eq_true_eq,h2];exact h)
         rw[hf] at this;cases this
       . exact h
     . exact h3 i (by omega) hd
   . exact .inr ⟨i,by omega,h2,h3,h4,h5⟩
abbrev ahead (T:List Fd) (k:Nat):Nat:=T.countP λf=>decide (0<=f.2.1/\f.2.1<(k:Int))
theorem zVp (T:List Fd) (k:Nat):ahead T (k+1)=ahead T k+T.countP λf=>f.2.1==(k:Int):=by
 induction T with
 | nil=>rfl
 | cons f T ih =>
  show (f::T).countP _=(f::T).countP _+(f::T).countP _
  have ih':T.countP (λf=>decide (0<=f.2.1/\f.2.1<((k+1:Nat):Int)))=T.countP (λf=>decide (0<=f.2.1/\f.2.1<(k:Int)))+T.countP (λf=>f.2.1==(k:Int)):=ih
  simp only[List.countP_cons,decide_eq_true_eq,beq_iff_eq]
  rw[ih']
  split<;>split<;>split<;>omega
theorem zUs (Q:PS) (i:Int):Q.held i=(Q.L++Q.F).countP λf=>f.2.1==i:=by
 unfold PS.held vU
 rw[List.countP_append]
theorem zQy (Q:PS) (P:Nat) (h:∀i:Nat,i<Q.S.bl.length->dirtyB (zOk Q i)=true->P<=Q.held i):∀k:Nat,k<=Q.S.bl.length->P * ((Q.S.bl.take k).countP dirtyB)<=ahead (Q.L++Q.F) k:=by
 intro k
 induction k with
 | zero=>intro _;simp
 | succ k ih =>
  intro hk
  have h1:=ih (by omega)
  rw[zVp,<- zUs,List.take_succ_eq_append_getElem (by omega),List.countP_append,Nat.mul_add]
  have h2:P * [Q.S.bl[k]].countP dirtyB<=Q.held k:=by
   rw[List.countP_cons,List.countP_nil]
   cases hd:dirtyB Q.S.bl[k] with
   | true =>
    have:=h k (by omega) (by rw[zTc (by omega)];exact hd)
    simpa using this
   | false=>simp
  omega
theorem zQj {Q:PS} {D:Dat} (h:Mid Q D) (hf:yZ Q.B Q.P Q.Sp Q.K Q.U Q.bad) (hr:((Q.L++Q.F).length:Int)<=Q.K+7) (hs:(sl Q.S:Int)<=Q.Sp+Q.bad+1) :
 ∃(i:Nat) (b:Bk),Q.fewest=(i:Int)/\Q.S.bl[i]? = some b/\b.bad=false/\qJ b=false/\(Q.held i:Int)<Q.P:=by
 have hlen:=h.ok.len
 have hnp:=h.ok.np
 rcases few_spec Q Q.S.bl.length with ⟨h1,h2,h3⟩ | ⟨i,h1,h2,h3,h4,h5⟩
 . exfalso
   have h4:=zQy Q Q.S.np (λi hi hd=>by have:=h3 i hi hd;omega) Q.S.bl.length nL
   rw[List.take_length] at h4
   have h5:ahead (Q.L++Q.F) Q.S.bl.length<=(Q.L++Q.F).length:=List.countP_le_length
   have h6:=zGg Q.S.bl
   obtain ⟨f1,f2,f3⟩:=hf
   rw[vK,if_pos f1,qq,if_pos ⟨f1,f2⟩] at f3
   obtain ⟨hm1,hm2,-⟩:=f1
   split at f3
   . have h7:(sl Q.S:Int)=(zBi Q.S.bl:Int)+(qx Q.S.bl:Int):=by show ((zBi Q.S.bl+qx Q.S.bl:Nat):Int)=_;omega
     have h8:Q.B - Q.bad - Q.Sp - 1<=(Q.S.bl.countP dirtyB:Int):=by omega
     have h9:(Q.B - Q.bad - Q.Sp - 1) * Q.P<=(Q.S.bl.countP dirtyB:Int) * Q.P:=Int.mul_le_mul_of_nonneg_right h8 (by omega)
     have h10:(Q.S.bl.countP dirtyB:Int) * Q.P=((Q.S.np * Q.S.bl.countP dirtyB:Nat):Int):=by rw[<- hnp,Int.natCast_mul,Int.mul_comm]
     omega
   . omega
 . have hi:i<Q.S.bl.length:=h1
   rw[zTc hi] at h3
   refine ⟨i,Q.S.bl[i],h2,List.getElem?_eq_getElem hi,?_,?_,h5⟩
   . unfold dirtyB at h3
     cases e:Q.S.bl[i].bad with
     | false=>rfl
     | true=>rw[e] at h3;cases h3
   . unfold dirtyB at h3
     cases e:qJ Q.S.bl[i] with
     | false=>rfl
     | true=>rw[e,Bool.or_true] at h3;cases h3
end
section
open Go.RowKit
def WInv (l:List Bk) (U M:Int) (o:Nat):Prop:=∀(j:Nat) (b:Bk),l[j]? = some b->b.bad=false->b.count<=M/\(M - U<=b.count\/j=o/\M - U - 1<=b.count/\qJ b=false)
theorem wear_end {S S4:LS} {U op M:Int} {o:Nat} (h:WInv S.bl U M o) (hr:Rise S S4) (hu:yBa S4.bl op (M+1))
 (hd:∀(i:Nat) (b:Bk) (j:Nat) (c:Bk),S4.bl[i]? = some b->b.bad=false->(i:Int)≠op->S4.bl[j]? = some c->c.bad=false->(j:Int)≠op->c.count<=b.count+U)
 (hop:∀(j:Nat) (b:Bk),S4.bl[j]? = some b->(j:Int)=op->b.bad=false->M - U<=b.count/\b.count<=M/\qJ b=false):∃M' o',WInv S4.bl U M' o':=by
 by_cases hx:∃(j:Nat) (b:Bk),S4.bl[j]? = some b/\b.bad=false/\(j:Int)≠op/\b.count=M+1
 . obtain ⟨jx,bx,x1,x2,x3,x4⟩:=hx
   refine ⟨M+1,op.toNat,λj b hj hb=>?_⟩
   by_cases e:(j:Int)=op
   . obtain ⟨a1,a2,a3⟩:=hop j b hj e hb
     exact ⟨by omega,.inr ⟨by omega,by omega,a3⟩⟩
   . exact ⟨hu j b hj hb e,.inl (by have:=hd j b jx bx hj hb e x1 x2 x3;omega)⟩
 . refine ⟨M,o,λj b' hj hb=>?_⟩
   have hM:b'.count<=M:=by
    by_cases e:(j:Int)=op
    . exact (hop j b' hj e hb).2.1
    . have:=hu j b' hj hb e
      by_cases e2:b'.count=M+1
      . exact absurd ⟨j,b',hj,hb,e,e2⟩ hx
      . omega
   obtain ⟨b,g1,g2,g3,g4⟩:=hr j b' hj
   obtain ⟨f1,f2⟩:=h j b g1 (g2 hb)
   refine ⟨hM,?_⟩
   rcases f2 with k | ⟨k1,k2,k3⟩
   . exact .inl (by omega)
   . by_cases e:M - U<=b'.count
     . exact .inl e
     . refine .inr ⟨k1,by omega,?_⟩
       cases hc:qJ b' with
       | false=>rfl
       | true =>
        exfalso
        rcases g4 hc with m | m
        . rw[k3] at m;cases m
        . omega
theorem sum_one (o:Nat):∀n:Nat,((List.range n).map λj=>1+if j=o then 1 else 0).sum<=n+if o<n then 1 else 0:=by
 intro n
 induction n with
 | zero=>simp
 | succ n ih =>
  rw[List.range_succ,List.map_append,List.sum_append]
  simp only[List.map_cons,List.map_nil,List.sum_cons,List.sum_nil]
  split at ih<;>split<;>split<;>omega
theorem lag_le {l:List Bk} {m op:Int} {o:Nat} (h:∀(j:Nat) (b:Bk),l[j]? = some b->b.bad=false->(j:Int)≠op->m - 1<=b.count\/j=o/\m - 2<=b.count):lag m op l<=l.length+1:=by
 have h1:=sum_le (zJv m op l) (λj=>1+if j=o then 1 else 0) l.length λj hj=>by
  unfold zJv
  rw[List.getElem?_eq_getElem hj]
  dsimp only
  by_cases e:l[j].bad=true\/(j:Int)=op
  . rw[if_pos e];exact Nat.zero_le _
  . rw[if_neg e]
    have hg:l[j].bad=false:=by
     cases h:l[j].bad with
     | false=>rfl
     | true=>exact absurd (.inl h) e
    rcases h j _ (List.getElem?_eq_getElem hj) hg (λh=>e (.inr h)) with k | ⟨k1,k2⟩
    . omega
    . rw[if_pos k1];omega
 have h2:=sum_one o l.length
 unfold lag
 split at h2<;>omega
theorem zTm (Q:PS) (v j:Nat) (hne:j≠v):(Q.wipe v).2.S.bl[j]? = Q.S.bl[j]? :=by
 show (qf Q.S v).2.bl[j]? = _
 unfold qf
 have hk:∀y:Bk,(Q.S.bl.set (v:Int).toNat y)[j]? = Q.S.bl[j]? := λy=>by
  rw[Int.toNat_natCast,List.getElem?_set_ne (λh=>hne h.symm)]
 split
 . rfl
 . split
   . exact hk _
   . split
     . exact hk _
     . exact hk _
theorem Mid.setOp {Q:PS} {D:Dat} {o:Int} (h:Mid Q D) (ho : -1<=o/\o<Q.B):Mid { Q with op:=o } D:=⟨{ h.ok with op:=ho },h.dark,h.sized,h.tabs,h.page⟩
theorem Went.setOp {Q Q':PS} {D:Dat} {R f:Nat} {o:Int} (h:Went Q Q' D R f) (ho : -1<=o/\o<Q.B):Went Q { Q' with op:=o } D R f :=
 ⟨h.mid.setOp (by rw[h.same.1];exact ho),h.same,h.refs,h.bad,h.keeps,h.spent⟩
inductive TailEnd (Q Q1:PS) (D:Dat) (s:Nat) (o1:Int):Int->PS->Prop
 | done (Q':PS) (R f:Nat):(R:Int)<=Q.B+3->Went Q Q' D R f->Q'.over=false->Q'.op=o1->s<=sl Q'.S->(∀j:Nat,(j:Int)=o1->Q'.S.bl[j]? = Q1.S.bl[j]?)->(∀M o,WInv Q.S.bl Q.U M o->∃M' o',WInv Q'.S.bl Q.U M' o')->(∀N,CntOk Q.S (100+N)->CntOk Q'.S N)->TailEnd Q Q1 D s o1 0 Q'
 | over (Q':PS) (R f:Nat):(R:Int)<=Q.B+3->Went Q Q' D R f->Q'.over=true->TailEnd Q Q1 D s o1 6 Q'
 | cut (Q':PS):Dark Q Q' D->TailEnd Q Q1 D s o1 2 Q'
theorem zKz {Q Q1:PS} {D:Dat} {k v s n:Nat} {o1:Int} {b:Bk} (hn:65<=n/\n<=100) (hM:Mid Q D) (hop:Q.op = -1) (hpre:Pre Q Q1 D k) (hb:Q1.S.bl[v]? = some b) (hbad:b.bad=false) (hheld:Q1.held v=0) (hc:CntOk Q.S 100) (hlow:Low Q.S 300000)
 (hs:s<=sl Q1.S+(if qJ b=true then 0 else 1)) (hs2:Q.Sp+Q.bad+1<=(s:Int)) (ho1 : -1<=o1/\o1<Q.B) (hov:(v:Int)≠o1)
 (hdirty:∀(j:Nat) (b:Bk),Q1.S.bl[j]? = some b->(j:Int)=o1->qJ b=false/\∃c,Q.S.bl[j]? = some c/\qJ c=true/\c.count=b.count) :
 ∃e Q',PS.wiped n { Q1 with op:=o1 } v=some (e,Q')/\TailEnd Q Q1 D s o1 e Q':=by
 have hsz:=hM.sizes
 have hbm:=hpre.blk v b hb
 obtain ⟨c0,hc0,-,hc1,-⟩:=hbm
 have hcc:=hc c0 (List.mem_of_getElem? hc0)
 have hsz1:=hpre.mid.sizes
 have hk64:k<=64:=by have:=hpre.bad;omega
 have hkm:(k+1) * Q.S.np<=65 * 32:=Nat.mul_le_mul (by omega) (by omega)
 have hlow1:Low Q1.S 290000:=hlow.spent hpre.spent ⟨by omega,by omega,by omega⟩
 have hr:=zDi (s:=s) (D:=D) (by rw[hop];omega) hpre hb hbad hheld (by omega) (hlow1.spent (Spent.refl _) ⟨by omega,by omega,by omega⟩) hs
 have hother:=zTm Q1 v
 have e1:({ Q1 with op:=o1 } : PS).wipe v=((Q1.wipe v).1,{ (Q1.wipe v).2 with op:=o1 }):=rfl
 unfold PS.wiped
 rw[e1]
 dsimp only
 obtain ⟨e,Q3,he⟩:∃e Q3,Q1.wipe v=(e,Q3):=⟨_,_,rfl⟩
 rw[he] at hr hother ⊢
 dsimp only at hr hother ⊢
 cases hr with
 | done _ f w1 w2 w3 w4 w5 w6 w7 =>
  rw[if_pos rfl]
  obtain ⟨s1,s2,s3,s4,s5,s6,s7,s8⟩:=w1.same
  have hB:=hpre.same.1
  have hlen3:=w1.keeps.len
  have hM3:Mid { Q3 with op:=o1 } D:=w1.mid.setOp (by rw[s1];exact ho1)
  have hne:∀j:Nat,(j:Int)=o1->j≠v:=λj hj e=>hov (by rw[<- e];exact hj)
  have hop3:yE { Q3 with op:=o1 } := λj b' hj e=>(hdirty j b' (by rw[<- hother j (hne j e)];exact hj) e).1
  have hkB:(Q1.B+2).toNat<=66:=by
   have:=hM.ok.len
   rw[hB];omega
  obtain ⟨e2,Q4,l1,l2⟩:=zUk D n hn (Q1.B+2).toNat { Q3 with op:=o1 } hM3 w3 (by show Q3.Sp+Q3.bad+1<=(sl Q3.S:Int);rw[s3,s6];omega) hop3 (λb hb=>by have:=(CntOk.rose (k:=99) hc w4) b hb;omega) (hlow.spent (w1.small hM) ⟨by omega,by omega,by omega⟩)
  refine ⟨e2,Q4,l1,?_⟩
  have hRB:∀R:Nat,R<=(Q1.B+2).toNat->((1+R:Nat):Int)<=Q.B+3:=λR hR=>by have:=hM.ok.may.1;rw[hB] at hR;omega
  have w1':=w1.setOp ho1
  cases l2 with
  | done _ R f2 x0 x1 x2 x3 x4 x5 x6 x7 x8 =>
   have x4':sl Q3.S<=sl Q4.S:=x4
   have hopk:∀j:Nat,(j:Int)=o1->Q4.S.bl[j]? = Q1.S.bl[j]? := λj hj=>(x6 j hj).trans (hother j (hne j hj))
   have hris:Rise Q.S Q4.S:=(w4.rise w6).trans x5
   refine .done Q4 (1+R) (f+f2) (hRB R x0) (w1'.trans x1) x3 x2 (by omega) hopk (λM o hw=>?_) (λN hN=>x8 N ((λb hb=>by
    have:=(CntOk.rose (k:=99+N) (λb hb=>by have:=hN b hb;omega) w4) b hb
    omega)))
   have hU:=hM.ok.may.2.2.2.2.1
   have hup3:yBa Q3.S.bl o1 (M+1):=λj b' hj hb' hjo=>by
    obtain ⟨c,g1,g2,-,-⟩:=w4 j b' hj
    obtain ⟨g3,g4⟩:=g2 hb'
    have:=(hw j c g1 g3).1
    split at g4<;>omega
   have hlag:lag (M+1 - Q3.U) o1 Q3.S.bl<(Q1.B+2).toNat:=by
    have h1:=lag_le (l:=Q3.S.bl) (m:=M+1 - Q3.U) (op:=o1) (o:=o) (λj b' hj hb' hjo=>by
     obtain ⟨c,g1,g2,g3,-⟩:=(w4.rise w6) j b' hj
     rw[s5]
     rcases (hw j c g1 (g2 hb')).2 with k | ⟨k1,k2,-⟩
     . exact .inl (by omega)
     . exact .inr ⟨k1,by omega⟩)
    have:=hM.ok.len
    rw[hB];omega
   obtain ⟨y1,y2⟩:=x7 (M+1) hup3
   have hdue:=y2 hlag
   have hcnt4:∀b∈Q4.S.bl,0<=b.count/\b.count<=4611686018427387904:=λb hb=>by
    have:=x8 0 (λb hb=>by
     have:=(CntOk.rose (k:=99) hc w4) b hb
     omega) b hb
    omega
   have hU4:Q4.U=Q.U:=(x1.same.2.2.2.2.1).trans s5
   have hdd:∀(i:Nat) (b:Bk) (j:Nat) (c:Bk),Q4.S.bl[i]? = some b->b.bad=false->(i:Int)≠o1->Q4.S.bl[j]? = some c->c.bad=false->(j:Int)≠o1->c.count<=b.count+Q.U:=by
    have x2':Q4.op=o1:=x2
    rcases zSu Q4 x1.mid.ok.op.1 hcnt4 with ⟨-,d2⟩ | ⟨k',-,d1,-⟩
    . intro i b j c h1 h2 h3 h4 h5 h6
      have:=d2 i b j c h1 h2 (by rw[x2'];exact h3) h4 h5 (by rw[x2'];exact h6)
      rw[hU4] at this
      exact this
    . rw[hdue] at d1;omega
   refine wear_end hw hris y1 hdd λj b' hj hjo hb'=>?_
   rw[hopk j hjo] at hj
   obtain ⟨g1,c,g2,g3,g4⟩:=hdirty j b' hj hjo
   obtain ⟨k1,k2⟩:=hw j c g2 (vF g3).1
   rcases k2 with k2 | ⟨-,-,k2⟩
   . exact ⟨by omega,by omega,g1⟩
   . rw[g3] at k2;cases k2
  | over _ R f2 x0 x1 x2=>exact .over Q4 (1+R) (f+f2) (hRB R x0) (w1'.trans x1) x2
  | cut _ x1=>exact .cut Q4 (Dark.after w1' x1)
 | over _ f w1 w2 =>
  rw[if_neg (by decide)]
  exact ⟨6,_,rfl,.over _ 1 f (by have:=hM.ok.may.1;omega) (w1.setOp ho1) w2⟩
 | cut _ w1 =>
  rw[if_neg (by decide)]
  exact ⟨2,_,rfl,.cut _ ⟨w1.dark,w1.cut,w1.refs,w1.page,w1.tabs⟩⟩
inductive EmptyEnd (Q:PS) (D:Dat):Int->PS->Prop
 | done (Q':PS) (R f:Nat):(R:Int)<=Q.B+3->Went Q Q' D R f->Q'.over=false ->
  (Q'.op = -1/\Q.Sp+Q.bad+2<=(sl Q'.S:Int)\/∃(td:Nat) (b:Bk),Q'.op=(td:Int)/\Q'.S.bl[td]? = some b/\b.bad=false/\qJ b=false/\b.next<Q.P/\Q.Sp+Q.bad+1<=(sl Q'.S:Int)) ->
  (∀M o,WInv Q.S.bl Q.U M o->∃M' o',WInv Q'.S.bl Q.U M' o')->(∀N,CntOk Q.S (100+N)->CntOk Q'.S N)->EmptyEnd Q D 0 Q'
 | over (Q':PS) (R f:Nat):(R:Int)<=Q.B+3->Went Q Q' D R f->Q'.over=true->EmptyEnd Q D 6 Q'
 | cut (Q':PS):Dark Q Q' D->EmptyEnd Q D 2 Q'
theorem zVa {Q:PS} {D:Dat} {n:Nat} (hn:65<=n/\n<=100) (hM:Mid Q D) (hop:Q.op = -1) (ho:Q.over=false) (hf:yZ Q.B Q.P Q.Sp Q.K Q.U Q.bad) (hr:((Q.L++Q.F).length:Int)<=Q.K+7) (hs:(sl Q.S:Int)=Q.Sp+Q.bad+1) (hc:CntOk Q.S 100) (hlow:Low Q.S 310000) :
 ∃e Q',Q.empty n=some (e,Q')/\EmptyEnd Q D e Q':=by
 obtain ⟨v,b,h1,h2,h3,h4,h5⟩:=zQj hM hf hr (by omega)
 obtain ⟨hv,-⟩:=List.getElem?_eq_some_iff.1 h2
 have hsz:=hM.sizes
 have hlen:=hM.ok.len
 have hopd:yE Q:=λj b' _ e=>by rw[hop] at e;omega
 unfold PS.empty
 rw[h1,if_neg (by omega),if_neg (λh=>h ⟨by omega,by omega⟩)]
 by_cases hh:0<Q.held v
 . rw[if_pos hh]
   have hcn:zBi Q.S.bl<=Q.S.bl.length:=List.countP_le_length
   have hml:(n+1) * (Q.S.np+1)<=101 * 33:=Nat.mul_le_mul (by omega) (by omega)
   obtain ⟨td,e,Q',S0,m1,b0,k0,s0,hM0,m2⟩:=zNd hM n v false (by omega) (hlow.spent (Spent.refl _) ⟨by omega,by omega,by omega⟩)
   have hle:=zJx hM v
   have hhl:=zAh Q v
   have ho0:({ Q with S:=S0 } : PS).over=false:=by rw[<- ho];exact yQ (by rw[b0])
   rw[m1]
   cases m2 with
   | moved k td b1 S1 S2 w1 w2 w3 w4 w5 w6 w7 w8 w9 w10 =>
    have hpre:Pre Q _ D k:=zNc hopd w4 hM b0 k0 s0 w1 w2 w3 w6 w7 w8 w9 (w10 ho0)
    obtain ⟨c,hc1,hc2⟩:=w1.blk v b (by rw[b0];exact h2)
    have hcb':c=b:=by
     rcases hc2 with e | ⟨e,-,-⟩
     . exact e
     . rw[h4] at e;cases e
    subst hcb'
    have hne:v≠td:=λe=>by
     subst e
     rw[hc1] at w2
     obtain rfl:=Option.some.inj w2
     rw[h4] at w3;cases w3
    have hsl:=zRs w1 w2 w3 w6 (by simp;omega)
    obtain ⟨htd,-⟩:=List.getElem?_eq_some_iff.1 w2
    have htdB:(td:Int)<Q.B:=by have:=w1.len;rw[b0] at this;omega
    dsimp only
    rw[if_pos rfl,if_pos (show PS.num _ _ from ⟨by omega,htdB⟩)]
    have hlaid:S2.bl[td]? = some (yF b1 0 ((Q.here v).map λf=>vG D f.1)):=by rw[w6,List.getElem?_set_self htd]
    obtain ⟨cb,e1,e2,e3,e4,-⟩:=w1.back w2
    rw[b0] at e1
    have e2':=e2 (vF w3).1
    subst e2'
    obtain ⟨er,Q4,t1,t2⟩:=zKz (s:=sl Q.S) (o1:=(td:Int)) (b:=c) hn hM hop hpre (by
     show S2.bl[v]? = _
     rw[w6,List.getElem?_set_ne (λe=>hne e.symm)];exact hc1) h3 (zHz hM.tabs v td (by omega) S2).1 hc (hlow.spent (Spent.refl _) ⟨by omega,by omega,by omega⟩) (by
      rw[h4,if_neg (by decide)]
      exact Nat.le_of_eq (hsl.trans (zFj b0)).symm) (by omega) ⟨by omega,htdB⟩ (by omega) (λj b' hj hjo=>by
      have hj2:j=td:=by omega
      subst hj2
      have hj3:S2.bl[j]? = some b':=hj
      rw[hlaid] at hj3
      obtain rfl:=Option.some.inj hj3
      exact ⟨zIi (by simp;omega),b1,e1,w3,rfl⟩)
    refine ⟨er,Q4,t1,?_⟩
    cases t2 with
    | done _ R f x0 x1 x2 x3 x4 x5 x6 x7 =>
     refine .done Q4 R f x0 x1 x2 (.inr ⟨td,yF b1 0 ((Q.here v).map λf=>vG D f.1),x3,?_,rfl,zIi (by simp;omega),?_,by omega⟩) x6 x7
     . rw[x5 td rfl];exact hlaid
     . show ((0+((Q.here v).map λf=>vG D f.1).length:Nat):Int)<Q.P
       rw[List.length_map]
       omega
    | over _ R f x0 x1 x2=>exact .over Q4 R f x0 x1 x2
    | cut _ x1=>exact .cut Q4 x1
   | over k S1 w1 w2 w3 w4 w5 =>
    dsimp only
    rw[if_neg (by decide)]
    refine ⟨_,_,rfl,.over _ 1 k (by have:=hM.ok.may.1;omega) ⟨w5,⟨rfl,rfl,rfl,rfl,rfl,rfl,rfl,rfl⟩,⟨rfl,rfl⟩,?_,k0.trans w3,(s0.trans w4).le (by omega) ?_ (by omega)⟩ w2⟩
    . have:=w1.bad;rw[b0] at this;exact this
    . have:(k+1) * (Q.here v).length<=(1+k) * Q.S.np:=Nat.mul_le_mul (by omega) (by omega)
      omega
   | none k S1 w1 w2 w3 w4 w5 w6 =>
    have e1:sl S1=sl Q.S:=(zZz w1).trans (zFj b0)
    obtain ⟨j,b',hj,hjc⟩:=zEy (zKh (Q := { Q with S:=S1 }) (w6 ho0) (by show Q.Sp+Q.bad+1<=(sl S1:Int);omega))
    obtain ⟨c,e3,-,-,e4,-⟩:=w1.back hj
    rw[b0] at e3
    have:=hopd j c e3 (w2 j b' hj hjc)
    rw[e4 hjc] at this;cases this
   | cut S1 w1 w2 w3 =>
    dsimp only
    rw[if_neg (by decide)]
    refine ⟨_,_,rfl,.cut _ ⟨w1,?_,⟨rfl,rfl⟩,w3,hM.tabs⟩⟩
    cases hs:Q.S.c.set with
    | true=>rfl
    | false =>
     have h5:S0.c.set=true:=w2
     rw[(k0.cut hs).1] at h5;cases h5
 . rw[if_neg hh]
   have hB3:=hM.ok.may.1
   obtain ⟨er,Q4,t1,t2⟩:=zKz (Q1:=Q) (k:=0) (s:=sl Q.S+1) (o1 := -1) (b:=b) hn hM hop ⟨hM,⟨rfl,rfl,rfl,rfl,rfl,rfl,rfl,rfl⟩,⟨rfl,rfl⟩,rfl,Keeps.refl _,(Spent.refl _).le (by omega) (by omega) (by omega),rfl,ho,λj c hj=>⟨c,hj,λe=>e,rfl,λe=>e⟩,λ_ _=>rfl⟩ h2 h3 (by omega) hc (hlow.spent (Spent.refl _) ⟨by omega,by omega,by omega⟩) (by
    rw[h4,if_neg (by decide)];omega) (by omega) ⟨by omega,by omega⟩ (by omega) (λj b' _ e=>by omega)
   have eQ:({ Q with op := -1 } : PS)=Q:=by rw[<- hop]
   rw[eQ] at t1
   refine ⟨er,Q4,t1,?_⟩
   cases t2 with
   | done _ R f x0 x1 x2 x3 x4 x5 x6 x7=>exact .done Q4 R f x0 x1 x2 (.inl ⟨x3,by omega⟩) x6 x7
   | over _ R f x0 x1 x2=>exact .over Q4 R f x0 x1 x2
   | cut _ x1=>exact .cut Q4 x1
end
section
open Go.RowKit
theorem zAo (l:List Bk):∀k:Nat,(qV k l).length=l.countP qJ:=by
 induction l with
 | nil=>exact λ_=>rfl
 | cons b l ih =>
  intro k
  unfold qV
  rw[List.countP_cons]
  cases h:qJ b with
  | true=>rw[if_pos rfl,if_pos rfl,List.length_cons,ih]
  | false=>rw[if_neg (by decide),if_neg (by decide),ih];rfl
structure Rich (Q:PS) (D:Dat):Prop where
 mid:Mid Q D
 fit:yZ Q.B Q.P Q.Sp Q.K Q.U Q.bad
 room:((Q.L++Q.F).length:Int)<=Q.K+7
 over:Q.over=false
 slc:Q.Sp+Q.bad+1<=(sl Q.S:Int)
 badc:Q.bad<=(qx Q.S.bl:Int)
theorem zDg (S:LS):(sl S:Int)=(zBi S.bl:Int)+(qx S.bl:Int):=by show ((zBi S.bl+qx S.bl:Nat):Int)=_;omega
theorem zNz {Q:PS} {D:Dat} (h:Rich Q D):Q.floor<((qK Q.S.bl).length:Int)↔Q.Sp+Q.bad+2<=(sl Q.S:Int):=by
 have h1:(qK Q.S.bl).length=zBi Q.S.bl:=zAo _ _
 have h2:=h.over
 have h3:=h.badc
 have h4:=zDg Q.S
 unfold PS.over at h2
 simp only[decide_eq_false_iff_not] at h2
 unfold PS.bads at h2
 unfold PS.floor zAj PS.bads
 rw[h1,if_pos ⟨h.mid.ok.may,by omega⟩,if_pos (by omega)]
 omega
theorem Rich.went {Q Q':PS} {D:Dat} {R f:Nat} (h:Rich Q D) (w:Went Q Q' D R f) (ho:Q'.over=false) (hs:Q.Sp+Q.bad+1<=(sl Q'.S:Int)):Rich Q' D:=by
 obtain ⟨s1,s2,s3,s4,s5,s6,s7,s8⟩:=w.same
 have hb:=w.bad
 have hbc:=h.badc
 refine ⟨w.mid,by rw[s1,s2,s3,s4,s5,s6];exact h.fit,?_,ho,by rw[s3,s6];exact hs,by rw[s6];omega⟩
 have h1:Q'.L.length=Q.L.length:=by have:=congrArg List.length w.refs.1;simpa using this
 have h2:Q'.F.length=Q.F.length:=by have:=congrArg List.length w.refs.2;simpa using this
 have:=h.room
 rw[List.length_append] at this ⊢
 rw[s4,h1,h2];exact this
inductive BeginEnd (Q:PS) (D:Dat):Int->PS->Prop
 | done (Q':PS) (R f td:Nat) (b:Bk):(R:Int)<=Q.B+3->(Q.Sp+Q.bad+2<=(sl Q.S:Int)->R=0)->Went Q Q' D R f->Q'.over=false->Q'.op=(td:Int)->Q'.S.bl[td]? = some b->b.bad=false->b.next<Q.P ->
  Q.Sp+Q.bad+1+(if qJ b=true then 1 else 0)<=(sl Q'.S:Int)->(∀M o,WInv Q.S.bl Q.U M o->∃M' o',WInv Q'.S.bl Q.U M' o')->(∀N,CntOk Q.S (100+N)->CntOk Q'.S N)->sl Q.S<=sl Q'.S->BeginEnd Q D 0 Q'
 | over (Q':PS) (R f:Nat):(R:Int)<=Q.B+3->(Q.Sp+Q.bad+2<=(sl Q.S:Int)->R=0)->Went Q Q' D R f->Q'.over=true->BeginEnd Q D 6 Q'
 | cut (Q':PS):Dark Q Q' D->BeginEnd Q D 2 Q'
theorem zMy {Q:PS} {D:Dat} {n k:Nat} (h:Rich Q D) (hop:Q.op = -1) (hs:Q.Sp+Q.bad+2<=(sl Q.S:Int)) :
 ∃(td:Nat) (b:Bk),PS.beginLoop n (k+1) Q=some (0,{ Q with op:=(td:Int) })/\Q.S.bl[td]? = some b/\qJ b=true/\(td:Int)<Q.B:=by
 have hlen:=h.mid.ok.len
 rcases zEc Q false with ⟨-,h2⟩ | ⟨td,b,h1,h2,h3,h4,h5⟩
 . obtain ⟨j,b,hj,hc⟩:=zEy (zKh h.over h.slc)
   have:=h2 j b hj hc
   rw[hop] at this;omega
 . obtain ⟨hd,-⟩:=List.getElem?_eq_some_iff.1 h2
   refine ⟨td,b,?_,h2,h3,by omega⟩
   unfold PS.beginLoop
   rw[if_neg (λk=>k hop),if_pos ((zNz h).2 hs),h1,if_pos (show PS.num _ _ from ⟨by omega,by omega⟩)]
theorem zVk {Q:PS} {D:Dat} {n m:Nat} (hn:65<=n/\n<=100) (h:Rich Q D) (hop:Q.op = -1) (hc:CntOk Q.S 100) (hlow:Low Q.S 310000) :
 ∃e Q',PS.beginLoop n (m+2) Q=some (e,Q')/\BeginEnd Q D e Q':=by
 have hB3:=h.mid.ok.may.1
 have hP:=h.mid.ok.pg
 by_cases hs:Q.Sp+Q.bad+2<=(sl Q.S:Int)
 . obtain ⟨td,b,h1,h2,h3,h4⟩:=zMy (n:=n) (k:=m+1) h hop hs
   refine ⟨0,_,h1,.done _ 0 0 td b (by omega) (λ_=>rfl) ((Went.refl h.mid).setOp ⟨by omega,h4⟩) h.over rfl h2 (vF h3).1 (by rw[(vF h3).2];omega) (by rw[h3,if_pos rfl];show _<=(sl Q.S:Int);omega) (λM o hw=>⟨M,o,hw⟩) (λN hN b hb=>by have:=hN b hb;omega) nL⟩
 . have hslc:=h.slc
   obtain ⟨e,Q1,e1,e2⟩:=zVa hn h.mid hop h.over h.fit h.room (by omega) hc hlow
   unfold PS.beginLoop
   rw[if_neg (λk=>k hop),if_neg (λk=>hs ((zNz h).1 k)),e1]
   dsimp only
   cases e2 with
   | done _ R f x0 x1 x2 x3 x4 x5 =>
    rw[if_pos rfl]
    obtain ⟨s1,s2,s3,s4,s5,s6,s7,s8⟩:=x1.same
    rcases x3 with ⟨y1,y2⟩ | ⟨td,b,y1,y2,y3,y4,y5,y6⟩
    . have hr1:=h.went x1 x2 (by omega)
      obtain ⟨td,b,h1,h2,h3,h4⟩:=zMy (n:=n) (k:=m) hr1 y1 (by rw[s3,s6];exact y2)
      refine ⟨0,_,h1,.done _ R f td b x0 (λk=>absurd k hs) (x1.setOp ⟨by omega,by rw[<- s1];exact h4⟩) x2 rfl h2 (vF h3).1 (by rw[(vF h3).2];omega) (by rw[h3,if_pos rfl];show _<=(sl Q1.S:Int);omega) x4 x5 (by show sl Q.S<=sl Q1.S;omega)⟩
    . refine ⟨0,Q1,?_,.done Q1 R f td b x0 (λk=>absurd k hs) x1 x2 y1 y2 y3 y5 (by rw[y4,if_neg (by decide)];omega) x4 x5 (by omega)⟩
      unfold PS.beginLoop
      rw[if_pos (by rw[y1];omega)]
   | over _ R f x0 x1 x2 =>
    rw[if_neg (by decide)]
    exact ⟨6,Q1,rfl,.over Q1 R f x0 (λk=>absurd k hs) x1 x2⟩
   | cut _ x1 =>
    rw[if_neg (by decide)]
    exact ⟨2,Q1,rfl,.cut Q1 x1⟩
theorem zWf {Q:PS} {td:Nat} {b:Bk} (h:Q.S.bl[td]? = some b):qI Q.S (td:Int)=b:=by
 obtain ⟨hd,e⟩:=List.getElem?_eq_some_iff.1 h
 unfold qI
 rw[isN hd,if_pos rfl,vi hd,e]
theorem zYx {b:Bk} {P:Int} (hP:P<=32) (hn:0<=b.next):zAc b P=0↔b.bad=true\/P<=b.next:=by
 unfold zAc
 cases h:b.bad with
 | true=>simp
 | false =>
  simp only[Bool.false_eq_true,if_false,false_or]
  split
  . omega
  . split<;>omega
theorem zVj {Q:PS} {D:Dat} {n:Nat} (hn:65<=n/\n<=100) (h:Rich Q D) (hop:yE Q) (hc:CntOk Q.S 100) (hlow:Low Q.S 310000) :
 ∃e Q',Q.begin n=some (e,Q')/\BeginEnd Q D e Q':=by
 obtain ⟨m,rfl⟩:∃m,n=m+2:=⟨n - 2,by omega⟩
 have hB3:=h.mid.ok.may.1
 have hP:=h.mid.ok.pg
 have hlen:=h.mid.ok.len
 have hopr:=h.mid.ok.op
 have closed:Q.shut = { Q with op := -1 } -> ∃e Q',PS.beginLoop (m+2) (m+2) { Q with op := -1 } = some (e,Q')/\BeginEnd Q D e Q':=λ_=>by
  have h0:Rich { Q with op := -1 } D:=⟨h.mid.setOp ⟨by omega,by omega⟩,h.fit,h.room,h.over,h.slc,h.badc⟩
  obtain ⟨e,Q',e1,e2⟩:=zVk hn (m:=m) h0 rfl hc hlow
  refine ⟨e,Q',e1,?_⟩
  cases e2 with
  | done _ R f td b x0 x1 x2 x3 x4 x5 x6 x7 x8 x9 x10 x11=>exact .done Q' R f td b x0 x1 ⟨x2.mid,x2.same,x2.refs,x2.bad,x2.keeps,x2.spent⟩ x3 x4 x5 x6 x7 x8 x9 x10 x11
  | over _ R f x0 x1 x2 x3=>exact .over Q' R f x0 x1 ⟨x2.mid,x2.same,x2.refs,x2.bad,x2.keeps,x2.spent⟩ x3
  | cut _ x=>exact .cut Q' ⟨x.dark,x.cut,x.refs,x.page,x.tabs⟩
 unfold PS.begin
 by_cases hsh:Q.op ≠ -1/\zAc (qI Q.S Q.op) Q.P=0
 . have e:Q.shut = { Q with op := -1 } :=by unfold PS.shut;rw[if_pos hsh]
   rw[e];exact closed e
 . have e:Q.shut=Q:=by unfold PS.shut;rw[if_neg hsh]
   by_cases h1:Q.op = -1
   . have e2:Q.shut = { Q with op := -1 } :=by rw[e,<- h1]
     rw[e2];exact closed e2
   . rw[e]
     obtain ⟨td,htd⟩:∃td:Nat,Q.op=(td:Int):=⟨Q.op.toNat,by omega⟩
     have htl:td<Q.S.bl.length:=by omega
     have hb:=List.getElem?_eq_getElem htl
     have htb:=zWf hb
     have hsz:=h.mid.sized _ (List.getElem_mem htl)
     have hl:¬zAc (qI Q.S Q.op) Q.P=0:=λk=>hsh ⟨h1,k⟩
     rw[htd,htb,zYx (by omega) hsz.2.1] at hl
     have hbad:Q.S.bl[td].bad=false:=by
      cases k:Q.S.bl[td].bad with
      | false=>rfl
      | true=>exact absurd (.inl k) hl
     have hnx:Q.S.bl[td].next<Q.P:=by
      rcases Int.lt_or_le Q.S.bl[td].next Q.P with k | k
      . exact k
      . exact absurd (.inr k) hl
     refine ⟨0,Q,?_,.done Q 0 0 td _ (by omega) (λ_=>rfl) (Went.refl h.mid) h.over htd hb hbad hnx (by rw[hop td _ hb htd.symm,if_neg (by decide)];have:=h.slc;omega) (λM o hw=>⟨M,o,hw⟩) (λN hN b hb=>by have:=hN b hb;omega) nL⟩
     unfold PS.beginLoop
     rw[if_pos h1]
end
section
open Go.RowKit
structure Wrote (Q Q':PS) (D:Dat) (R f x:Nat):Prop where
 mid:Mid Q' D
 same:Q'.B=Q.B/\Q'.P=Q.P/\Q'.Sp=Q.Sp/\Q'.K=Q.K/\Q'.U=Q.U/\Q'.bad=Q.bad/\Q'.seq=Q.seq/\Q'.down=Q.down
 refs:Q'.L.map (·.1)=Q.L.map (·.1)/\Q'.F.map (·.1)=Q.F.map (·.1)
 bad:qx Q'.S.bl=qx Q.S.bl+f
 keeps:Keeps Q.S Q'.S
 spent:Spent Q.S Q'.S (R * Q.S.np) ((R+f) * Q.S.np+x) R
theorem Went.wrote {Q Q':PS} {D:Dat} {R f:Nat} (h:Went Q Q' D R f):Wrote Q Q' D R f 0:=⟨h.mid,h.same,h.refs,h.bad,h.keeps,h.spent.le (by omega) (by omega) (by omega)⟩
theorem Wrote.trans {Q Q1 Q2:PS} {D:Dat} {R f x R' f' x':Nat} (h:Wrote Q Q1 D R f x) (k:Wrote Q1 Q2 D R' f' x'):Wrote Q Q2 D (R+R') (f+f') (x+x'):=by
 obtain ⟨a1,a2,a3,a4,a5,a6,a7,a8⟩:=h.same
 obtain ⟨b1,b2,b3,b4,b5,b6,b7,b8⟩:=k.same
 refine ⟨k.mid,⟨b1.trans a1,b2.trans a2,b3.trans a3,b4.trans a4,b5.trans a5,b6.trans a6,b7.trans a7,b8.trans a8⟩,⟨k.refs.1.trans h.refs.1,k.refs.2.trans h.refs.2⟩,by have:=h.bad;have:=k.bad;omega,h.keeps.trans k.keeps,?_⟩
 have hs:=k.spent
 rw[h.keeps.np] at hs
 refine (h.spent.trans hs).le ?_ ?_ nL
 . rw[Nat.add_mul];omega
 . rw[show R+R'+(f+f')=R+f+(R'+f') by omega,Nat.add_mul (R+f)];omega
structure Stood (Q:PS) (i j:Nat) (bts:List UInt8):Prop where
 lt:j<Q.S.np
 blk:∃b,Q.S.bl[i]? = some b/\(j:Int)<b.next/\b.pages[j]? = some bts
 free:∀f∈Q.L++Q.F,f.2≠((i:Int),(j:Int))
inductive WriteEnd (Q:PS) (D:Dat) (bts:List UInt8) (c:Nat):P2->Int->PS->Prop
 | done (Q':PS) (R f x i j:Nat):(R:Int)<=Q.B+3->(Q.Sp+Q.bad+2<=(sl Q.S:Int)->R=0)->Wrote Q Q' D R f x->x<=f+1->Q'.over=false->yE Q'->Q.Sp+Q.bad+1<=(sl Q'.S:Int)->(∀M o,WInv Q.S.bl Q.U M o->∃M' o',WInv Q'.S.bl Q.U M' o')->(∀N,CntOk Q.S (c+N)->CntOk Q'.S N)->Stood Q' i j bts->(i:Int)<Q.B->WriteEnd Q D bts c ((i:Int),(j:Int)) 0 Q'
 | over (Q':PS) (R f x:Nat):(R:Int)<=Q.B+3->(Q.Sp+Q.bad+2<=(sl Q.S:Int)->R=0)->Wrote Q Q' D R f x->x<=f+1->Q'.over=true->WriteEnd Q D bts c (0,0) 6 Q'
 | cut (Q':PS):Dark Q Q' D->WriteEnd Q D bts c (0,0) 2 Q'
theorem WInv.set {l:List Bk} {U M:Int} {o i:Nat} {b y:Bk} (h:WInv l U M o) (hb:l[i]? = some b) (h1:y.count=b.count) (h2:y.bad=false->b.bad=false) (h3:qJ y=false):WInv (l.set i y) U M o:=λj c hj hc=>by
 rcases zJf hj with ⟨rfl,rfl,-⟩ | ⟨-,hj⟩
 . obtain ⟨k1,k2⟩:=h j b hb (h2 hc)
   refine ⟨by omega,?_⟩
   rcases k2 with k | ⟨k,k',-⟩
   . exact .inl (by omega)
   . exact .inr ⟨k,by omega,h3⟩
 . exact h j c hj hc
theorem CntOk.set {S S':LS} {N i:Nat} {b y:Bk} (h:CntOk S N) (hb:S.bl[i]? = some b) (hbl:S'.bl=S.bl.set i y) (h1:y.count=b.count):CntOk S' N:=λc hc=>by
 rw[hbl] at hc
 rcases List.mem_or_eq_of_mem_set hc with k | rfl
 . exact h c k
 . rw[h1];exact h b (List.mem_of_getElem? hb)
theorem zTj (D:Dat) (bts:List UInt8) (n:Nat) (hn:65<=n/\n<=100) (hbt:1<=bts.length/\bts.length<=2000):∀(k:Nat) (Q:PS),Rich Q D->yE Q->Q.S.bl.length<k+qx Q.S.bl->CntOk Q.S (k * 100)->Low Q.S (k * 6000+320000) ->
 ∃s e Q',PS.write n bts k Q=some (s,e,Q')/\WriteEnd Q D bts (k * 100) s e Q':=by
 intro k
 induction k with
 | zero=>intro Q _ _ h;have:=zGt Q.S.bl;omega
 | succ k ih =>
  intro Q h hop hk hc hlow
  have hB3:=h.mid.ok.may.1
  have hP:=h.mid.ok.pg
  have hlen:=h.mid.ok.len
  have hsz:=h.mid.sizes
  obtain ⟨e1,Q1,b1,b2⟩:=zVj hn h hop (λb hb=>by have:=hc b hb;omega) (hlow.spent (Spent.refl _) ⟨by omega,by omega,by omega⟩)
  unfold PS.write
  rw[b1]
  dsimp only
  cases b2 with
  | over _ R f x0 x1 x2 x3 =>
   rw[if_neg (by decide)]
   exact ⟨_,_,_,rfl,.over Q1 R f 0 x0 x1 x2.wrote (by omega) x3⟩
  | cut _ x0 =>
   rw[if_neg (by decide)]
   exact ⟨_,_,_,rfl,.cut Q1 x0⟩
  | done _ R f td b x0 x1 x2 x3 x4 x5 x6 x7 x8 x9 x10 x11 =>
   rw[if_pos rfl]
   obtain ⟨s1,s2,s3,s4,s5,s6,s7,s8⟩:=x2.same
   obtain ⟨htd,hbe⟩:=List.getElem?_eq_some_iff.1 x5
   have hszb:=x2.mid.sized b (List.mem_of_getElem? x5)
   have hnp1:=x2.keeps.np
   have hnpP:=x2.mid.ok.np
   have hlen1:=x2.keeps.len
   obtain ⟨j,hj⟩:∃j:Nat,b.next=(j:Int):=⟨b.next.toNat,by omega⟩
   have hjnp:j<Q1.S.np:=by have:=hnpP;rw[s2] at this;omega
   have hat:Q1.nextAt=((td:Int),(j:Int)):=by
    unfold PS.nextAt
    rw[x4,zWf x5,hj]
   rw[hat]
   dsimp only
   have hsz1:=x2.mid.sizes
   have hb1:=x2.bad
   have hRf:(R+f) * Q.S.np<=131 * 32:=Nat.mul_le_mul (by omega) (by omega)
   have hRn:R * Q.S.np<=67 * 32:=Nat.mul_le_mul (by omega) (by omega)
   have hlow1:Low Q1.S (k * 6000+320000+1000):=hlow.spent x2.spent ⟨by omega,by omega,by omega⟩
   have hl1:=hlow1.2.1
   have hpg:∀f∈Q1.L++Q1.F,f.2≠((td:Int),(j:Int)):=λg hg e=>by
    obtain ⟨i',j',e',-,-,c,hc',hn',-⟩:=x2.mid.page g hg
    rw[e'] at e
    injection e with e5 e6
    obtain rfl:i'=td:=by omega
    rw[x5] at hc'
    obtain rfl:=Option.some.inj hc'
    omega
   have hprog:=zHu (l:=bts) htd hjnp x2.mid.dark (by rw[hbe];exact x6) (by rw[hbe];exact hj) hbt
   have hokp:=x2.mid.ok.prog (td:Int) (j:Int) bts
   have hnx:∀{S':LS} {bad:Bool} {l':List UInt8},ProgTo Q1.S S' td j bts htd bad l'->S'.bl=Q1.S.bl.set td { b with bad:=bad,next:=(j:Int)+1,pages:=b.pages.set j l' } := λ{S' bad l'} t=>by
    have:=t.bl
    rw[hbe] at this;exact this
   have hycl:∀(bad:Bool) (l':List UInt8),qJ { b with bad:=bad,next:=(j:Int)+1,pages:=b.pages.set j l' } = false:=λbad l'=>by
    have e:¬((j:Int)+1=0):=by omega
    cases bad
    . show (!false&&((j:Int)+1==0))=false
      simp only[Bool.not_false,Bool.true_and]
      exact beq_false_of_ne e
    . rfl
   rcases hprog with ⟨S2,p1,p2,p3⟩ | ⟨S2,p1,p2,p3⟩ | ⟨S2,p1,p2,p4,p3⟩
   . rw[p1] at hokp ⊢
     dsimp only at hokp ⊢
     rw[if_pos rfl]
     have hbl2:=hnx p3
     have hM2:Mid { Q1 with S:=S2 } D:=x2.mid.chip hokp p2 (x2.mid.sized.prog p3 hjnp) λg hg=>(x2.mid.page g hg).prog p3 (by rw[hbe];exact hj)
     have hbad2:qx S2.bl=qx Q1.S.bl:=by rw[hbl2];exact zCe x5 x6.symm
     have hcl:=zGk (y := { b with bad:=false,next:=(j:Int)+1,pages:=b.pages.set j bts }) x5
     simp only[hycl,Bool.false_eq_true,if_false,Nat.add_zero] at hcl
     rw[<- hbl2] at hcl
     have hsp2:=p3.spent (by omega) hl1.1
     refine ⟨_,_,_,rfl,.done { Q1 with S:=S2 } R f 1 td j x0 x1 ⟨hM2,x2.same,x2.refs,by show qx S2.bl=_;rw[hbad2];exact hb1,x2.keeps.trans p3.keeps,(x2.spent.trans hsp2).le (by omega) (by omega) (by omega)⟩ (by omega) (by rw[<- x3];exact yQ hbad2) ?_ ?_ (λM o hw=>?_) (λN hN=>?_) ⟨by show j<S2.np;rw[p3.keeps.np];exact hjnp,⟨_,by show S2.bl[td]? = _;rw[hbl2,List.getElem?_set_self htd],by show (j:Int)<(j:Int)+1;omega,?_⟩,hpg⟩ (by omega)⟩
     . intro j' b' hj' e'
       have hj2:S2.bl[j']? = some b':=hj'
       have e2:(j':Int)=Q1.op:=e'
       rw[x4] at e2
       obtain rfl:j'=td:=by omega
       rw[hbl2,List.getElem?_set_self htd] at hj2
       obtain rfl:=Option.some.inj hj2
       exact hycl _ _
     . show _<=(sl S2:Int)
       rw[zDg,hbad2]
       rw[zDg] at x8
       split at x8<;>split at hcl
       . omega
       . next a b=>exact absurd a b
       . next a b=>exact absurd b a
       . omega
     . obtain ⟨M',o',hw'⟩:=x9 M o hw
       exact ⟨M',o',by show WInv S2.bl _ _ _;rw[hbl2];exact hw'.set x5 rfl (λ_=>x6) (hycl _ _)⟩
     . exact (x10 N (λb hb=>by have:=hN b hb;omega)).set x5 hbl2 rfl
     . show (b.pages.set j bts)[j]? = _
       rw[List.getElem?_set_self (by rw[hszb.1];exact hjnp)]
   . rw[p1] at hokp ⊢
     dsimp only at hokp ⊢
     rw[if_neg (by decide)]
     have hbl2:=hnx p3
     have hM2:Mid { Q1 with S:=S2 } D:=x2.mid.chip hokp p2 (x2.mid.sized.prog p3 hjnp) λg hg=>(x2.mid.page g hg).prog p3 (by rw[hbe];exact hj)
     have hbad2:qx S2.bl=qx Q1.S.bl+1:=by rw[hbl2];exact zKk x5 x6 rfl
     have hcl:=zGk (y := { b with bad:=true,next:=(j:Int)+1,pages:=b.pages.set j (bts.take (bts.length / 2)) }) x5
     simp only[hycl,Bool.false_eq_true,if_false,Nat.add_zero] at hcl
     rw[<- hbl2] at hcl
     have hsp2:=p3.spent (by omega) hl1.1
     have hmul2:(R+f) * Q.S.np<=(R+(f+1)) * Q.S.np:=Nat.mul_le_mul_right _ (by omega)
     have hw2:Wrote Q { Q1 with S:=S2 } D R (f+1) 1:=⟨hM2,x2.same,x2.refs,by show qx S2.bl=_;omega,x2.keeps.trans p3.keeps,(x2.spent.trans hsp2).le (by omega) (by omega) (by omega)⟩
     have hpass:({ Q1 with S:=S2 } : PS).passed 3=if ({ Q1 with S:=S2 } : PS).over=true then 6 else 0:=by unfold PS.passed;rw[if_neg (by simp)]
     rw[hpass]
     have hsl2:Q.Sp+Q.bad+2<=(sl S2:Int):=by
      rw[zDg,hbad2]
      rw[zDg] at x8
      split at x8<;>split at hcl
      . omega
      . next a b=>exact absurd a b
      . next a b=>exact absurd b a
      . omega
     cases ho:({ Q1 with S:=S2 } : PS).over with
     | true =>
      rw[if_pos (show true=true from rfl),if_neg (by decide)]
      exact ⟨_,_,_,rfl,.over _ R (f+1) 1 x0 x1 hw2 (by omega) ho⟩
     | false =>
      rw[if_neg (show ¬(false=true) by decide),if_pos rfl]
      have hr1:=h.went x2 x3 (by split at x8<;>omega)
      have hr2:Rich { Q1 with S:=S2 } D:=⟨hM2,hr1.fit,hr1.room,ho,by show Q1.Sp+Q1.bad+1<=(sl S2:Int);omega,by show Q1.bad<=(qx S2.bl:Int);have:=hr1.badc;omega⟩
      have hlow2:Low S2 (k * 6000+320000):=hlow1.spent hsp2 ⟨by omega,by omega,by omega⟩
      obtain ⟨s,e,Q3,w1,w2⟩:=ih { Q1 with S:=S2 } hr2 (λj' b' hj' e'=>by
       have hj2:S2.bl[j']? = some b':=hj'
       have e2:(j':Int)=Q1.op:=e'
       rw[x4] at e2
       obtain rfl:j'=td:=by omega
       rw[hbl2,List.getElem?_set_self htd] at hj2
       obtain rfl:=Option.some.inj hj2
       exact hycl _ _) (by show S2.bl.length<k+qx S2.bl;have:=p3.keeps.len;omega) ((x10 (k * 100) (λb hb=>by have:=hc b hb;omega)).set x5 hbl2 rfl) hlow2
      refine ⟨s,e,Q3,w1,?_⟩
      have hR0:∀R':Nat,(Q1.Sp+Q1.bad+2<=(sl S2:Int)->R'=0)->R'=0:=λR' k=>k (by omega)
      cases w2 with
      | done _ R' f' x' i j' y0 y1 y2 y3 y4 y5 y6 y7 y8 y9 y10 =>
       obtain rfl:=hR0 R' y1
       refine .done Q3 (R+0) (f+1+f') (1+x') i j' (by omega) (λk=>by have:=x1 k;omega) (hw2.trans y2) (by omega) y4 y5 (by have y6':Q1.Sp+Q1.bad+1<=(sl Q3.S:Int):=y6;omega) (λM o hw=>?_) (λN hN=>?_) y9 (by have y10':(i:Int)<Q1.B:=y10;omega)
       . obtain ⟨M',o',hw'⟩:=x9 M o hw
         have:=y7 M' o' (by show WInv S2.bl Q1.U _ _;rw[hbl2,s5];exact hw'.set x5 rfl (λe=>by cases e) (hycl _ _))
         have y7':∃M' o',WInv Q3.S.bl Q1.U M' o':=this
         rw[s5] at y7';exact y7'
       . exact y8 N ((x10 (k * 100+N) (λb hb=>by have:=hN b hb;omega)).set x5 hbl2 rfl)
      | over _ R' f' x' y0 y1 y2 y3 y4 =>
       obtain rfl:=hR0 R' y1
       exact .over Q3 (R+0) (f+1+f') (1+x') (by omega) (λk=>by have:=x1 k;omega) (hw2.trans y2) (by omega) y4
      | cut _ y0 =>
       refine .cut Q3 ⟨y0.dark,?_,⟨y0.refs.1.trans x2.refs.1,y0.refs.2.trans x2.refs.2⟩,y0.page,y0.tabs⟩
       cases hs:Q.S.c.set with
       | true=>rfl
       | false =>
        have h5:S2.c.set=true:=y0.cut
        rw[((x2.keeps.trans p3.keeps).cut hs).1] at h5;cases h5
   . rw[p1]
     dsimp only
     rw[if_neg (by decide)]
     have hpass:({ Q1 with S:=S2 } : PS).passed 2=2:=by unfold PS.passed;rw[if_pos (by decide)]
     rw[hpass,if_neg (by decide)]
     refine ⟨_,_,_,rfl,.cut _ ⟨p2,?_,x2.refs,λg hg=>(x2.mid.page g hg).prog p3 (by rw[hbe];exact hj),x2.mid.tabs⟩⟩
     cases hs:Q.S.c.set with
     | true=>rfl
     | false =>
      rw[(x2.keeps.cut hs).1] at p4;cases p4
end
end Go.Proofs.YtinkkmlbhkfmnaaGreat
