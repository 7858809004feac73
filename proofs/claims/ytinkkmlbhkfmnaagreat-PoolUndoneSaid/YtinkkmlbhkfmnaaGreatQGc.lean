/- A part of what the last text proves: Gc. -/
import Derived.Great.BuildSlice
import Derived.Test.YtinkkmlbhkfmnaaGreatQGb
set_option maxRecDepth 100000
set_option maxHeartbeats 8000000
namespace Go.Proofs.YtinkkmlbhkfmnaaGreat
section
section
variable {P:Program} {ops:Array Oper} {Q:Exit->Act->World->Prop}
def also (d:Nat->Bool) (i:Nat):Nat->Bool:=λj=>if j=i then true else d j
def zSz (listed:Array Bool):Nat->Bool:=λj=>listed.getD j false
theorem zSy {listed:Array Bool} {i:Nat} (h:i<listed.size):zSz (listed.setIfInBounds i true)=also (zSz listed) i:=by
 funext j
 unfold zSz also
 by_cases hj:j=i
 . subst hj
   simp[Array.getD,h]
 . rw[if_neg hj,getD_set_ne false (Ne.symm hj)]
structure Known2 (ops:Array Oper) (φ : Nat->Value->World->Prop) (G:(Nat->Bool)->World->Prop) (a0:Act) (listed:Array Bool) (a:Act) (w:World):Prop where
 g:G (zSz listed) w
 defers:a.defers=a0.defers
 size:a.tmps.size=a0.tmps.size
 done:∀i o,ops[i]? = some o->zSz listed i=true -> φ i (yJ ops a i) w
 old:∀t,(ops.all λo=>o.dst != some t)=true->a.tmps.getD t undef=a0.tmps.getD t undef
def OpOk2 (P:Program) (ops:Array Oper) (Q:Exit->Act->World->Prop) (φ : Nat->Value->World->Prop) (G:(Nat->Bool)->World->Prop) (a0:Act) (i:Nat) (o:Oper):Prop :=
 ∀(a:Act) (w:World) (d:Nat->Bool) (K:Act->World->Prop),d i=false->G d w ->
  (∀j,(o.after.any λe=>e.on==j&&Region.binds .any e)=true->(ops[j]?).isSome=true->d j=true /\ φ j (yJ ops a j) w) ->
  (∀t,(ops.all λo=>o.dst != some t)=true->a.tmps.getD t undef=a0.tmps.getD t undef) ->
  a.tmps.size=a0.tmps.size ->
  (∀v w',φ i (told o v) w'->G (also d i) w'->(∀j u,j≠i->d j=true -> φ j u w -> φ j u w')->K (a.put o.dst v) w') ->
  if Region.wanted o (yielded ops a.tmps)=true then o.wp P a w K Q else K (a.put o.dst undef) w
def OpsOk2 (P:Program) (ops:Array Oper) (Q:Exit->Act->World->Prop) (φ : Nat->Value->World->Prop) (G:(Nat->Bool)->World->Prop) (a0:Act):Nat->List Oper->Prop
 | _,[]=>True
 | i,o::r=>OpOk2 P ops Q φ G a0 i o/\OpsOk2 P ops Q φ G a0 (i+1) r
theorem OpsOk2.nil {φ : Nat->Value->World->Prop} {G:(Nat->Bool)->World->Prop} {a0:Act} {i:Nat} : OpsOk2 P ops Q φ G a0 i []:=trivial
theorem OpsOk2.cons {φ : Nat->Value->World->Prop} {G:(Nat->Bool)->World->Prop} {a0:Act} {i:Nat} {o:Oper} {r:List Oper} (h:OpOk2 P ops Q φ G a0 i o) (hr:OpsOk2 P ops Q φ G a0 (i+1) r):OpsOk2 P ops Q φ G a0 i (o::r):=⟨h,hr⟩
theorem OpsOk2.at_ {φ : Nat->Value->World->Prop} {G:(Nat->Bool)->World->Prop} {a0:Act} : ∀(l:List Oper) (i j:Nat) (o:Oper),OpsOk2 P ops Q φ G a0 i l->l[j]? = some o->OpOk2 P ops Q φ G a0 (i+j) o
 | [],_,_,_,_,h=>by simp at h
 | o::r,i,0,o',h,hj=>by
  obtain rfl:o=o':=by simpa using hj
  exact h.1
 | o::r,i,j+1,o',h,hj=>by
  have:=OpsOk2.at_ r (i+1) j o' h.2 (by simpa using hj)
  rwa [show i+1+j=i+(j+1) by omega] at this
theorem come_of {listed:Array Bool} {i:Nat} (h:listed.getD i true=false):i<listed.size/\zSz listed i=false:=by
 have hi:i<listed.size:=by
  rcases Nat.lt_or_ge i listed.size with h' | h'
  . exact h'
  . simp[Array.getD,Nat.not_lt.2 h'] at h
 refine ⟨hi,?_⟩
 unfold zSz
 simpa[Array.getD,hi] using h
theorem zBn {l n:Nat} {id:Nat} {a0:Act} {w:World} (φ : Nat->Value->World->Prop) (G:(Nat->Bool)->World->Prop) (hm:P.follows .mixedOrders=true) (hf:zCv ops=true) (hsl:vt ops a0.tmps.size=true)
 (hnd:zPq ops=true) (hG:G (λ_=>false) w.drew) (hops:OpsOk2 P ops Q φ G a0 0 ops.toList)
 (hend:∀a w' d,G d w'->(∀j,(ops[j]?).isSome=true->d j=true /\ φ j (yJ ops a j) w')->a.defers=a0.defers->a.tmps.size=a0.tmps.size->(∀t,(ops.all λo=>o.dst != some t)=true->a.tmps.getD t undef=a0.tmps.getD t undef)->Q .normal a w') :
 (Code.region id ops true).wpIn (Fence.wide.inRound l) n P Q a0 w:=by
 refine wpIn_region_any hm ?_
 have hc0:zSz (Array.replicate ops.size false)=λ_=>false:=by
  funext j
  unfold zSz
  by_cases hj:j<ops.size<;>simp[Array.getD,hj]
 have h0:Known2 ops φ G a0 (Array.replicate ops.size false) a0 w.drew :=
  ⟨by rw[hc0];exact hG,rfl,rfl,λi o _ h=>absurd (show (false:Bool)=true by rw[hc0] at h;exact h) (by decide),λt _=>rfl⟩
 refine zFb (λlisted a w=>Known2 ops φ G a0 listed a w) ?_ ?_ ops.size (Array.replicate ops.size false) a0 w.drew (by simp) ?_ h0
 . intro i listed a w hs hI hi
   obtain ⟨hun,o,ho,hall⟩:=mem_ready.1 hi
   obtain ⟨hlt,hun'⟩:=come_of hun
   have hok:=OpsOk2.at_ ops.toList 0 i o hops (by simpa using ho)
   rw[Nat.zero_add] at hok
   have hmem:o∈ops.toList:=by simpa using Array.mem_of_getElem? ho
   have hsl':vt ops a.tmps.size=true:=by rw[hI.size];exact hsl
   have hgo:=hok a w (zSz listed) (λa' w'=>Known2 ops φ G a0 (listed.setIfInBounds i true) a' w') hun' hI.g
    (λj he hj=>by
     obtain ⟨e,he1,he2⟩:=Array.any_eq_true'.1 he
     simp only[Bool.and_eq_true,beq_iff_eq] at he2
     obtain ⟨oj,hoj⟩:=Option.isSome_iff_exists.1 hj
     have hlj:zSz listed j=true:=by have:=hall e he1 he2.2;rwa [he2.1] at this
     exact ⟨hlj,hI.done j oj hoj hlj⟩)
    hI.old hI.size
    (λv w' hv hg' hr=>by
     refine ⟨by rw[zSy hlt];exact hg',?_,?_,?_,?_⟩
     . cases hd:o.dst<;>simpa[Act.put] using hI.defers
     . cases hd:o.dst<;>simpa[Act.put] using hI.size
     . intro j oj hoj hlj
       by_cases hij:i=j
       . subst hij
         rw[zCg hsl' ho]
         exact hv
       . have hl:zSz listed j=true:=by
          rw[zSy hlt] at hlj
          unfold also at hlj
          rwa [if_neg (Ne.symm hij)] at hlj
         rw[yu hsl' ho (Ne.symm hij)]
         exact hr j _ (Ne.symm hij) hl (hI.done j oj hoj hl)
     . intro t ht
       have e:(a.put o.dst v).tmps.getD t undef=a.tmps.getD t undef:=by
        cases hd:o.dst with
        | none=>rfl
        | some u =>
         have hne:u≠t:=λe=>by
          have:=Array.all_eq_true'.1 ht o (Array.mem_of_getElem? ho)
          rw[hd,e] at this
          simp at this
         simp only[Act.put]
         rw[Array.getD_eq_getD_getElem?,Array.getD_eq_getD_getElem?,Array.getElem?_setIfInBounds,if_neg hne]
       rw[e]
       exact hI.old t ht)
   unfold wpOpIn
   rw[ho]
   by_cases hw:Region.wanted o (yielded ops a.tmps)=true
   . rw[if_pos hw] at hgo
     simp only[hw,if_true]
     exact zFs (zHy hnd hmem) hgo
   . rw[if_neg hw] at hgo
     simp only[hw]
     exact ⟨λ_ _=>trivial,hgo⟩
 . intro listed a w hs hI hr
   have hal:=zBh hf hs hr
   refine hend a w (zSz listed) hI.g (λj hj=>?_) hI.defers hI.size hI.old
   obtain ⟨oj,hoj⟩:=Option.isSome_iff_exists.1 hj
   have hc:zSz listed j=true:=hal j (Array.getElem?_eq_some_iff.1 hoj).1
   exact ⟨hc,hI.done j oj hoj hc⟩
 . unfold zF
   have:=List.countP_le_length (p:=λb => !b) (l:=(Array.replicate ops.size false).toList)
   simpa using this
end
end
section
open Go.RowKit
theorem qF (w:World) (o:Obj) {r:Nat} (h:r<w.heap.size):(w.alloc o).heap[r]? = w.heap[r]? := Below.heap_alloc w o r h
section
variable {p q cap:Nat} {g:Nat->Nat} {C D:Nat->Prop} {S:CS} {w w':World}
end
section
variable {p q cap:Nat} {g:Nat->Nat} {C:Nat->Prop} {S:CS} {w:World}
end
end
section
open Go.RowKit
section
variable {p q cap:Nat} {g:Nat->Nat} {C E:Nat->Prop} {S:CS} {w:World}
end
end
section
open Go.RowKit
section
variable {p q cap:Nat} {g:Nat->Nat} {C E:Nat->Prop} {S:CS} {w:World}
end
end
section
open Go.RowKit
section
variable {p q cap:Nat} {g:Nat->Nat} {C E:Nat->Prop} {S:CS} {w:World}
def CS.began (S:CS) (i j:Nat) (hi:i<S.bl.length):CS := { S with pr:=wrap64 (S.pr+1),bl:=S.bl.set i { S.bl[i] with next:=(j:Int)+1 } }
def CS.told (S:CS) (i j:Nat) (hi:i<S.bl.length):CS := { S.began i j hi with cuts:=leftS S.cuts,fails:=leftS S.fails }
end
end
section
open Go.RowKit
def bkV (b:Bk) (v:Value):Value:=.agg #[.bool b.bad,.int .i64 b.next,.int .i64 b.count,v]
theorem page_lt {W:World} {C:Nat->Prop} {G j:Nat} {l:List UInt8} (h:PageAt W C ⟨G,j,none⟩ l):G<W.heap.size:=by
 obtain ⟨A,c,hc,_⟩:=h
 exact World.block_lt_of_cell? W _ hc
section
variable {p q cap:Nat} {g:Nat->Nat} {C:Nat->Prop} {S:CS} {w:World}
end
end
section
open Go.RowKit
theorem zBm {P:Program} {w:World} {ops:Array Oper} {o:Oper} {a:Act} {K:Act->World->Prop} {Q:Exit->Act->World->Prop} {E:Prop} (hgd:o.guard=none) (s x:Operand) (t:TypeId)
 (ho:o.op=.call { callee:=.builtin .append,args:=#[s,x],argTypes:=#[t,t] })
 (base:Nat) (e:TypeId) (i:TypeInfo) (z:Value) (size bytes:Nat) (ht:P.underlying t=some (.slice e)) (hi:P.info? e=some i) (hz:i.zero=some z)
 (hsize:i.size=size) (hby:i.bytes=bytes) (hzs:z.cells.size=size) (hsz:0<size)
 (v:Value) (n:Nat) (xs:List Value) (hs:a.eval s=v) (hown:w.ownsRow base e size v n xs)
 (ad:Addr) (m c:Nat) (news:List Value) (hx:a.eval x=.slice (some ad) m c) (hl:news.length=m * size) (hnews:∀j u,news[j]? = some u->w.cell? (ad.add j)=some u) (h1:∀u∈news,u.oneCell'=true)
 (h63:n+m<=maxLen) (hbytes:(n+m) * bytes<=140737488355328) (hbase:base<=w.heap.size)
 (h:∀q cap w',w'.ownsRow base e size (.slice q (n+m) cap) (n+m) (xs++news)->w.grownBy w' v.ownBlock->((Value.slice q (n+m) cap).ownBlock=v.ownBlock\/(Value.slice q (n+m) cap).ownBlock=some w.heap.size)->K (a.put o.dst (.slice q (n+m) cap)) w') :
 if Region.wanted o (yielded ops a.tmps)=true then Oper.wp P o a w K Q else E:=by
 have hw:Region.wanted o (yielded ops a.tmps)=true:=by simp[Region.wanted,hgd]
 rw[if_pos hw]
 obtain ⟨v',w',hr,h2,h3,_,h5⟩:=run_append_own_at (P:=P) (w:=w) base t o.type e i z size bytes ht hi hz hsize hby hzs hsz v n xs hown ad m c news hl hnews h1 h63 hbytes hbase
 obtain ⟨q,cap,rfl,_⟩:=qN h2
 unfold Oper.wp execOp
 simp only[ho,resolve,invoke,builtin,Sem.run_bind,Sem.run_pure,Result.andThen_ok,List.map_toArray,List.map_cons,List.map_nil,hs,hx,hr]
 exact h q cap w' h2 h3 h5
end
section
open Go.RowKit Go.Shelf
attribute [local go_sem] Oper.semAt_some
theorem PagesV.move {W W':World} {C D:Nat->Prop} {v:Value} {l:List (List UInt8)} (h:PagesV W C v l) (hk:∀k o,C k->W.heap[k]? = some o->o.isCells=true->W'.heap[k]? = W.heap[k]?) (hD:∀k,C k->k<W.heap.size->D k):PagesV W' D v l:=by
 obtain ⟨A,c,e,h1,h2⟩:=h
 refine ⟨A,c,e,h1,λhl=>?_⟩
 obtain ⟨G,e2,hG,h3⟩:=h2 hl
 refine ⟨G,e2,hD G hG (page_lt (h3 0 hl)),λj hj=>?_⟩
 obtain ⟨A1,c1,h11,h12,h13,h14⟩:=h3 j hj
 have k1:W'.heap[G]? = W.heap[G]? :=by
  obtain ⟨o,ho,hc⟩:=cells_of_cell h11
  exact hk G o hG ho hc
 refine ⟨A1,c1,(World.cell?_of_block (a:=⟨G,j,none⟩) k1).trans h11,h12,h13,λhn=>?_⟩
 obtain ⟨ad,e3,h4,h5⟩:=h14 hn
 have k2:∀i (hi:i<l[j].length),W'.heap[(ad.add i).block]? = W.heap[(ad.add i).block]? /\ (ad.add i).block<W.heap.size:=λi hi=>by
  obtain ⟨o,ho,hc⟩:=cells_of_cell (h5 i hi)
  exact ⟨hk _ o (by rw[vH];exact h4) ho hc,qD ho⟩
 exact ⟨ad,e3,hD _ h4 (by have:=(k2 0 hn).2;rwa [vH] at this),λi hi=>(World.cell?_of_block (k2 i hi).1).trans (h5 i hi)⟩
def zIw (L:List (Bk × Value)):List Value:=L.flatMap λx=>[.bool x.1.bad,.int .i64 x.1.next,.int .i64 x.1.count,x.2]
theorem zQr (L:List (Bk × Value)) (b:Bk) (v:Value):zIw (L++[(b,v)])=zIw L++[.bool b.bad,.int .i64 b.next,.int .i64 b.count,v]:=by simp[zIw]
def RowB (W:World) (B:Nat) (v:Value) (l:List Bk):Prop :=
 ∃L:List (Bk × Value),L.map Prod.fst=l/\W.ownsRow B 101 4 v l.length (zIw L)/\∀x∈L,PagesV W (λk=>B<=k/\v.ownBlock≠some k) x.2 x.1.pages
theorem RowB.nil (W:World) (B:Nat):RowB W B (.slice none 0 0) []:=⟨[],rfl,World.ownsRow_nil _ _ _ _,λ_ h=>by cases h⟩
theorem own_move {W W':World} {B:Nat} {t:TypeId} {sz n:Nat} {v:Value} {xs:List Value} (h:W.ownsRow B t sz v n xs) (hk:∀k o,B<=k->W.heap[k]? = some o->o.isCells=true->W'.heap[k]? = W.heap[k]?):W'.ownsRow B t sz v n xs:=by
 refine ⟨h.1,h.2.imp id ?_⟩
 rintro ⟨g,cap,cur,hv,hb,hg,hr⟩
 exact ⟨g,cap,cur,hv,hb,(hk g _ hb hg rfl).trans hg,hr⟩
theorem RowB.move {W W':World} {B:Nat} {v:Value} {l:List Bk} (h:RowB W B v l) (hk:∀k o,B<=k->W.heap[k]? = some o->o.isCells=true->W'.heap[k]? = W.heap[k]?):RowB W' B v l:=by
 obtain ⟨L,h1,h2,h3⟩:=h
 exact ⟨L,h1,own_move h2 hk,λx hx=>(h3 x hx).move (λk o hD=>hk k o hD.1) λ_ hD _=>hD⟩
theorem RowB.grown {W W':World} {B:Nat} {v:Value} {l:List Bk} {row:Option Nat} (h:RowB W B v l) (hg:W.grownBy W' row) (hrow:∀r,row=some r->∃o:Obj,W.heap[r]? = some o/\o.isCells=false):RowB W' B v l :=
 h.move λk o _ ho hc=>hg.block k (qD ho) λe=>by
  obtain ⟨o',ho',hc'⟩:=hrow k e.symm
  rw[ho] at ho';cases ho';rw[hc] at hc';cases hc'
theorem RowB.below {W W':World} {B:Nat} {v:Value} {l:List Bk} (h:RowB W B v l) (hb:Below W.heap.size W W'):RowB W' B v l :=
 h.move λk _ _ ho _=>hb.block k (qD ho)
theorem RowB.slice {W:World} {B:Nat} {v:Value} {l:List Bk} (h:RowB W B v l):(∃A c,v=.slice A l.length c)/\∀k,v.ownBlock=some k->B<=k/\k<W.heap.size:=by
 obtain ⟨L,_,h2,_⟩:=h
 obtain ⟨A,c,e,_⟩:=qN h2
 exact ⟨⟨A,c,e⟩,h2.lt⟩
theorem RowB.add {W w1 w2:World} {B:Nat} {V V' pv:Value} {L:List (Bk × Value)} {b:Bk} (h:∀x∈L,PagesV w1 (λk=>B<=k/\V.ownBlock≠some k) x.2 x.1.pages) (hV:∀k,V.ownBlock=some k->B<=k/\k<W.heap.size) (hBW:B<=W.heap.size)
 (hpv:PagesV w1 (λk=>W.heap.size<=k) pv b.pages) (hown:w2.ownsRow B 101 4 V' (L.length+1) (zIw L++[.bool b.bad,.int .i64 b.next,.int .i64 b.count,pv])) (hg:w1.grownBy w2 V.ownBlock) (hb:V'.ownBlock=V.ownBlock\/V'.ownBlock=some w1.heap.size):RowB w2 B V' (L.map Prod.fst++[b]):=by
 refine ⟨L++[(b,pv)],by simp,by rw[zQr];simpa using hown,λx hx=>?_⟩
 rcases List.mem_append.1 hx with hx | hx
 . refine (h x hx).move (λk o hD ho _=>hg.block k (qD ho) (λe=>hD.2 e.symm)) λk hD hlt=>⟨hD.1,?_⟩
   rcases hb with e | e
   . rw[e];exact hD.2
   . rw[e];intro e';cases e';omega
 . simp at hx
   subst hx
   refine hpv.move (λk o hD ho _=>hg.block k (qD ho) (λe=>by have:=(hV k e.symm).2;have hD':W.heap.size<=k:=hD;omega)) λk hD hlt=>?_
   have hD':W.heap.size<=k:=hD
   refine ⟨by omega,?_⟩
   rcases hb with e | e
   . rw[e];intro e';have:=(hV k e').2;omega
   . rw[e];intro e';cases e';omega
section
variable {p q cap:Nat} {g:Nat->Nat} {C:Nat->Prop} {S:LS} {w:World}
structure LsG (w W:World) (p q cap:Nat) (g:Nat->Nat) (C:Nat->Prop) (S:LS) (V:Value):Prop where
 chip:LAt W p q cap g C S
 boxP:Boxed W w.heap.size 29 (.pointer (some ⟨p,0,none⟩))
 boxL:Boxed W (w.heap.size+1) 50 V
 below:Below w.heap.size w W
theorem LsG.grown {W W':World} {V:Value} {row:Option Nat} (h:LsG w W p q cap g C S V) (hg:W.grownBy W' row) (hrow:∀r,row=some r->w.heap.size<=r/\∃o:Obj,W.heap[r]? = some o/\o.isCells=false):LsG w W' p q cap g C S V :=
 have hr:=λr e=>(hrow r e).2
 ⟨h.chip.grown hg hr,(qm h.boxP hg hr).trans h.boxP,(qm h.boxL hg hr).trans h.boxL,h.below.grown hg h.below.size λr e=>(hrow r e).1⟩
theorem LsG.more {W W':World} {V:Value} (h:LsG w W p q cap g C S V) (hb:Below W.heap.size W W'):LsG w W' p q cap g C S V :=
 ⟨h.chip.below hb,(hb.block _ h.boxP.lt).trans h.boxP,(hb.block _ h.boxL.lt).trans h.boxL,h.below.trans (hb.mono h.below.size)⟩
theorem LsG.appended {W W':World} {V:Value} {row:Option Nat} (h:LsG w W p q cap g C S V) (hg:W.grownBy W' row) (hrow:∀r,row=some r->w.heap.size+2<=r) (hlt:∀b,Go.Proofs.YtinkkmlbhkfmnaaGreat.Own p q g C S.bl.length b->b<w.heap.size):LsG w W' p q cap g C S V :=
 ⟨h.chip.kept hg.size λb hb=>hg.block b (by have:=hlt b hb;have:=h.below.size;omega) (λe=>by have:=hrow b e.symm;have:=hlt b hb;omega),
  (hg.block _ h.boxP.lt (λe=>by have:=hrow _ e.symm;omega)).trans h.boxP,(hg.block _ h.boxL.lt (λe=>by have:=hrow _ e.symm;omega)).trans h.boxL,h.below.grown hg h.below.size λr e=>by have:=hrow r e;omega⟩
theorem LsG.stored {W:World} {V:Value} (V':Value) (h:LsG w W p q cap g C S V) (hlt:∀b,Go.Proofs.YtinkkmlbhkfmnaaGreat.Own p q g C S.bl.length b->b<w.heap.size):LsG w (W.setCell ⟨w.heap.size+1,0,none⟩ V') p q cap g C S V' :=
 ⟨h.chip.kept (by simp) λb hb=>Below.heap_setCell W ⟨w.heap.size+1,0,none⟩ _ b (λe=>by have:=hlt b hb;have e':b=w.heap.size+1:=e;omega),
  h.boxP.other (by omega) _,h.boxL.set V',h.below.setCell (by simp) _⟩
def zVq (l:List Bk) (w:World) (e:Ending) (w':World):Prop:=∃v,e=.returned v/\RowB w' w.heap.size v l/\Below w.heap.size w w'
def yM:List (Nat × Nat):=[(3,1),(3,2),(4,3),(5,0),(5,4),(6,5)]
def ClosedB (d:Nat->Bool):Prop:=∀x∈yM,d x.1=true->d x.2=true
theorem ClosedB.also {d:Nat->Bool} {i:Nat} (h:ClosedB d) (hw:∀x∈yM,x.1=i->d x.2=true):ClosedB (also d i):=λx hx hd=>by
 unfold Go.Proofs.YtinkkmlbhkfmnaaGreat.also at hd ⊢
 by_cases h2:x.2=i
 . rw[if_pos h2]
 . rw[if_neg h2]
   by_cases h1:x.1=i
   . exact hw x hx h1
   . rw[if_neg h1] at hd
     exact h x hx hd
theorem ClosedB.six {d:Nat->Bool} (h:ClosedB d) (h6:d 6=true):d 0=true/\d 1=true/\d 2=true/\d 3=true/\d 4=true/\d 5=true:=by
 have h5:=h (6,5) (by simp[yM]) h6
 have h4:=h (5,4) (by simp[yM]) h5
 have h3:=h (4,3) (by simp[yM]) h4
 exact ⟨h (5,0) (by simp[yM]) h5,h (3,1) (by simp[yM]) h3,h (3,2) (by simp[yM]) h3,h3,h4,h5⟩
theorem ClosedB.no6 {d:Nat->Bool} (h:ClosedB d) (hn:¬(d 0=true/\d 1=true/\d 2=true/\d 3=true/\d 4=true/\d 5=true)):d 6=false:=by
 cases e:d 6 with
 | false=>rfl
 | true=>exact absurd (h.six e) hn
theorem zNf (l:List Bk):(List.finRange l.length).map (λx=>l[x.val])=l:=by
 apply List.ext_getElem
 . simp
 . intro i h1 h2
   simp
end
end
section
open Go.RowKit Go.Shelf
attribute [local go_sem] Oper.semAt_some
section
variable {p q cap:Nat} {g:Nat->Nat} {C:Nat->Prop} {S:LS} {w:World}
theorem zIx (h:LAt w p q cap g C S) (hb1:1<=S.bl.length):Calls Tryz.prog 21 #[.pointer (some ⟨p,0,none⟩)] w (zVq S.bl w):=by
 obtain ⟨i0,hi0,hz0,hs0,hby0⟩:=info_parts zIk
 have hown:=h.lt
 have hbl:=h.small.1
 obtain ⟨W0,hW0,bP,bL,hB0⟩:=zKw w (.pointer (some ⟨p,0,none⟩)) (.slice none 0 0) 29 50
 have hz:W0.heap.size=w.heap.size+2:=by rw[<- hW0];simp
 have h0:=h.below hB0
 obtain ⟨c0,_,_,_,_,_,_,_,_,_,_,_,_⟩:=qw h0.self
 have cP:=bP.cell
 have hL0:=hI (show LsG w W0 p q cap g C S (.slice none 0 0) from ⟨h0,bP,bL,hB0⟩)
 have HZ:=hI hz
 clear hz bP bL hB0 h0
 refine callsIn_wide.1 (callsIn_of_wp_marks (n:=3) Tryz.func21 rfl trivial ?_ rfl)
 simp only[Tryz.ntmps21,List.size_toArray,List.length_cons,List.length_nil,Nat.reduceAdd,Nat.reduceSub,Array.replicate_succ,Array.replicate_zero,List.push_toArray,List.append_toArray,List.nil_append,List.cons_append]
 gi_wp2_with (refine ⟨trivial,?_⟩;(try refine ⟨zDf _,?_⟩);gi_at_call 47;refine (callsIn_wide.2 (yf _ _ _)).mono ?_;rintro e w1 ⟨rfl,rfl⟩)
 refine vj ?_
 intro W2 hW2
 have b1:=Boxed.new W0 3 (.int .i64 (S.bl.length:Int))
 have b2:=Boxed.new (W0.alloc (.cells #[.int .i64 (S.bl.length:Int)] 3)) 3 (.int .i64 0)
 rw[World.size_alloc] at b2
 obtain ⟨bN,bF,hM⟩:Boxed W2 W0.heap.size 3 (.int .i64 (S.bl.length:Int))/\Boxed W2 (W0.heap.size+1) 3 (.int .i64 0)/\LsG w W2 p q cap g C S (.slice none 0 0):=by
  rw[hW2]
  exact ⟨b1.alloc _,b2,hL0.out.more (((Below.refl _ W0).alloc nL _).alloc (by simp) _)⟩
 have H2:=hI hM
 have HS:=hI (show w.heap.size+2<=W2.heap.size by rw[hW2,<- HZ.out];simp;omega)
 clear hW2 hM cP c0 hL0 b1 b2
 apply wpIn_rangeFunc_ownG rfl (n:=3) (by omega) (gf:=83) (lb:=#[.pointer (some ⟨W0.heap.size,0,none⟩),.pointer (some ⟨W0.heap.size+1,0,none⟩)]) rfl trivial vu
  (vC (N:=S.bl.length) (λ_ _=>True) (3 - 1) _ _ (by omega) hb1 W2 bN bF) (λ_ _=>trivial) (λ_ _ _ _ _ _ _ _=>trivial) bR (λ_=>rfl)
  (λpre W=>∃V,LsG w W p q cap g C S V/\RowB W (w.heap.size+2) V (pre.map λx=>S.bl[x.val]))
  (λ_ _ _=>False)
  ?own ?ownx ?start
 case own =>
  rintro s X Y row ⟨V,hs,hr⟩ hg hrow
  exact ⟨V,hs.grown hg λr e=>⟨by have:=(hrow r e).1;have:=HS.out;omega,(hrow r e).2⟩,hr.grown hg λr e=>(hrow r e).2⟩
 case ownx=>exact λ_ _ _ _ _ h _ _=>h
 case start=>exact ⟨_,H2.out,RowB.nil _ _⟩
 case hassign =>
  intro l x W K hK
  gi_wp2
  exact hK
 case hbody =>
  rintro l pre x W ⟨V,hM,hR⟩ hlt
  obtain ⟨⟨Av,cv,hV⟩,hVlt⟩:=hR.slice
  have hW:=hM.below.size
  have HW2:=qD hM.boxL
  obtain ⟨b,hb⟩:∃b,qI S x.val=b:=⟨_,rfl⟩
  have hbx:S.bl[x.val]=b:=by rw[<- hb];exact (by
   have hi:isL S x.val=true:=by simp[isL]
   simp only[qI,hi,if_true,vi x.isLt])
  have hlb:(pre.map λx=>S.bl[x.val]).length<=64:=by simp;omega
  generalize hl:(pre.map λx=>S.bl[x.val])=lb at *
  have HM:=hI hM
  have HR:=hI hR
  have HVlt:=hI hVlt
  clear hM hR hVlt
  gi_wp2
  subst hV
  refine zBn (λj v w'=>match j with
   | 0=>v=.slice Av lb.length cv
   | 1=>v=.pointer (some ⟨p,0,none⟩)
   | 2=>v=.int .i64 (x.val:Int)
   | 3=>∃pv,v=bkV b pv/\PagesV w' (λk=>W.heap.size<=k) pv b.pages
   | 4=>∃pv Q,v=.slice (some ⟨Q,0,none⟩) 1 1/\W.heap.size<=Q/\PagesV w' (λk=>W.heap.size<=k) pv b.pages/\w'.heap[Q]? = some (.cells #[.bool b.bad,.int .i64 b.next,.int .i64 b.count,pv] 101 (0,0))
   | 5=>RowB w' (w.heap.size+2) v (lb++[b])
   | _=>True)
   (λd w'=>ClosedB d/\KeepsFrom W2.heap.size W w'/\W.heap.size<=w'.heap.size/\(d 6=false->LsG w w' p q cap g C S (.slice Av lb.length cv))/\(d 5=false->RowB w' (w.heap.size+2) (.slice Av lb.length cv) lb)/\(d 6=true->∃V',LsG w w' p q cap g C S V'/\RowB w' (w.heap.size+2) V' (lb++[b])))
   (by kernel_rfl) (by kernel_rfl) (by kernel_rfl) (by kernel_rfl) ?hG ?hops ?hend
  case hG=>exact ⟨λ_ _ h=>Bool.noConfusion h,qP bR.drew,Nat.le_refl _,λ_=>HM.out.more bR.drew,λ_=>HR.out.below bR.drew,λh=>Bool.noConfusion h⟩
  case hops =>
   refine OpsOk2.cons ?_ (OpsOk2.cons ?_ (OpsOk2.cons ?_ (OpsOk2.cons ?_ (OpsOk2.cons ?_ (OpsOk2.cons ?_ (OpsOk2.cons ?_ OpsOk2.nil))))))
   . intro a w1 d Kx hd hG need old hsz hK
     obtain ⟨hc,hkf,hs,g1,g2,g3⟩:=hG
     have h6:=hc.no6 (by rw[hd];simp)
     have cL:=(g1 h6).boxL.cell
     have e0:a.tmps[3]?.getD undef=.pointer (some ⟨w.heap.size+1,0,none⟩):=by
      exact og (old 3 (by kernel_rfl))
     refine qB (v:=.slice Av lb.length cv) (qA rfl) ?_ (hK _ w1 rfl ⟨hc.also (by simp[yM]),hkf,hs,g1,g2,g3⟩ λ_ _ _ _ h=>h)
     simp[execOp,go_sem,e0,cL]
   . intro a w1 d Kx hd hG need old hsz hK
     obtain ⟨hc,hkf,hs,g1,g2,g3⟩:=hG
     have h6:=hc.no6 (by rw[hd];simp)
     have cL:=(g1 h6).boxP.cell
     have e0:a.tmps[1]?.getD undef=.pointer (some ⟨w.heap.size,0,none⟩):=by
      exact og (old 1 (by kernel_rfl))
     refine qB (v:=.pointer (some ⟨p,0,none⟩)) (qA rfl) ?_ (hK _ w1 rfl ⟨hc.also (by simp[yM]),hkf,hs,g1,g2,g3⟩ λ_ _ _ _ h=>h)
     simp[execOp,go_sem,e0,cL]
   . intro a w1 d Kx hd hG need old hsz hK
     obtain ⟨hc,hkf,hs,g1,g2,g3⟩:=hG
     have e0:a.tmps[4]?.getD undef=.int .i64 (x.val:Int):=by
      exact og (old 4 (by kernel_rfl))
     refine qB (v:=.int .i64 (x.val:Int)) (qA rfl) ?_ (hK _ w1 rfl ⟨hc.also (by simp[yM]),hkf,hs,g1,g2,g3⟩ λ_ _ _ _ h=>h)
     simp[execOp,go_sem,e0]
   . intro a w1 d Kx hd hG need old hsz hK
     obtain ⟨hc,hkf,hs,g1,g2,g3⟩:=hG
     have h6:=hc.no6 (by rw[hd];simp)
     have n1:=need 1 (by kernel_rfl) (by kernel_rfl)
     have n2:=need 2 (by kernel_rfl) (by kernel_rfl)
     have e0:a.tmps[15]?.getD undef=.pointer (some ⟨p,0,none⟩):=by
      exact og (n1.2)
     have e1:a.tmps[16]?.getD undef=.int .i64 (x.val:Int):=by
      exact og (n2.2)
     refine qM (qA rfl) (f:=48) (args:=#[.pointer (some ⟨p,0,none⟩),.int .i64 (x.val:Int)]) ?run ((zOj (x.val:Int) (g1 h6).chip).mono ?post)
     case run=>simp[go_sem,e0,e1]
     case post =>
      rintro e w2 ⟨pv,rfl,hpv,hbw⟩
      rw[hb] at hpv ⊢
      refine ⟨_,rfl,hK _ w2 ⟨pv,rfl,hpv.move (λ_ _ _ _ _=>rfl) λk hk _=>Nat.le_trans hs hk⟩ ⟨hc.also λy hy e=>?_,hkf.trans (qP hbw),Nat.le_trans hs hbw.size,λ_=>(g1 h6).more hbw,λh5=>(g2 h5).below hbw,λh=>absurd (h6.symm.trans h) (by decide)⟩ ?_⟩
      . simp[yM] at hy
        rcases hy with rfl | rfl | rfl | rfl | rfl | rfl<;>first | exact n1.1 | exact n2.1 | (exact absurd e (by decide))
      . intro j u hj hdj hu
        match j,hu with
        | 0,hu=>exact hu
        | 1,hu=>exact hu
        | 2,hu=>exact hu
        | 3,_=>exact absurd rfl hj
        | 4,⟨pv,Q,e,h1,h2,h3⟩=>exact ⟨pv,Q,e,h1,h2.move (λk _ _ ho _=>hbw.block k (qD ho)) λ_ hk _=>hk,(hbw.block _ (qD h3)).trans h3⟩
        | 5,hu=>exact RowB.below hu hbw
        | _+6,_=>trivial
   . intro a w1 d Kx hd hG need old hsz hK
     obtain ⟨hc,hkf,hs,g1,g2,g3⟩:=hG
     have h6:=hc.no6 (by rw[hd];simp)
     obtain ⟨d3,pv,e0',hpv⟩:=need 3 (by kernel_rfl) (by kernel_rfl)
     have e0:a.tmps[17]?.getD undef=bkV b pv:=by
      exact og (e0')
     have hbw:Below w1.heap.size w1 (w1.alloc (.cells #[.bool b.bad,.int .i64 b.next,.int .i64 b.count,pv] 101)):=bR.alloc nL _
     refine qB (v:=.slice (some ⟨w1.heap.size,0,none⟩) 1 1) (w':=w1.alloc (.cells #[.bool b.bad,.int .i64 b.next,.int .i64 b.count,pv] 101)) (qA rfl) ?_
      (hK _ _ ⟨pv,w1.heap.size,rfl,hs,hpv.move (λk _ _ ho _=>hbw.block k (qD ho)) λ_ hk _=>hk,heap_alloc_new _ _⟩ ⟨hc.also λy hy e=>?_,hkf.trans (qP hbw),Nat.le_trans hs hbw.size,λ_=>(g1 h6).more hbw,λh5=>(g2 h5).below hbw,λh=>absurd (h6.symm.trans h) (by decide)⟩ ?_)
     . obtain ⟨A9,c9,rfl,_⟩:=hpv
       simp[execOp,go_sem,e0,bkV]
     . simp[yM] at hy
       rcases hy with rfl | rfl | rfl | rfl | rfl | rfl<;>first | exact d3 | (exact absurd e (by decide))
     . intro j u hj hdj hu
       match j,hu with
       | 0,hu=>exact hu
       | 1,hu=>exact hu
       | 2,hu=>exact hu
       | 3,⟨pv,e,h2⟩=>exact ⟨pv,e,h2.move (λk _ _ ho _=>hbw.block k (qD ho)) λ_ hk _=>hk⟩
       | 4,_=>exact absurd rfl hj
       | 5,hu=>exact RowB.below hu hbw
       | _+6,_=>trivial
   . intro a w1 d Kx hd hG need old hsz hK
     obtain ⟨hc,hkf,hs,g1,g2,g3⟩:=hG
     have h6:=hc.no6 (by rw[hd];simp)
     obtain ⟨d0,e0'⟩:=need 0 (by kernel_rfl) (by kernel_rfl)
     obtain ⟨d4,pv,Q,e1',hQ,hpv,hq⟩:=need 4 (by kernel_rfl) (by kernel_rfl)
     obtain ⟨L,hL,hrow,hpg⟩:=g2 hd
     have e0:a.tmps[14]?.getD undef=.slice Av lb.length cv:=by
      exact og (e0')
     have e1:a.tmps[18]?.getD undef=.slice (some ⟨Q,0,none⟩) 1 1:=by
      exact og (e1')
     have hLl:L.length=lb.length:=by rw[<- hL];simp
     have hnews:∀(k:Nat) (u:Value),([.bool b.bad,.int .i64 b.next,.int .i64 b.count,pv]:List Value)[k]? = some u->w1.cell? ((⟨Q,0,none⟩:Addr).add k)=some u:=λk u hu=>by
      have e:(⟨Q,0,none⟩:Addr).add k=⟨Q,k,none⟩:=by
       unfold Addr.add;split
       . next e=>rw[e]
       . simp
      rw[e]
      simp only[World.cell?,hq]
      simpa using hu
     have h1c:∀u∈([.bool b.bad,.int .i64 b.next,.int .i64 b.count,pv]:List Value),u.oneCell'=true:=by
      obtain ⟨A9,c9,rfl,_⟩:=hpv
      simp[Value.oneCell']
     refine zBm rfl (.tmp 14) (.tmp 18) 50 rfl (w.heap.size+2) 101 i0 _ 4 48 Tryz.underlying50 hi0 hz0 hs0 hby0 rfl (by decide) (.slice Av lb.length cv) lb.length (zIw L) (by simp[go_sem,e0]) hrow ⟨Q,0,none⟩ 1 1 _ (by simp[go_sem,e1]) rfl hnews h1c (by unfold maxLen;omega) (by omega) (by omega) ?_
     intro q2 cap2 w2 hown2 hg2 hob2
     rw[<- hLl] at hown2
     have hnew:RowB w2 (w.heap.size+2) (.slice q2 (L.length+1) cap2) (L.map Prod.fst++[b]):=RowB.add (W:=W) hpg HVlt.out (by omega) hpv hown2 hg2 (by rw[hLl];exact hob2)
     rw[hL,hLl] at hnew
     have hlow:∀k,W.heap.size<=k->some k≠(Value.slice Av lb.length cv).ownBlock:=λk hk e=>by have:=(HVlt.out k e.symm).2;omega
     refine hK _ w2 hnew ⟨hc.also λy hy e=>?_,hkf.trans ((KeepsOthers.of_grownBy hg2 λj o ej hj=>?_).from _),Nat.le_trans hs hg2.size,λ_=>(g1 h6).appended hg2 (λr e=>(HVlt.out r e).1) hown,λh5=>absurd h5 (by unfold also;simp),λh=>absurd (h6.symm.trans h) (by decide)⟩ ?_
     . simp[yM] at hy
       rcases hy with rfl | rfl | rfl | rfl | rfl | rfl<;>first | exact d0 | exact d4 | (exact absurd e (by decide))
     . rcases hrow.2 with ⟨e,_⟩ | ⟨g',cap',cur,e,_,hgb,_⟩
       . rw[e] at ej;simp[Value.ownBlock] at ej
       . rw[e] at ej
         obtain rfl:g'=j:=by simpa[Value.ownBlock] using ej
         rw[hgb] at hj;cases hj;rfl
     . intro j u hj hdj hu
       match j,hu with
       | 0,hu=>exact hu
       | 1,hu=>exact hu
       | 2,hu=>exact hu
       | 3,⟨pv,e,h2⟩=>exact ⟨pv,e,h2.move (λk _ hk ho _=>hg2.block k (qD ho) (hlow k hk)) λ_ hk _=>hk⟩
       | 4,⟨pv,Q,e,h1,h2,h3⟩=>exact ⟨pv,Q,e,h1,h2.move (λk _ hk ho _=>hg2.block k (qD ho) (hlow k hk)) λ_ hk _=>hk,(hg2.block _ (qD h3) (hlow _ h1)).trans h3⟩
       | 5,_=>exact absurd rfl hj
       | _+6,_=>trivial
   . intro a w1 d Kx hd hG need old hsz hK
     obtain ⟨hc,hkf,hs,g1,g2,g3⟩:=hG
     obtain ⟨d5,hr5⟩:=need 5 (by kernel_rfl) (by kernel_rfl)
     have hG1:=g1 hd
     obtain ⟨⟨A2,c2,hv2⟩,hlt2⟩:=hr5.slice
     have e0:a.tmps[3]?.getD undef=.pointer (some ⟨w.heap.size+1,0,none⟩):=by
      exact og (old 3 (by kernel_rfl))
     have e1:a.tmps[19]?.getD undef=.slice A2 (lb++[b]).length c2:=by
      exact og (hv2)
     rw[hv2] at hr5
     have cL:=hG1.boxL.cell
     have fL:=hG1.boxL.frozen
     have hst:=hr5.move (W':=w1.setCell ⟨w.heap.size+1,0,none⟩ (.slice A2 (lb++[b]).length c2)) λk _ hk _ _=>Below.heap_setCell w1 ⟨w.heap.size+1,0,none⟩ _ k (λe=>by have e':k=w.heap.size+1:=e;omega)
     refine zDp (qA rfl) (w':=w1.setCell ⟨w.heap.size+1,0,none⟩ (.slice A2 (lb++[b]).length c2)) ?_ (hK _ _ trivial ⟨hc.also λy hy e=>?_,hkf.trans ((KeepsOthers.setCell _ _ _).from _),by simpa using hs,λh=>absurd h (by unfold also;simp),λh=>absurd (d5.symm.trans h) (by decide),λ_=>⟨_,hG1.stored _ hown,hst⟩⟩ ?_)
     . simp[execOp,go_sem,e0,e1,cL,fL]
     . simp[yM] at hy
       rcases hy with rfl | rfl | rfl | rfl | rfl | rfl<;>first | exact d5 | (exact absurd e (by decide))
     . have far:∀k,W.heap.size<=k->(w1.setCell ⟨w.heap.size+1,0,none⟩ (.slice A2 (lb++[b]).length c2)).heap[k]? = w1.heap[k]? := λk hk=>Below.heap_setCell w1 ⟨w.heap.size+1,0,none⟩ _ k (λe=>by have e':k=w.heap.size+1:=e;omega)
       intro j u hj hdj hu
       match j,hu with
       | 0,hu=>exact hu
       | 1,hu=>exact hu
       | 2,hu=>exact hu
       | 3,⟨pv,e,h2⟩=>exact ⟨pv,e,h2.move (λk _ hk _ _=>far k hk) λ_ hk _=>hk⟩
       | 4,⟨pv,Q,e,h1,h2,h3⟩=>exact ⟨pv,Q,e,h1,h2.move (λk _ hk _ _=>far k hk) λ_ hk _=>hk,(far _ h1).trans h3⟩
       | 5,hu=>exact hu.move λk _ hk _ _=>Below.heap_setCell w1 ⟨w.heap.size+1,0,none⟩ _ k (λe=>by have e':k=w.heap.size+1:=e;omega)
       | _+6,_=>trivial
  case hend =>
   intro a w' d hG hφ _ _ _
   obtain ⟨hc,hkf,hs,g1,g2,g3⟩:=hG
   obtain ⟨V',h1,h2⟩:=g3 (hφ 6 (by kernel_rfl)).1
   refine ⟨hkf,trivial,V',h1,?_⟩
   rw[List.map_append,hl,List.map_singleton,hbx]
   exact h2
 case hdone =>
  rintro D ys W hD rfl ⟨V,hM,hR⟩ hK
  rw[zNf] at hR
  have cL:=hM.boxL.cell
  obtain ⟨⟨Av,cv,rfl⟩,_⟩:=hR.slice
  gi_wp2
  refine ⟨by simp,.inl ⟨_,_,rfl,run_takeDeferred hK,?_⟩⟩
  have hg:=grownBy_putObj' W D (.deferred none)
  have hrow:∀r,some D=some r->w.heap.size<=r/\∃o:Obj,W.heap[r]? = some o/\o.isCells=false:=λr e=>by cases e;exact ⟨by have:=HS.out;omega,_,hK,rfl⟩
  refine ⟨_,results_tmp rfl _ _ _,_,rfl,?_,(hM.grown hg hrow).below⟩
  obtain ⟨L,h1,h2,h3⟩:=hR.grown hg λr e=>(hrow r e).2
  exact ⟨L,h1,⟨h2.1,h2.2.imp id λ⟨g,cap,cur,hv,hb,r⟩=>⟨g,cap,cur,hv,by omega,r⟩⟩,λx hx=>(h3 x hx).move (λ_ _ _ _ _=>rfl) λk hk _=>⟨by have:=hk.1;omega,hk.2⟩⟩
 case hstop =>
  rintro D c pre W hD hpre h hK
  exact h.elim
end
end
end Go.Proofs.YtinkkmlbhkfmnaaGreat
