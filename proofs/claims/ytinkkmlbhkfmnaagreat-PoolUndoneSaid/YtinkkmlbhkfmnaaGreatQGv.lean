/- A part of what the last text proves: Gv. -/
import Derived.Test.YtinkkmlbhkfmnaaGreatQGc
set_option maxRecDepth 100000
set_option maxHeartbeats 8000000
namespace Go.Proofs.YtinkkmlbhkfmnaaGreat
section
section
variable {P:Program} {ops:Array Oper} {Q:Exit->Act->World->Prop}
end
end
section
section
variable {P:Program} {ops:Array Oper} {Q:Exit->Act->World->Prop}
theorem qH {o:Oper} {a:Act} {w:World} {K:Act->World->Prop} {j:Nat} {b c:Bool} (hg:o.guard=some (j,b)) (h:yJ ops a j=.bool c) (hne:c≠b) (hK:K (a.put o.dst undef) w) :
 if Region.wanted o (yielded ops a.tmps)=true then o.wp P a w K Q else K (a.put o.dst undef) w:=by
 have hw:Region.wanted o (yielded ops a.tmps)=false:=by
  unfold Region.wanted
  rw[hg]
  simp[zHi h,hne]
 rw[hw]
 exact hK
theorem zRm (a:Act) (t u:Tmp) (v:Value):(a.put (some t) v).tmps.getD u undef=if t=u/\u<a.tmps.size then v else a.tmps.getD u undef:=by
 simp only[Act.put]
 rw[Array.getD_eq_getD_getElem?,Array.getD_eq_getD_getElem?,Array.getElem?_setIfInBounds]
 by_cases h:t=u
 . subst h
   rw[if_pos rfl]
   by_cases hs:t<a.tmps.size
   . rw[if_pos hs,if_pos ⟨rfl,hs⟩];rfl
   . have e:a.tmps[t]? = none:=Array.getElem?_eq_none (Nat.not_lt.1 hs)
     rw[if_neg hs,if_neg λh=>hs h.2,e]
 . rw[if_neg h,if_neg λh'=>h h'.1]
theorem act_ext {a b:Act} (hd:a.defers=b.defers) (hs:a.tmps.size=b.tmps.size) (h:∀t,a.tmps.getD t undef=b.tmps.getD t undef):a=b:=by
 obtain ⟨ta,da⟩:=a
 obtain ⟨tb,db⟩:=b
 simp only at hd hs h
 subst hd
 congr 1
 refine Array.ext hs λi h1 h2=>?_
 have:=h i
 simpa[Array.getD,h1,h2] using this
def qd (a:Act):List (Tmp × Value)->Act
 | []=>a
 | p::r=>qd (a.put (some p.1) p.2) r
theorem zJk (l:List (Tmp × Value)):∀a:Act,(qd a l).defers=a.defers:=by
 induction l with
 | nil=>intro a;rfl
 | cons p r ih=>intro a;exact (ih _).trans rfl
theorem zPn (l:List (Tmp × Value)):∀a:Act,(qd a l).tmps.size=a.tmps.size:=by
 induction l with
 | nil=>intro a;rfl
 | cons p r ih=>intro a;exact (ih _).trans (by simp[Act.put])
theorem zHt (l:List (Tmp × Value)):∀(a:Act) (t:Tmp),(∀p∈l,p.1≠t)->(qd a l).tmps.getD t undef=a.tmps.getD t undef:=by
 induction l with
 | nil=>intro a t _;rfl
 | cons p r ih =>
  intro a t h
  rw[qd,ih _ t λq hq=>h q (by simp[hq]),zRm,if_neg λh'=>h p (by simp) h'.1]
theorem zXp (l:List (Tmp × Value)):∀(a:Act) (f:Tmp->Value),(∀p∈l,p.2=f p.1/\p.1<a.tmps.size)->∀p∈l,(qd a l).tmps.getD p.1 undef=f p.1:=by
 induction l with
 | nil=>intro a f _ p hp;cases hp
 | cons q r ih =>
  intro a f h p hp
  rw[qd]
  by_cases hr:p∈r
  . exact ih _ f (λx hx=>⟨(h x (by simp[hx])).1,by have:=(h x (by simp[hx])).2;simpa[Act.put] using this⟩) p hr
  . obtain rfl:p=q:=by simpa[hr] using hp
    by_cases hq:∃x∈r,x.1=p.1
    . obtain ⟨x,hx,e⟩:=hq
      rw[<- e]
      exact ih _ f (λy hy=>⟨(h y (by simp[hy])).1,by have:=(h y (by simp[hy])).2;simpa[Act.put] using this⟩) x hx
    . rw[zHt r _ p.1 λx hx e=>hq ⟨x,hx,e⟩,zRm,if_pos ⟨rfl,(h p (by simp)).2⟩]
      exact (h p (by simp)).1
def covers (ops:Array Oper) (ts:List Tmp):Bool:=ops.all λo=>(o.dst.map λt=>ts.contains t).getD true
theorem qy {a a0:Act} (l:List (Tmp × Value)) (ts:List Tmp) (hts:l.map Prod.fst=ts) (hc:covers ops ts=true) (hlt:ts.all (λt=>decide (t<a0.tmps.size))=true) (hd:a.defers=a0.defers) (hs:a.tmps.size=a0.tmps.size)
 (hin:∀p∈l,a.tmps.getD p.1 undef=p.2) (hold:∀t,(ops.all λo=>o.dst != some t)=true->a.tmps.getD t undef=a0.tmps.getD t undef):a=qd a0 l:=by
 refine act_ext (hd.trans (zJk l a0).symm) (hs.trans (zPn l a0).symm) λt=>?_
 by_cases ht:∃p∈l,p.1=t
 . obtain ⟨p,hp,rfl⟩:=ht
   rw[zXp l a0 (λt=>a.tmps.getD t undef) (λq hq=>⟨(hin q hq).symm,?_⟩) p hp]
   have:q.1∈ts:=by rw[<- hts];exact List.mem_map_of_mem hq
   simpa using List.all_eq_true.1 hlt q.1 this
 . rw[zHt l a0 t λp hp e=>ht ⟨p,hp,e⟩]
   refine hold t (Array.all_eq_true'.2 λo ho=>?_)
   have h1:=Array.all_eq_true'.1 hc o ho
   cases hdst:o.dst with
   | none=>rfl
   | some u =>
    rw[hdst] at h1
    have h2:u∈ts:=by simpa using h1
    rw[<- hts] at h2
    obtain ⟨p,hp,e⟩:=List.mem_map.1 h2
    simp only[bne_iff_ne,ne_eq,Option.some.injEq]
    intro e'
    exact ht ⟨p,hp,e.trans e'⟩
end
end
end Go.Proofs.YtinkkmlbhkfmnaaGreat
