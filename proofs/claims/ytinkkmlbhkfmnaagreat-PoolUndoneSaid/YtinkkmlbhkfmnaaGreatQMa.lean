/- A part of what the last text proves: PoM1, PoM2, PoM3, PoM4, PoM5, PoM6, PoM7, PoM8, PoM9, PoM10. -/
import Derived.Test.YtinkkmlbhkfmnaaGreatQPa
import Derived.Test.YtinkkmlbhkfmnaaGreatQGs
set_option maxRecDepth 100000
set_option maxHeartbeats 8000000
namespace Go.Proofs.YtinkkmlbhkfmnaaGreat
section
open Go.RowKit
structure Spent (S S':LS) (r p e:Nat):Prop where
 r0:S.rd<=S'.rd
 r1:S'.rd<=S.rd+r
 p0:S.pr<=S'.pr
 p1:S'.pr<=S.pr+p
 e0:S.er<=S'.er
 e1:S'.er<=S.er+e
def Small (S:LS) (N:Int):Prop:=(0<=S.rd/\S.rd<=N)/\(0<=S.pr/\S.pr<=N)/\0<=S.er/\S.er<=N
theorem Spent.refl (S:LS):Spent S S 0 0 0:=⟨Int.le_refl _,by omega,Int.le_refl _,by omega,Int.le_refl _,by omega⟩
theorem Spent.trans {S T U:LS} {a b c a' b' c':Nat} (h:Spent S T a b c) (k:Spent T U a' b' c'):Spent S U (a+a') (b+b') (c+c'):=by
 obtain ⟨h0,h1,h2,h3,h4,h5⟩:=h
 obtain ⟨k0,k1,k2,k3,k4,k5⟩:=k
 exact ⟨by omega,by omega,by omega,by omega,by omega,by omega⟩
theorem Spent.le {S T:LS} {a b c a' b' c':Nat} (h:Spent S T a b c) (h1:a<=a') (h2:b<=b') (h3:c<=c'):Spent S T a' b' c':=by
 obtain ⟨h0,k1,k2,k3,k4,k5⟩:=h
 exact ⟨by omega,by omega,by omega,by omega,by omega,by omega⟩
theorem Small.spent {S T:LS} {a b c:Nat} {N M:Int} (h:Small S N) (k:Spent S T a b c) (hM:N+a<=M/\N+b<=M/\N+c<=M):Small T M:=by
 obtain ⟨⟨h0,h1⟩,⟨h2,h3⟩,h4,h5⟩:=h
 obtain ⟨k0,k1,k2,k3,k4,k5⟩:=k
 exact ⟨⟨by omega,by omega⟩,⟨by omega,by omega⟩,by omega,by omega⟩
theorem qv {x:Int} (h:0<=x/\x<=4611686018427387904):wrap64 (x+1)=x+1:=by unfold wrap64;omega
structure Keeps (S S':LS):Prop where
 np:S'.np=S.np
 len:S'.bl.length=S.bl.length
 cut:S.c.set=false->S'.c.set=false/\S'.dark=S.dark
 calm:S.f.set=false/\S.w.set=false->(S'.f.set=false/\S'.w.set=false)/\qx S'.bl=qx S.bl
theorem Keeps.refl (S:LS):Keeps S S:=⟨rfl,rfl,λh=>⟨h,rfl⟩,λh=>⟨h,rfl⟩⟩
theorem Keeps.trans {S T U:LS} (h:Keeps S T) (k:Keeps T U):Keeps S U:=⟨k.np.trans h.np,k.len.trans h.len,λc=>⟨(k.cut (h.cut c).1).1,(k.cut (h.cut c).1).2.trans (h.cut c).2⟩,λc=>⟨(k.calm (h.calm c).1).1,(k.calm (h.calm c).1).2.trans (h.calm c).2⟩⟩
section
variable {S:LS} {i j:Nat} {l:List UInt8}
theorem zAr (hi:i<S.bl.length):zDd S (i:Int)=S.bl[i]:=vi hi
theorem isN (hi:i<S.bl.length):isL S (i:Int)=true:=by unfold isL;simp;omega
theorem hasN (hi:i<S.bl.length) (hj:j<S.np):zIo S (i:Int) (j:Int)=true:=by unfold zIo;simp;omega
theorem barN (hi:i<S.bl.length) (hd:S.dark=false) (hb:S.bl[i].bad=false):zBj S (i:Int)=0:=by unfold zBj;rw[isN hi,zAr hi,hb,hd];rfl
theorem zDt {t:Tm} (h:t.hit=true):t.set=true:=by
 unfold Tm.hit at h
 cases e:t.set with
 | true=>rfl
 | false=>rw[e] at h;cases h
theorem zHk {t:Tm} (h:t.set=false):t.tick.set=false:=by unfold Tm.tick;rw[if_neg (by rw[h];simp)];exact h
structure ProgTo (S S':LS) (i j:Nat) (l:List UInt8) (hi:i<S.bl.length) (bad:Bool) (l':List UInt8):Prop where
 bl:S'.bl=S.bl.set i { S.bl[i] with bad:=bad,next:=(j:Int)+1,pages:=S.bl[i].pages.set j l' }
 keeps:Keeps S S'
 spent:S.pr<=4611686018427387904->0<=S.pr->Spent S S' 0 1 0
theorem zKm {l:List Bk} {i:Nat} {y:Bk} (hi:i<l.length) (h:y.bad=l[i].bad):qx (l.set i y)=qx l:=by
 have key:∀(l:List Bk) (i:Nat) (hi:i<l.length),y.bad=l[i].bad->(l.set i y).countP (λb:Bk=>b.bad)=l.countP (λb:Bk=>b.bad):=by
  intro l
  induction l with
  | nil=>exact λi hi=>absurd hi (by simp)
  | cons c l ih =>
   intro i hi h
   cases i with
   | zero =>
    simp only[List.set_cons_zero,List.countP_cons,List.getElem_cons_zero] at h ⊢
    rw[h]
   | succ i =>
    have:=ih i (by simpa using hi) (by simpa using h)
    simp only[List.set_cons_succ,List.countP_cons]
    rw[this]
 exact key l i hi h
theorem zHu (hi:i<S.bl.length) (hj:j<S.np) (hd:S.dark=false) (hb:S.bl[i].bad=false) (hn:S.bl[i].next=(j:Int)) (hl:1<=l.length/\l.length<=2000) :
 (∃S',qU S i j l=(0,S')/\S'.dark=false/\ProgTo S S' i j l hi false l) \/
 (∃S',qU S i j l=(3,S')/\S'.dark=false/\ProgTo S S' i j l hi true (l.take (l.length / 2))) \/
 (∃S',qU S i j l=(2,S')/\S'.dark=true/\S.c.set=true/\ProgTo S S' i j l hi false (l.take S.keep.toNat)):=by
 have href:zCf S (i:Int) (j:Int) l.length=0:=by
  unfold zCf
  rw[if_neg (by rw[hasN hi hj];simp only[Bool.true_eq_false,false_or];omega),if_neg (by rw[barN hi hd hb];simp),zAr hi,if_neg (by rw[hn];simp)]
 have hput:∀(bad:Bool) (l':List UInt8),putL S (i:Int) (j:Int) bad l'=S.bl.set i { S.bl[i] with bad:=bad,next:=(j:Int)+1,pages:=S.bl[i].pages.set j l' } := λbad l'=>by
  unfold putL
  rw[zAr hi,hn];rfl
 unfold qU
 rw[if_neg (by rw[href];simp)]
 by_cases hc:S.c.hit=true
 . rw[if_pos hc]
   refine .inr (.inr ⟨_,rfl,rfl,zDt hc,hput _ _,⟨rfl,by simp[putL],λh=>?_,λh=>⟨⟨zHk h.1,h.2⟩,by rw[hput];exact zKm hi hb.symm⟩⟩,λh1 h2=>⟨Int.le_refl _,by show S.rd<=_;omega,?_,?_,Int.le_refl _,by show S.er<=_;omega⟩⟩)
   . rw[zDt hc] at h;cases h
   . show S.pr<=wrap64 (S.pr+1);rw[qv ⟨h2,h1⟩];omega
   . show wrap64 (S.pr+1)<=_;rw[qv ⟨h2,h1⟩];omega
 . rw[if_neg hc]
   by_cases hf:S.f.hit=true
   . rw[if_pos hf]
     refine .inr (.inl ⟨_,rfl,hd,hput _ _,⟨rfl,by simp[putL],λh=>⟨zHk h,rfl⟩,λh=>by rw[zDt hf] at h;cases h.1⟩,λh1 h2=>⟨Int.le_refl _,by show S.rd<=_;omega,?_,?_,Int.le_refl _,by show S.er<=_;omega⟩⟩)
     . show S.pr<=wrap64 (S.pr+1);rw[qv ⟨h2,h1⟩];omega
     . show wrap64 (S.pr+1)<=_;rw[qv ⟨h2,h1⟩];omega
   . rw[if_neg hf]
     refine .inl ⟨_,rfl,hd,hput _ _,⟨rfl,by simp[putL],λh=>⟨zHk h,rfl⟩,λh=>⟨⟨zHk h.1,h.2⟩,by rw[hput];exact zKm hi hb.symm⟩⟩,λh1 h2=>⟨Int.le_refl _,by show S.rd<=_;omega,?_,?_,Int.le_refl _,by show S.er<=_;omega⟩⟩
     . show S.pr<=wrap64 (S.pr+1);rw[qv ⟨h2,h1⟩];omega
     . show wrap64 (S.pr+1)<=_;rw[qv ⟨h2,h1⟩];omega
structure EraseTo (S S':LS) (i:Nat) (y:Bk):Prop where
 bl:S'.bl=S.bl.set i y
 keeps:Keeps S S'
 spent:S.er<=4611686018427387904->0<=S.er->Spent S S' 0 0 1
theorem zQk (hi:i<S.bl.length) (hd:S.dark=false) (hb:S.bl[i].bad=false) :
 (∃S',qf S i=(0,S')/\S'.dark=false/\EraseTo S S' i (vZ (zEx S.bl[i]) S.np S.np)) \/
 (∃S',qf S i=(3,S')/\S'.dark=false/\EraseTo S S' i { zEx S.bl[i] with bad:=true }) \/
 (∃S',qf S i=(2,S')/\S'.dark=true/\S.c.set=true/\EraseTo S S' i (vZ (zEx S.bl[i]) S.keep.toNat S.np)):=by
 unfold qf
 rw[if_neg (by rw[barN hi hd hb];simp)]
 by_cases hc:S.c.hit=true
 . rw[if_pos hc]
   refine .inr (.inr ⟨_,rfl,rfl,zDt hc,by rw[zAr hi];rfl,⟨rfl,by simp,λh=>?_,λh=>⟨⟨h.1,zHk h.2⟩,by rw[zAr hi];exact zKm hi rfl⟩⟩,λh1 h2=>⟨Int.le_refl _,by show S.rd<=_;omega,Int.le_refl _,by show S.pr<=_;omega,?_,?_⟩⟩)
   . rw[zDt hc] at h;cases h
   . show S.er<=wrap64 (S.er+1);rw[qv ⟨h2,h1⟩];omega
   . show wrap64 (S.er+1)<=_;rw[qv ⟨h2,h1⟩];omega
 . rw[if_neg hc]
   by_cases hf:S.w.hit=true
   . rw[if_pos hf]
     refine .inr (.inl ⟨_,rfl,hd,by rw[zAr hi];rfl,⟨rfl,by simp,λh=>⟨zHk h,rfl⟩,λh=>by rw[zDt hf] at h;cases h.2⟩,λh1 h2=>⟨Int.le_refl _,by show S.rd<=_;omega,Int.le_refl _,by show S.pr<=_;omega,?_,?_⟩⟩)
     . show S.er<=wrap64 (S.er+1);rw[qv ⟨h2,h1⟩];omega
     . show wrap64 (S.er+1)<=_;rw[qv ⟨h2,h1⟩];omega
   . rw[if_neg hf]
     refine .inl ⟨_,rfl,hd,by rw[zAr hi];rfl,⟨rfl,by simp,λh=>⟨zHk h,rfl⟩,λh=>⟨⟨h.1,zHk h.2⟩,by rw[zAr hi];exact zKm hi rfl⟩⟩,λh1 h2=>⟨Int.le_refl _,by show S.rd<=_;omega,Int.le_refl _,by show S.pr<=_;omega,?_,?_⟩⟩
     . show S.er<=wrap64 (S.er+1);rw[qv ⟨h2,h1⟩];omega
     . show wrap64 (S.er+1)<=_;rw[qv ⟨h2,h1⟩];omega
theorem zFp (hi:i<S.bl.length) (hj:j<S.np) (hd:S.dark=false):∃S',rdL S i j=(zHd S i j,0,S')/\S'.bl=S.bl/\S'.dark=false/\Keeps S S'/\(S.rd<=4611686018427387904->0<=S.rd->Spent S S' 1 0 0):=by
 unfold rdL
 rw[if_neg (by rw[hasN hi hj];simp),if_neg (by rw[hd];simp)]
 refine ⟨_,rfl,rfl,hd,⟨rfl,rfl,λh=>⟨h,rfl⟩,λh=>⟨h,rfl⟩⟩,λh1 h2=>⟨?_,?_,Int.le_refl _,by show S.pr<=_;omega,Int.le_refl _,by show S.er<=_;omega⟩⟩
 . show S.rd<=wrap64 (S.rd+1);rw[qv ⟨h2,h1⟩];omega
 . show wrap64 (S.rd+1)<=_;rw[qv ⟨h2,h1⟩];omega
end
end
section
open Go.RowKit
abbrev Dat:=P2->List UInt8
abbrev vG (D:Dat) (r:P2):List UInt8:=qo r.1.toNat r.2.toNat (D r)
def PageIs (S:LS) (D:Dat) (f:Fd):Prop:=∃i j:Nat,f.2=((i:Int),(j:Int))/\j<S.np/\vg f.1.1 f.1.2 (D f.1)/\∃b,S.bl[i]? = some b/\(j:Int)<b.next/\b.pages[j]? = some (vG D f.1)
def Sized (S:LS):Prop:=∀b∈S.bl,b.pages.length=S.np/\0<=b.next/\b.next<=S.np
section
variable {S S':LS} {D:Dat} {f:Fd} {i j:Nat} {l:List UInt8}
theorem yAs {r:P2} (h:vg r.1 r.2 (D r)):1<=(vG D r).length/\(vG D r).length<=2000:=⟨by unfold vG qo;simp;omega,h.2.2.2⟩
theorem PageIs.set (h:PageIs S D f) (hnp:S'.np=S.np) {i:Nat} {y:Bk} (hbl:S'.bl=S.bl.set i y) (hy:∀b,S.bl[i]? = some b->f.2.1=(i:Int)->b.next<=y.next/\∀j:Nat,(j:Int)<b.next->y.pages[j]? = b.pages[j]?):PageIs S' D f:=by
 obtain ⟨k,j,e,hj,hm,b,hb,hn,hp⟩:=h
 refine ⟨k,j,e,by rw[hnp];exact hj,hm,?_⟩
 by_cases hk:k=i
 . subst hk
   obtain ⟨h1,h2⟩:=hy b hb (by rw[e])
   have hlt:k<S.bl.length:=by
    rcases Nat.lt_or_ge k S.bl.length with h | h
    . exact h
    . rw[List.getElem?_eq_none h] at hb;cases hb
   exact ⟨y,by rw[hbl,List.getElem?_set_self hlt],by omega,by rw[h2 j hn];exact hp⟩
 . exact ⟨b,by rw[hbl,List.getElem?_set_ne (λh=>hk h.symm)];exact hb,hn,hp⟩
theorem PageIs.same (h:PageIs S D f) (hnp:S'.np=S.np) (hbl:S'.bl=S.bl):PageIs S' D f:=by
 obtain ⟨k,j,e,hj,hm,b,hb,hn,hp⟩:=h
 exact ⟨k,j,e,by rw[hnp];exact hj,hm,b,by rw[hbl];exact hb,hn,hp⟩
theorem PageIs.prog {hi:i<S.bl.length} {bad:Bool} {l':List UInt8} (h:PageIs S D f) (hp:ProgTo S S' i j l hi bad l') (hn:S.bl[i].next=(j:Int)):PageIs S' D f:=by
 refine h.set hp.keeps.np hp.bl λb hb _=>?_
 rw[List.getElem?_eq_getElem hi] at hb
 obtain rfl:=Option.some.inj hb
 refine ⟨by show _<=(j:Int)+1;omega,λk hk=>?_⟩
 show (S.bl[i].pages.set j l')[k]? = _
 rw[List.getElem?_set_ne (by omega)]
theorem PageIs.erase {y:Bk} (h:PageIs S D f) (he:EraseTo S S' i y) (hne:f.2.1≠(i:Int)):PageIs S' D f :=
 h.set he.keeps.np he.bl λ_ _ e=>absurd e hne
theorem Sized.set (h:Sized S) (hnp:S'.np=S.np) {i:Nat} {y:Bk} (hbl:S'.bl=S.bl.set i y) (hy:y.pages.length=S.np/\0<=y.next/\y.next<=S.np):Sized S':=by
 intro b hb
 rw[hbl] at hb
 rw[hnp]
 rcases List.mem_or_eq_of_mem_set hb with k | rfl
 . exact h b k
 . exact hy
theorem Sized.prog {hi:i<S.bl.length} {bad:Bool} {l':List UInt8} (h:Sized S) (hp:ProgTo S S' i j l hi bad l') (hj:j<S.np):Sized S':=by
 have:=h _ (List.getElem_mem hi)
 refine h.set hp.keeps.np hp.bl ⟨?_,?_,?_⟩
 . show (S.bl[i].pages.set j l').length=_;simp[this.1]
 . show 0<=(j:Int)+1;omega
 . show (j:Int)+1<=_;omega
theorem Sized.erase {y:Bk} (h:Sized S) (hi:i<S.bl.length) (he:EraseTo S S' i y) (hy:y=vZ (zEx S.bl[i]) S.np S.np\/y = { zEx S.bl[i] with bad:=true } \/ ∃k,y=vZ (zEx S.bl[i]) k S.np):Sized S':=by
 have hb:=h _ (List.getElem_mem hi)
 refine h.set he.keeps.np he.bl ?_
 rcases hy with rfl | rfl | ⟨k,rfl⟩
 . refine ⟨by unfold vZ zEx;simp[zEb,hb.1],?_,?_⟩
   . unfold vZ;simp
   . unfold vZ;simp
 . exact hb
 . refine ⟨by unfold vZ zEx;simp[zEb,hb.1],?_,?_⟩
   . unfold vZ;simp only;split<;>omega
   . unfold vZ;simp only;split<;>omega
end
theorem zUf (D:Dat):∀(l:List Fd) (Q:PS) (acc:List (List UInt8)),Q.S.dark=false->(∀f∈l,PageIs Q.S D f)->Q.S.rd+l.length<=4611686018427387904->0<=Q.S.rd ->
 ∃S',Q.pages acc l=(0,acc++l.map (λf=>vG D f.1),{ Q with S:=S' })/\S'.bl=Q.S.bl/\S'.dark=false/\Keeps Q.S S'/\Spent Q.S S' l.length 0 0:=by
 intro l
 induction l with
 | nil=>exact λQ acc hd _ _ _=>⟨Q.S,by simp[PS.pages],rfl,hd,Keeps.refl _,Spent.refl _⟩
 | cons f l ih =>
  intro Q acc hd hp hr h0
  simp only[List.length_cons] at hr
  obtain ⟨i,j,e,hj,hm,b,hb,hn,hpg⟩:=hp f List.mem_cons_self
  have hi:i<Q.S.bl.length:=by
   rcases Nat.lt_or_ge i Q.S.bl.length with h | h
   . exact h
   . rw[List.getElem?_eq_none h] at hb;cases hb
  obtain ⟨S1,e1,b1,d1,k1,s1⟩:=zFp hi hj hd
  have s1:=s1 (by omega) h0
  have hpage:zHd Q.S (i:Int) (j:Int)=vG D f.1:=by
   unfold zHd
   rw[Int.toNat_natCast,hb]
   show b.pages.getD (j:Int).toNat []=_
   rw[Int.toNat_natCast,List.getD_eq_getElem?_getD,hpg];rfl
  obtain ⟨S2,e2,b2,d2,k2,s2⟩:=ih { Q with S:=S1 } (acc++[vG D f.1]) d1 (λg hg=>(hp g (List.mem_cons_of_mem _ hg)).same k1.np b1) (by have:=s1.r1;show S1.rd+_<=_;omega) (by have:=s1.r0;show 0<=S1.rd;omega)
  refine ⟨S2,?_,b2.trans b1,d2,k1.trans k2,(s1.trans s2).le (by simp only[List.length_cons];omega) (by omega) (by omega)⟩
  unfold PS.pages
  rw[e,e1]
  dsimp only
  rw[if_pos rfl,hpage,e2]
  simp
def yF (b:Bk) (i:Nat) (pg:List (List UInt8)):Bk := { b with bad:=false,next:=((i+pg.length:Nat):Int),pages:=b.pages.take i++pg++b.pages.drop (i+pg.length) }
theorem zUm {b:Bk} {i:Nat} (hb:b.bad=false) (hn:b.next=(i:Int)):yF b i []=b:=by
 obtain ⟨bad,next,count,pages⟩:=b
 simp only at hb hn
 subst hb hn
 unfold yF
 simp
theorem zPz {b:Bk} {i:Nat} {p:List UInt8} {pg:List (List UInt8)} (hi:i<b.pages.length):yF { b with bad:=false,next:=(i:Int)+1,pages:=b.pages.set i p } (i+1) pg=yF b i (p::pg):=by
 unfold yF
 simp only[List.length_cons]
 congr 1
 . omega
 . rw[List.set_eq_take_append_cons_drop,if_pos hi]
   have h1:(b.pages.take i++p::b.pages.drop (i+1)).take (i+1)=b.pages.take i++[p]:=by
    rw[List.take_append,List.length_take,List.take_take]
    rw[show min (i+1) i=i by omega,show i+1 - min i b.pages.length=1 by omega]
    simp
   have h2:(b.pages.take i++p::b.pages.drop (i+1)).drop (i+1+pg.length)=b.pages.drop (i+(pg.length+1)):=by
    rw[List.drop_append,List.length_take,List.drop_eq_nil_of_le (by rw[List.length_take];omega)]
    rw[show i+1+pg.length - min i b.pages.length=pg.length+1 by omega,List.drop_succ_cons,List.drop_drop,List.nil_append]
    congr 1;omega
   rw[h1,h2]
   simp
structure FillTo (S S':LS) (td:Nat) (e:Int) (y:Bk):Prop where
 bl:S'.bl=S.bl.set td y
 keeps:Keeps S S'
 pages:∀(D:Dat) f,PageIs S D f->PageIs S' D f
 sized:Sized S->Sized S'
 cases:e=0/\S'.dark=false/\y.bad=false\/e=3/\S'.dark=false/\y.bad=true\/e=2/\S'.dark=true/\S.c.set=true/\y.bad=false
theorem set_same {l:List Bk} {i:Nat} {b:Bk} (h:l[i]? = some b):l.set i b=l:=by
 apply List.ext_getElem?
 intro k
 by_cases e:k=i
 . subst e
   obtain ⟨hk,-⟩:=List.getElem?_eq_some_iff.1 h
   rw[List.getElem?_set_self hk,h]
 . rw[List.getElem?_set_ne (λh=>e h.symm)]
theorem zZx:∀(pg:List (List UInt8)) (Q:PS) (td i:Nat) (b:Bk),Q.S.dark=false->Q.S.bl[td]? = some b->b.bad=false->b.next=(i:Int)->i+pg.length<=Q.S.np->Sized Q.S->(∀p∈pg,1<=p.length/\p.length<=2000)->Q.S.pr+pg.length<=4611686018427387904->0<=Q.S.pr ->
 ∃e S' y,Q.fill td i pg=(e,{ Q with S:=S' })/\FillTo Q.S S' td e y/\y.count=b.count/\(e=0->y=yF b i pg)/\Spent Q.S S' 0 pg.length 0:=by
 intro pg
 induction pg with
 | nil =>
  intro Q td i b hd hb hbad hn hle hsz hp hpr h0
  exact ⟨0,Q.S,b,rfl,⟨(set_same hb).symm,Keeps.refl _,λ_ _ h=>h,λh=>h,.inl ⟨rfl,hd,hbad⟩⟩,rfl,λ_=>(zUm hbad hn).symm,Spent.refl _⟩
 | cons p pg ih =>
  intro Q td i b hd hb hbad hn hle hsz hp hpr h0
  simp only[List.length_cons] at hle hpr
  obtain ⟨htd,hbe⟩:=List.getElem?_eq_some_iff.1 hb
  have hsb:=hsz _ (List.getElem_mem htd)
  have hib:i<Q.S.np:=by omega
  have hpl:=hp p List.mem_cons_self
  unfold PS.fill
  rcases zHu (i:=td) (j:=i) htd hib hd (by rw[hbe];exact hbad) (by rw[hbe];exact hn) hpl with ⟨S1,e1,d1,t1⟩ | ⟨S1,e1,d1,t1⟩ | ⟨S1,e1,d1,hc,t1⟩
  . rw[e1]
    dsimp only
    rw[if_pos rfl]
    have s1:=t1.spent (by omega) h0
    have hb1:S1.bl[td]? = some { b with bad:=false,next:=(i:Int)+1,pages:=b.pages.set i p } :=by rw[t1.bl,List.getElem?_set_self htd,hbe]
    obtain ⟨e2,S2,y2,f2,g2,c2,l2,s2⟩:=ih { Q with S:=S1 } td (i+1) _ d1 hb1 rfl (by show (i:Int)+1=((i+1:Nat):Int);omega) (by show i+1+pg.length<=S1.np;rw[t1.keeps.np];omega) (hsz.prog t1 hib) (λq hq=>hp q (List.mem_cons_of_mem _ hq)) (by have:=s1.p1;show S1.pr+_<=_;omega) (by have:=s1.p0;show 0<=S1.pr;omega)
    refine ⟨e2,S2,y2,f2,⟨?_,t1.keeps.trans g2.keeps,λD f h=>g2.pages D f (h.prog t1 (by rw[hbe];exact hn)),λh=>g2.sized (h.prog t1 hib),?_⟩,c2,λh=>?_,(s1.trans s2).le (by omega) (by simp only[List.length_cons];omega) (by omega)⟩
    . rw[g2.bl]
      show S1.bl.set td y2=_
      rw[t1.bl,List.set_set]
    . rcases g2.cases with h | h | ⟨h1,h2,h3,h4⟩
      . exact .inl h
      . exact .inr (.inl h)
      . refine .inr (.inr ⟨h1,h2,?_,h4⟩)
        cases hs:Q.S.c.set with
        | true=>rfl
        | false =>
         have h5:S1.c.set=true:=h3
         rw[(t1.keeps.cut hs).1] at h5
         cases h5
    . rw[l2 h]
      exact zPz (by rw[<- hbe,hsb.1];exact hib)
  . rw[e1]
    dsimp only
    rw[if_neg (by decide)]
    exact ⟨3,S1,_,rfl,⟨t1.bl,t1.keeps,λD f h=>h.prog t1 (by rw[hbe];exact hn),λh=>h.prog t1 hib,.inr (.inl ⟨rfl,d1,rfl⟩)⟩,by show Q.S.bl[td].count=_;rw[hbe],λh=>absurd h (by decide),(t1.spent (by omega) h0).le (by omega) (by simp only[List.length_cons];omega) (by omega)⟩
  . rw[e1]
    dsimp only
    rw[if_neg (by decide)]
    exact ⟨2,S1,_,rfl,⟨t1.bl,t1.keeps,λD f h=>h.prog t1 (by rw[hbe];exact hn),λh=>h.prog t1 hib,.inr (.inr ⟨rfl,d1,hc,rfl⟩)⟩,by show Q.S.bl[td].count=_;rw[hbe],λh=>absurd h (by decide),(t1.spent (by omega) h0).le (by omega) (by simp only[List.length_cons];omega) (by omega)⟩
end
section
open Go.RowKit
def g1 (r s:P2) (f:Fd):Fd:=if f.1=r then (r,s) else f
theorem g1_ref (r s:P2) (f:Fd):(g1 r s f).1=f.1:=by unfold g1;split;exact Eq.symm (by assumption);rfl
def mvs (td:Int):Nat->List Fd->Fd->Fd
 | _,[],f=>f
 | i,a::l,f=>mvs td (i+1) l (g1 a.1 (td,(i:Int)) f)
theorem mvs_ref (td:Int) (l:List Fd):∀(i:Nat) (f:Fd),(mvs td i l f).1=f.1:=by
 induction l with
 | nil=>exact λi f=>rfl
 | cons a l ih=>exact λi f=>(ih (i+1) _).trans (g1_ref _ _ _)
theorem zPv (td:Int) (l:List Fd):∀(i:Nat) (f:Fd),f.1∉l.map (·.1)->mvs td i l f=f:=by
 induction l with
 | nil=>exact λi f _=>rfl
 | cons a l ih =>
  intro i f h
  rw[List.map_cons,List.mem_cons] at h
  have e:g1 a.1 (td,(i:Int)) f=f:=if_neg λk=>h (.inl k)
  show mvs td (i+1) l (g1 a.1 (td,(i:Int)) f)=f
  rw[e]
  exact ih (i+1) f λk=>h (.inr k)
theorem mvs_at (td:Int) (l:List Fd):∀(i k:Nat) (f:Fd) (hk:k<l.length),(l.map (·.1)).Nodup->f.1=l[k].1->mvs td i l f=(f.1,(td,((i+k:Nat):Int))):=by
 induction l with
 | nil=>exact λi k f hk=>absurd hk (by simp)
 | cons a l ih =>
  intro i k f hk hn he
  rw[List.map_cons,List.nodup_cons] at hn
  show mvs td (i+1) l (g1 a.1 (td,(i:Int)) f)=_
  cases k with
  | zero =>
   have he':f.1=a.1:=he
   have e:g1 a.1 (td,(i:Int)) f=(f.1,(td,(i:Int))):=by unfold g1;rw[if_pos he',he']
   rw[e,zPv]
   . rfl
   . show f.1∉_;rw[he'];exact hn.1
  | succ k =>
   have hk':k<l.length:=by simpa using hk
   have he':f.1=l[k].1:=by simpa using he
   have hne:¬f.1=a.1:=λe=>hn.1 (by rw[<- e,he'];exact List.mem_map_of_mem (List.getElem_mem hk'))
   have e:g1 a.1 (td,(i:Int)) f=f:=if_neg hne
   rw[e,ih (i+1) k f hk' hn.2 he',show i+1+k=i+(k+1) by omega]
structure Tabs2 (L F:List Fd):Prop where
 nodR:((L++F).map (·.1)).Nodup
 nodS:((L++F).map (·.2)).Nodup
theorem zXo {T:List Fd} {r s:P2} (hr:hasR T r=true) (hc:zGr T r s=true):zD T r s=T.map (g1 r s):=by
 unfold zD
 rw[if_pos hc,if_pos hr];rfl
theorem zIb {T:List Fd} {r s:P2} (h:∀f∈T,f.1≠r):T.map (g1 r s)=T:=by
 conv=>rhs;rw[<- List.map_id T]
 exact List.map_congr_left λf hf=>if_neg (h f hf)
theorem zTs (td:Nat):∀(l:List Fd) (Q:PS) (i:Nat),Tabs2 Q.L Q.F->(∀a∈l,a∈Q.L++Q.F)->(l.map (·.1)).Nodup->(∀f∈Q.L++Q.F,f.2.1=(td:Int)->f.2.2<(i:Int)) ->
 Q.settle (td:Int) i l = { Q with L:=Q.L.map (mvs td i l),F:=Q.F.map (mvs td i l) } /\ Tabs2 (Q.L.map (mvs td i l)) (Q.F.map (mvs td i l)):=by
 intro l
 induction l with
 | nil =>
  intro Q i ht _ _ _
  have e:∀T:List Fd,T.map (mvs (td:Int) i [])=T:=λT=>by
   conv=>rhs;rw[<- List.map_id T]
   rfl
  rw[e,e]
  exact ⟨rfl,ht⟩
 | cons a l ih =>
  intro Q i ht hm hn h3
  rw[List.map_cons,List.nodup_cons] at hn
  obtain ⟨g,hg⟩:∃g,g1 a.1 ((td:Int),(i:Int))=g:=⟨_,rfl⟩
  have hgr:∀f,(g f).1=f.1:=λf=>by rw[<- hg];exact g1_ref _ _ _
  have hcan:∀T:List Fd,(∀f∈T,f∈Q.L++Q.F)->zGr T a.1 ((td:Int),(i:Int))=true:=λT hT=>by
   unfold zGr
   simp only[Bool.and_eq_true,decide_eq_true_eq,List.all_eq_true,Bool.or_eq_true]
   refine ⟨⟨by omega,by omega⟩,λf hf=>.inl ?_⟩
   have:f.2≠((td:Int),(i:Int)):=λe=>by
    have:=h3 f (hT f hf) (by rw[e])
    rw[e] at this
    exact absurd this (Int.lt_irrefl _)
   simpa[bne] using this
  have hrp:=ht.nodR
  rw[List.map_append,List.nodup_append] at hrp
  have hsp:=ht.nodS
  rw[List.map_append,List.nodup_append] at hsp
  have hstep:Q.put1 (td:Int) i a = { Q with L:=Q.L.map g,F:=Q.F.map g } :=by
   unfold PS.put1
   by_cases haF:a∈Q.F
   . have hon:(onT Q.F a.2).isSome=true:=by
      unfold onT
      rw[Option.isSome_map,List.find?_isSome]
      exact ⟨a,haF,by simp⟩
     have hL:Q.L.map g=Q.L:=by
      rw[<- hg]
      exact zIb λf hf e=>hrp.2.2 _ (List.mem_map_of_mem hf) a.1 (List.mem_map_of_mem haF) e
     rw[if_pos hon,zXo (by unfold hasR;rw[List.any_eq_true];exact ⟨a,haF,by simp⟩) (hcan _ λf hf=>List.mem_append_right _ hf),hg,hL]
   . have haL:a∈Q.L:=by
      rcases List.mem_append.1 (hm a List.mem_cons_self) with h | h
      . exact h
      . exact absurd h haF
     have hon:¬(onT Q.F a.2).isSome=true:=by
      unfold onT
      rw[Option.isSome_map,List.find?_isSome]
      rintro ⟨f,hf,e⟩
      exact hsp.2.2 _ (List.mem_map_of_mem haL) f.2 (List.mem_map_of_mem hf) (by simpa using Eq.symm (by simpa using e:f.2=a.2))
     have hF:Q.F.map g=Q.F:=by
      rw[<- hg]
      exact zIb λf hf e=>hrp.2.2 _ (List.mem_map_of_mem haL) f.1 (List.mem_map_of_mem hf) e.symm
     rw[if_neg hon,zXo (by unfold hasR;rw[List.any_eq_true];exact ⟨a,haL,by simp⟩) (hcan _ λf hf=>List.mem_append_left _ hf),hg,hF]
  have ht1:Tabs2 (Q.L.map g) (Q.F.map g):=by
   constructor
   . rw[<- List.map_append,List.map_map]
     have:(λf:Fd=>f.1) ∘ g=λf=>f.1:=funext hgr
     rw[this];exact ht.nodR
   . rw[<- List.map_append,List.map_map]
     have hR:=ht.nodR
     have hS:=ht.nodS
     unfold List.Nodup at hR hS ⊢
     rw[List.pairwise_map] at hR hS ⊢
     refine (hR.and hS).imp_of_mem λ{x y} hx hy hxy=>?_
     obtain ⟨h1,h2⟩:=hxy
     show (g x).2≠(g y).2
     rw[<- hg]
     unfold g1
     have no:∀z∈Q.L++Q.F,z.2≠((td:Int),(i:Int)):=λz hz e=>by
      have:=h3 z hz (by rw[e])
      rw[e] at this
      exact absurd this (Int.lt_irrefl _)
     by_cases ex:x.1=a.1
     . have ey:¬y.1=a.1:=λe=>h1 (ex.trans e.symm)
       rw[if_pos ex,if_neg ey]
       exact λe=>no y hy e.symm
     . rw[if_neg ex]
       by_cases ey:y.1=a.1
       . rw[if_pos ey];exact no x hx
       . rw[if_neg ey];exact h2
  obtain ⟨k1,k2⟩:=ih { Q with L:=Q.L.map g,F:=Q.F.map g } (i+1) ht1 (λb hb=>by
   have hbm:=hm b (List.mem_cons_of_mem _ hb)
   have hne:¬b.1=a.1:=λe=>hn.1 (by rw[<- e];exact List.mem_map_of_mem hb)
   have e:g b=b:=by rw[<- hg];exact if_neg hne
   show b∈Q.L.map g++Q.F.map g
   rw[<- List.map_append,<- e]
   exact List.mem_map_of_mem hbm) hn.2 (λf hf e=>by
   have hf':f∈(Q.L++Q.F).map g:=by rw[List.map_append];exact hf
   obtain ⟨f0,hf0,rfl⟩:=List.mem_map.1 hf'
   rw[<- hg] at e ⊢
   unfold g1 at e ⊢
   by_cases ex:f0.1=a.1
   . rw[if_pos ex]
     show (i:Int)<((i+1:Nat):Int);omega
   . rw[if_neg ex] at e ⊢
     have:=h3 f0 hf0 e
     omega)
  have hmm:∀T:List Fd,(T.map g).map (mvs (td:Int) (i+1) l)=T.map (mvs (td:Int) i (a::l)):=λT=>by
   rw[List.map_map,<- hg];rfl
  unfold PS.settle
  rw[hstep,k1]
  simp only[hmm] at k2 ⊢
  exact ⟨trivial,k2⟩
end
section
open Go.RowKit
theorem zQq (l:List Bk):∀i∈qK l,∃k:Nat,k<l.length/\i=(k:Int):=by
 have key:∀(l:List Bk) (b:Nat),∀i∈qV b l,∃k:Nat,k<b+l.length/\i=(k:Int):=by
  intro l
  induction l with
  | nil=>intro b i hi;cases hi
  | cons x r ih =>
   intro b i hi
   unfold qV at hi
   split at hi
   . rcases List.mem_cons.1 hi with e | e
     . exact ⟨b,by simp,e⟩
     . obtain ⟨k,h1,h2⟩:=ih _ i e
       exact ⟨k,by simp;omega,h2⟩
   . obtain ⟨k,h1,h2⟩:=ih _ i hi
     exact ⟨k,by simp;omega,h2⟩
 intro i hi
 obtain ⟨k,h1,h2⟩:=key l 0 i hi
 exact ⟨k,by omega,h2⟩
theorem zHf (l:List Bk):∀(k j:Nat),((j:Int)∈qV k l)↔∃i,i<l.length/\j=k+i/\∃b,l[i]? = some b/\qJ b=true:=by
 induction l with
 | nil=>exact λk j=>⟨λh=>by simp[qV] at h,λ⟨i,h,_⟩=>by simp at h⟩
 | cons b l ih =>
  intro k j
  have hs:∀i,(b::l)[i+1]? = l[i]? := λi=>by simp
  constructor
  . intro h
    unfold qV at h
    by_cases hb:qJ b=true
    . rw[if_pos hb,List.mem_cons] at h
      rcases h with h | h
      . exact ⟨0,by simp,by omega,b,rfl,hb⟩
      . obtain ⟨i,h1,h2,h3⟩:=(ih (k+1) j).1 h
        exact ⟨i+1,by simp;omega,by omega,by rw[hs];exact h3⟩
    . rw[if_neg hb] at h
      obtain ⟨i,h1,h2,h3⟩:=(ih (k+1) j).1 h
      exact ⟨i+1,by simp;omega,by omega,by rw[hs];exact h3⟩
  . rintro ⟨i,h1,h2,c,h3,h4⟩
    unfold qV
    cases i with
    | zero =>
     obtain rfl:b=c:=by simpa using h3
     rw[if_pos h4]
     exact List.mem_cons.2 (.inl (by omega))
    | succ i =>
     rw[hs] at h3
     have:=(ih (k+1) j).2 ⟨i,by simpa using h1,by omega,c,h3,h4⟩
     split
     . exact List.mem_cons_of_mem _ this
     . exact this
theorem zIu (l:List Bk) (j:Nat):((j:Int)∈qK l)↔∃b,l[j]? = some b/\qJ b=true:=by
 unfold qK
 rw[zHf]
 constructor
 . rintro ⟨i,h1,h2,h3⟩
   obtain rfl:j=i:=by omega
   exact h3
 . rintro ⟨b,h1,h2⟩
   obtain ⟨h,-⟩:=List.getElem?_eq_some_iff.1 h1
   exact ⟨j,h,by omega,b,h1,h2⟩
theorem zZu (op:Int) (xs:List Int):∀(a:List Bool) (j:Nat),(∀x∈xs,0<=x)->(xs.foldl (λa i=>a.set i.toNat (i != op)) a)[j]? = if (j:Int)∈xs then (a[j]?.map λ_=>(j:Int) != op) else a[j]? :=by
 induction xs with
 | nil=>exact λa j _=>by simp
 | cons x xs ih =>
  intro a j h0
  have hx:=h0 x List.mem_cons_self
  rw[List.foldl_cons,ih _ j λy hy=>h0 y (List.mem_cons_of_mem _ hy)]
  by_cases h1:(j:Int)∈xs
  . rw[if_pos h1,if_pos (List.mem_cons_of_mem _ h1),List.getElem?_set]
    split
    . split<;>simp_all
    . rfl
  . rw[if_neg h1]
    by_cases h2:(j:Int)=x
    . rw[if_pos (List.mem_cons.2 (.inl h2)),List.getElem?_set,if_pos (by omega)]
      rw[<- h2]
      split
      . next h=>rw[Int.toNat_natCast] at h;rw[List.getElem?_eq_getElem h];rfl
      . next h=>rw[Int.toNat_natCast] at h;rw[List.getElem?_eq_none (by omega)];rfl
    . rw[if_neg (by rw[List.mem_cons];rintro (h | h);exact h2 h;exact h1 h),List.getElem?_set,if_neg (by omega)]
theorem zQd (l:List Bk) (op:Int) (j:Nat) (hj:j<l.length):(vQ l op)[j]? = some (qJ l[j]&&((j:Int) != op)):=by
 unfold vQ
 rw[zZu op _ _ j λx hx=>by obtain ⟨k,-,rfl⟩:=zQq l x hx;omega]
 have hr:(List.replicate l.length false)[j]? = some false:=by simp[hj]
 rw[hr]
 by_cases h:(j:Int)∈qK l
 . rw[if_pos h]
   obtain ⟨b,h1,h2⟩:=(zIu l j).1 h
   rw[List.getElem?_eq_getElem hj] at h1
   rw[Option.some.inj h1,h2]
   rfl
 . rw[if_neg h]
   have:qJ l[j]=false:=by
    cases e:qJ l[j] with
    | false=>rfl
    | true=>exact absurd ((zIu l j).2 ⟨_,List.getElem?_eq_getElem hj,e⟩) h
   rw[this];rfl
theorem zQc (l:List Bk) (op:Int):(vQ l op).length=l.length:=by
 unfold vQ
 have:∀(xs:List Int) (a:List Bool),(xs.foldl (λa i=>a.set i.toNat (i != op)) a).length=a.length:=by
  intro xs
  induction xs with
  | nil=>exact λa=>rfl
  | cons x xs ih=>exact λa=>by rw[List.foldl_cons,ih];simp
 rw[this];simp
end
section
open Go.RowKit
structure Looked (bl:List Bk) (zs:List (Int × Bool)) (ok:Nat->Bk->Prop):Prop where
 len:zs.length=bl.length
 get:∀k b,bl[k]? = some b->∃t,zs[k]? = some (b.count,t)/\(t=true↔ok k b)
theorem Looked.mem {bl:List Bk} {zs:List (Int × Bool)} {ok:Nat->Bk->Prop} (h:Looked bl zs ok) (x:Int):(x,true)∈zs↔∃k b,bl[k]? = some b/\ok k b/\b.count=x:=by
 constructor
 . intro hm
   obtain ⟨k,hk,e⟩:=List.getElem_of_mem hm
   have hk':k<bl.length:=by rw[<- h.len];exact hk
   obtain ⟨t,e1,e2⟩:=h.get k _ (List.getElem?_eq_getElem hk')
   rw[List.getElem?_eq_getElem hk,e] at e1
   injection e1 with e1
   injection e1 with e3 e4
   exact ⟨k,_,List.getElem?_eq_getElem hk',e2.1 e4.symm,e3.symm⟩
 . rintro ⟨k,b,h1,h2,rfl⟩
   obtain ⟨t,e1,e2⟩:=h.get k b h1
   rw[e2.2 h2] at e1
   exact List.mem_of_getElem? e1
theorem Looked.at_ {bl:List Bk} {zs:List (Int × Bool)} {ok:Nat->Bk->Prop} (h:Looked bl zs ok) {k:Nat} {x:Int} (hk:k<zs.length) (e:zs[k]=(x,true)):∃b,bl[k]? = some b/\ok k b/\b.count=x:=by
 have hk':k<bl.length:=by rw[<- h.len];exact hk
 obtain ⟨t,e1,e2⟩:=h.get k _ (List.getElem?_eq_getElem hk')
 rw[List.getElem?_eq_getElem hk,e] at e1
 injection e1 with e1
 injection e1 with e3 e4
 exact ⟨_,List.getElem?_eq_getElem hk',e2.1 e4.symm,e3.symm⟩
theorem Looked.pick {bl:List Bk} {zs:List (Int × Bool)} {ok:Nat->Bk->Prop} (h:Looked bl zs ok) (hot:Bool) :
 ((if hot=true then hotP zs else zCb zs) = -1/\∀k b,bl[k]? = some b->¬ok k b) \/
 ∃k b,(if hot=true then hotP zs else zCb zs)=((k:Nat):Int)/\bl[k]? = some b/\ok k b/\∀j c,bl[j]? = some c->ok j c->(hot=true->c.count<=b.count)/\(hot=false->b.count<=c.count):=by
 have key:∀n:Int,(n=loP zs\/n=hiP zs)->(zDh zs n = -1/\∀k b,bl[k]? = some b->¬ok k b)\/∃k b,zDh zs n=((k:Nat):Int)/\bl[k]? = some b/\ok k b/\b.count=n:=by
  intro n hn
  rcases zMe zs n with ⟨h1,h2⟩ | ⟨i,hi,h1,h2,-⟩
  . refine .inl ⟨h1,λk b hb hk=>h2 ?_⟩
    have hm:=(h.mem b.count).2 ⟨k,b,hb,hk,rfl⟩
    have he:=yU hm
    rcases hn with rfl | rfl
    . exact he.1
    . exact he.2.1
  . obtain ⟨b,e1,e2,e3⟩:=h.at_ hi h2
    exact .inr ⟨i,b,h1,e1,e2,e3⟩
 cases hot with
 | true =>
  rcases key (hiP zs) (.inr rfl) with h1 | ⟨k,b,e1,e2,e3,e4⟩
  . exact .inl h1
  . refine .inr ⟨k,b,e1,e2,e3,λj c hc hj=>⟨λ_=>?_,(λe=>by cases e)⟩⟩
    have hm:=(h.mem c.count).2 ⟨j,c,hc,hj,rfl⟩
    have:=(yU hm).2.2 _ hm
    omega
 | false =>
  rcases key (loP zs) (.inl rfl) with h1 | ⟨k,b,e1,e2,e3,e4⟩
  . exact .inl h1
  . refine .inr ⟨k,b,e1,e2,e3,λj c hc hj=>⟨(λe=>by cases e),λ_=>?_⟩⟩
    have hm:=(h.mem c.count).2 ⟨j,c,hc,hj,rfl⟩
    have:=(yU hm).2.2 _ hm
    omega
section
variable {Q:PS}
theorem zVu {bl:List Bk} {fl:List Bool} {k:Nat} {b:Bk} {t:Bool} (h1:bl[k]? = some b) (h2:fl[k]? = some t):((bl.map λb:Bk=>b.count).zip fl)[k]? = some (b.count,t):=by
 rw[List.getElem?_zip_eq_some]
 exact ⟨by rw[List.getElem?_map,h1];rfl,h2⟩
theorem zNj (Q:PS):Looked Q.S.bl (Q.counts.zip (vQ Q.S.bl Q.op)) (λk b=>qJ b=true/\(k:Int)≠Q.op) where
 len:=by unfold PS.counts;rw[List.length_zip,List.length_map,zQc];omega
 get:=λk b hb=>by
  obtain ⟨hk,e⟩:=List.getElem?_eq_some_iff.1 hb
  have h2:=zQd Q.S.bl Q.op k hk
  rw[e] at h2
  refine ⟨_,zVu hb h2,?_⟩
  simp
theorem zEc (Q:PS) (hot:Bool) :
 (Q.clean hot = -1/\∀(k:Nat) (b:Bk),Q.S.bl[k]? = some b->qJ b=true->(k:Int)=Q.op) \/
 ∃(k:Nat) (b:Bk),Q.clean hot=(k:Int)/\Q.S.bl[k]? = some b/\qJ b=true/\(k:Int)≠Q.op/\∀(j:Nat) (c:Bk),Q.S.bl[j]? = some c->qJ c=true->(j:Int)≠Q.op->(hot=true->c.count<=b.count)/\(hot=false->b.count<=c.count):=by
 rcases (zNj Q).pick hot with ⟨h1,h2⟩ | ⟨k,b,h1,h2,⟨h3,h4⟩,h5⟩
 . exact .inl ⟨h1,λk b hb hc=>Classical.not_not.1 λh=>h2 k b hb ⟨hc,h⟩⟩
 . exact .inr ⟨k,b,h1,h2,h3,h4,λj c hc h6 h7=>h5 j c hc ⟨h6,h7⟩⟩
theorem zZi (l:List Bk) (op:Int) (hop : -1<=op) (k:Nat) (hk:k<l.length):(zAf l op)[k]? = some (!l[k].bad&&((k:Int) != op)):=by
 have hm:(l.map λb:Bk => !b.bad)[k]? = some (!l[k].bad):=by rw[List.getElem?_map,List.getElem?_eq_getElem hk];rfl
 unfold zAf
 split
 . next h=>rw[hm,h];simp
 . next h =>
   rw[List.getElem?_set]
   by_cases e:op.toNat=k
   . rw[if_pos e,if_pos (by simp;omega)]
     have:(k:Int)=op:=by omega
     simp[this]
   . rw[if_neg e,hm]
     have:¬(k:Int)=op:=by omega
     simp[this]
theorem zIg (Q:PS) (hop : -1<=Q.op):Looked Q.S.bl (Q.counts.zip (zAf Q.S.bl Q.op)) (λk b=>b.bad=false/\(k:Int)≠Q.op) where
 len:=by
  have:(zAf Q.S.bl Q.op).length=Q.S.bl.length:=by unfold zAf;split<;>simp
  unfold PS.counts;rw[List.length_zip,List.length_map,this];omega
 get:=λk b hb=>by
  obtain ⟨hk,e⟩:=List.getElem?_eq_some_iff.1 hb
  have h2:=zZi Q.S.bl Q.op hop k hk
  rw[e] at h2
  refine ⟨_,zVu hb h2,?_⟩
  simp
theorem zSu (Q:PS) (hop : -1<=Q.op) (hc:∀b∈Q.S.bl,0<=b.count/\b.count<=4611686018427387904) :
 (Q.due = -1/\∀(i:Nat) (b:Bk) (j:Nat) (c:Bk),Q.S.bl[i]? = some b->b.bad=false->(i:Int)≠Q.op->Q.S.bl[j]? = some c->c.bad=false->(j:Int)≠Q.op->c.count<=b.count+Q.U) \/
 ∃(k:Nat) (b:Bk),Q.due=(k:Int)/\Q.S.bl[k]? = some b/\b.bad=false/\(k:Int)≠Q.op/\(∀(j:Nat) (c:Bk),Q.S.bl[j]? = some c->c.bad=false->(j:Int)≠Q.op->b.count<=c.count)/\∃(j:Nat) (c:Bk),Q.S.bl[j]? = some c/\c.bad=false/\(j:Int)≠Q.op/\b.count+Q.U<c.count:=by
 have hl:=zIg Q hop
 obtain ⟨zs,hz⟩:∃zs,Q.counts.zip (zAf Q.S.bl Q.op)=zs:=⟨_,rfl⟩
 have hd:Q.due=if vk zs<=Q.U then -1 else zCb zs:=by unfold PS.due dueP;rw[hz]
 rw[hz] at hl
 by_cases hany:∃(k:Nat) (b:Bk),Q.S.bl[k]? = some b/\b.bad=false/\(k:Int)≠Q.op
 . obtain ⟨k,b,h1,h2,h3⟩:=hany
   have hm:=(hl.mem b.count).2 ⟨k,b,h1,⟨h2,h3⟩,rfl⟩
   obtain ⟨e1,e2,e3⟩:=yU hm
   obtain ⟨kl,bl,l1,l2,l3⟩:=(hl.mem _).1 e1
   obtain ⟨kh,bh,m1,m2,m3⟩:=(hl.mem _).1 e2
   have cl:=hc _ (List.mem_of_getElem? l1)
   have ch:=hc _ (List.mem_of_getElem? m1)
   have hap:vk zs=hiP zs - loP zs:=by unfold vk;rw[if_pos (by omega)]
   by_cases hle:vk zs<=Q.U
   . refine .inl ⟨by rw[hd,if_pos hle],λi b' j c' hb' hbb hbo hc' hcb hco=>?_⟩
     have:=e3 _ ((hl.mem b'.count).2 ⟨i,b',hb',⟨hbb,hbo⟩,rfl⟩)
     have:=e3 _ ((hl.mem c'.count).2 ⟨j,c',hc',⟨hcb,hco⟩,rfl⟩)
     omega
   . rcases hl.pick false with ⟨-,p2⟩ | ⟨k',b',p1,p2,p3,p4⟩
     . exact absurd ⟨h2,h3⟩ (p2 k b h1)
     . rw[if_neg (by simp)] at p1
       refine .inr ⟨k',b',by rw[hd,if_neg hle,p1],p2,p3.1,p3.2,λj c' hc' h6 h7=>(p4 j c' hc' ⟨h6,h7⟩).2 rfl,kh,bh,m1,m2.1,m2.2,?_⟩
       have:=(p4 kl bl l1 l2).2 rfl
       omega
 . have hno:∀x,(x,true)∉zs:=λx hx=>by
    obtain ⟨k,b,h1,h2,-⟩:=(hl.mem x).1 hx
    exact hany ⟨k,b,h1,h2⟩
   refine .inl ⟨?_,λi b j c hb hbb hbo=>absurd ⟨i,b,hb,hbb,hbo⟩ hany⟩
   rw[hd]
   split
   . rfl
   . exact yAn hno
end
end
section
open Go.RowKit
abbrev zBi (l:List Bk):Nat:=l.countP qJ
structure Fade (S S':LS) (k:Nat):Prop where
 len:S'.bl.length=S.bl.length
 blk:∀(j:Nat) (b:Bk),S.bl[j]? = some b->∃b',S'.bl[j]? = some b'/\(b'=b\/qJ b=true/\b'.bad=true/\b'.count=b.count)
 bad:qx S'.bl=qx S.bl+k
 cln:zBi S'.bl+k=zBi S.bl
theorem Fade.refl (S:LS):Fade S S 0:=⟨rfl,λ_ b h=>⟨b,h,.inl rfl⟩,rfl,rfl⟩
theorem vF {b:Bk} (h:qJ b=true):b.bad=false/\b.next=0:=by
 unfold qJ at h
 simp at h
 exact h
theorem zAv {b:Bk} (h:b.bad=true):qJ b=false:=by unfold qJ;rw[h];rfl
theorem Fade.trans {S T U:LS} {k m:Nat} (h:Fade S T k) (g:Fade T U m):Fade S U (k+m):=by
 refine ⟨g.len.trans h.len,λj b hb=>?_,by have:=h.bad;have:=g.bad;omega,by have:=h.cln;have:=g.cln;omega⟩
 obtain ⟨b1,h1,h2⟩:=h.blk j b hb
 obtain ⟨b2,h3,h4⟩:=g.blk j b1 h1
 refine ⟨b2,h3,?_⟩
 rcases h2 with rfl | ⟨c1,c2,c3⟩
 . exact h4
 . rcases h4 with rfl | ⟨d1,-,-⟩
   . exact .inr ⟨c1,c2,c3⟩
   . rw[zAv c2] at d1;cases d1
theorem yV {p:Bk->Bool} {l:List Bk} {i:Nat} {b y:Bk} (h:l[i]? = some b):(l.set i y).countP p+(if p b=true then 1 else 0)=l.countP p+(if p y=true then 1 else 0):=by
 obtain ⟨hi,rfl⟩:=List.getElem?_eq_some_iff.1 h
 have key:∀(l:List Bk) (i:Nat) (hi:i<l.length),(l.set i y).countP p+(if p l[i]=true then 1 else 0)=l.countP p+(if p y=true then 1 else 0):=by
  intro l
  induction l with
  | nil=>exact λi hi=>absurd hi (by simp)
  | cons c l ih =>
   intro i hi
   cases i with
   | zero =>
    simp only[List.set_cons_zero,List.countP_cons,List.getElem_cons_zero]
    omega
   | succ i =>
    have:=ih i (by simpa using hi)
    simp only[List.set_cons_succ,List.countP_cons,List.getElem_cons_succ]
    omega
 exact key l i hi
theorem fade_one {S S':LS} {i:Nat} {b y:Bk} (hb:S.bl[i]? = some b) (hc:qJ b=true) (hbl:S'.bl=S.bl.set i y) (hy:y.bad=true) (hcnt:y.count=b.count):Fade S S' 1:=by
 obtain ⟨hi,-⟩:=List.getElem?_eq_some_iff.1 hb
 have h1:=yV (p:=λb:Bk=>b.bad) (y:=y) hb
 have h2:=yV (p:=qJ) (y:=y) hb
 rw[(vF hc).1,hy] at h1
 rw[hc,zAv hy] at h2
 refine ⟨by rw[hbl];simp,λj c hj=>?_,by rw[hbl];unfold qx;simpa using h1,by rw[hbl];simpa using h2⟩
 by_cases e:j=i
 . subst e
   rw[hb] at hj
   obtain rfl:=Option.some.inj hj
   exact ⟨y,by rw[hbl,List.getElem?_set_self hi],.inr ⟨hc,hy,hcnt⟩⟩
 . exact ⟨c,by rw[hbl,List.getElem?_set_ne (λh=>e h.symm)];exact hj,.inl rfl⟩
structure Mid (Q:PS) (D:Dat):Prop where
 ok:Ok Q
 dark:Q.S.dark=false
 sized:Sized Q.S
 tabs:Tabs2 Q.L Q.F
 page:∀f∈Q.L++Q.F,PageIs Q.S D f
def Low (S:LS) (N:Nat):Prop:=Small S (4611686018427387904 - N)
theorem Low.spent {S T:LS} {a b c N:Nat} (h:Low S N) (k:Spent S T a b c) {M:Nat} (hM:M+a<=N/\M+b<=N/\M+c<=N):Low T M:=by
 unfold Low at h ⊢
 exact h.spent k (by omega)
inductive MoveEnd (Q:PS) (D:Dat) (l:List Fd) (hot:Bool):Int->Int->PS->Prop
 | moved (k td:Nat) (b:Bk) (S1 S2:LS):Fade Q.S S1 k->S1.bl[td]? = some b->qJ b=true->((td:Int)≠Q.op) ->
  (∀(j:Nat) (c:Bk),S1.bl[j]? = some c->qJ c=true->(j:Int)≠Q.op->(hot=true->c.count<=b.count)/\(hot=false->b.count<=c.count)) ->
  S2.bl=S1.bl.set td (yF b 0 (l.map λf=>vG D f.1))->Keeps Q.S S2->Spent Q.S S2 0 ((k+1) * l.length) 0 ->
  Mid { Q with S:=S2,L:=Q.L.map (mvs td 0 l),F:=Q.F.map (mvs td 0 l) } D->(Q.over=false->({ Q with S:=S2 } : PS).over=false) ->
  MoveEnd Q D l hot td 0 { Q with S:=S2,L:=Q.L.map (mvs td 0 l),F:=Q.F.map (mvs td 0 l) }
 | over (k:Nat) (S1:LS):Fade Q.S S1 k->({ Q with S:=S1 } : PS).over=true->Keeps Q.S S1->Spent Q.S S1 0 ((k+1) * l.length) 0->Mid { Q with S:=S1 } D->MoveEnd Q D l hot (-1) 6 { Q with S:=S1 }
 | none (k:Nat) (S1:LS):Fade Q.S S1 k->(∀(j:Nat) (b:Bk),S1.bl[j]? = some b->qJ b=true->(j:Int)=Q.op)->Keeps Q.S S1->Spent Q.S S1 0 (k * l.length) 0->Mid { Q with S:=S1 } D->(Q.over=false->({ Q with S:=S1 } : PS).over=false)->MoveEnd Q D l hot (-1) 6 { Q with S:=S1 }
 | cut (S1:LS):S1.dark=true->Q.S.c.set=true->(∀f∈Q.L++Q.F,PageIs S1 D f)->MoveEnd Q D l hot (-1) 2 { Q with S:=S1 }
theorem Mid.chip {Q:PS} {D:Dat} (h:Mid Q D) {S:LS} (hok:Ok { Q with S:=S }) (hd:S.dark=false) (hs:Sized S) (hp:∀f∈Q.L++Q.F,PageIs S D f):Mid { Q with S:=S } D:=⟨hok,hd,hs,h.tabs,hp⟩
theorem cnt_of {S S':LS} {i:Nat} {b y:Bk} (hb:S.bl[i]? = some b) (hbl:S'.bl=S.bl.set i y) (hy:y.count=b.count) (h:∀b∈S.bl,(Lit.int .i64 b.count).wf=true):∀b∈S'.bl,(Lit.int .i64 b.count).wf=true:=by
 intro c hc
 rw[hbl] at hc
 rcases List.mem_or_eq_of_mem_set hc with k | rfl
 . exact h c k
 . rw[hy];exact h b (List.mem_of_getElem? hb)
theorem zCe {l:List Bk} {i:Nat} {b y:Bk} (hb:l[i]? = some b) (hy:y.bad=b.bad):qx (l.set i y)=qx l:=by
 have h:=yV (p:=λb:Bk=>b.bad) (y:=y) hb
 rw[hy] at h
 unfold qx
 have e:∀l:List Bk,l.countP (·.bad)=l.countP λb:Bk=>b.bad:=λ_=>rfl
 rw[e,e];omega
theorem yQ {Q:PS} {S:LS} (h:qx S.bl=qx Q.S.bl):({ Q with S:=S } : PS).over=Q.over:=by
 unfold PS.over PS.bads
 show decide (Q.Sp<(qx S.bl:Int) - Q.bad)=_
 rw[h]
theorem zJo (D:Dat) (l:List Fd) (hot:Bool):∀(n:Nat) (Q:PS),Mid Q D->(∀f∈l,f∈Q.L++Q.F)->(l.map (·.1)).Nodup->l.length<=Q.S.np->zBi Q.S.bl<n->Low Q.S (n * (l.length+1)) ->
 ∃td e Q',PS.moveLoop l (l.map λf=>vG D f.1) hot n Q=some (td,e,Q')/\MoveEnd Q D l hot td e Q':=by
 intro n
 induction n with
 | zero=>exact λQ _ _ _ _ h=>absurd h (by omega)
 | succ n ih =>
  intro Q hM hl hnd hlen hfu hlow
  unfold PS.moveLoop
  rcases zEc Q hot with ⟨h1,h2⟩ | ⟨td,b,h1,h2,h3,h4,h5⟩
  . rw[if_pos h1]
    exact ⟨-1,6,Q,rfl,.none 0 Q.S (Fade.refl _) h2 (Keeps.refl _) ((Spent.refl _).le (by omega) (by omega) (by omega)) hM (λh=>h)⟩
  . obtain ⟨htd,hbe⟩:=List.getElem?_eq_some_iff.1 h2
    have hlenB:=hM.ok.len
    have hnum:Q.num (Q.clean hot):=by rw[h1];exact ⟨by omega,by omega⟩
    rw[if_neg (by rw[h1];omega),if_neg (λh=>h hnum),h1]
    obtain ⟨hcb,hcn⟩:=vF h3
    have hmap:(l.map λf=>vG D f.1).length=l.length:=by simp
    have hlow':=hlow.2.1
    have hmul:(n+1) * (l.length+1)=n * (l.length+1)+(l.length+1):=by rw[Nat.add_mul,Nat.one_mul]
    obtain ⟨e,S1,y,f1,g1',c1,l1,s1⟩:=zZx (l.map λf=>vG D f.1) Q td 0 b hM.dark h2 hcb (by rw[hcn];rfl) (by rw[hmap];omega) hM.sized (λp hp=>by
     obtain ⟨f,hf,rfl⟩:=List.mem_map.1 hp
     obtain ⟨i,j,-,-,hm,-⟩:=hM.page f (hl f hf)
     exact yAs hm) (by rw[hmap];omega) hlow'.1
    rw[hmap] at s1
    rw[f1]
    dsimp only
    have hnp:S1.np=Q.S.np:=g1'.keeps.np
    have hpage1:∀f∈Q.L++Q.F,PageIs S1 D f:=λf hf=>g1'.pages D f (hM.page f hf)
    have hcnt1:=cnt_of h2 g1'.bl c1 hM.ok.cnt
    have hsz1:=g1'.sized hM.sized
    have hok1:Ok { Q with S:=S1 } := hM.ok.chip hnp g1'.keeps.len hcnt1 (λb hb=>by have h9:=hsz1 b hb;rw[hnp] at h9;have h8:=hM.ok.np;omega)
    rcases g1'.cases with ⟨e0,d0,b0⟩ | ⟨e0,d0,b0⟩ | ⟨e0,d0,hc0,b0⟩
    . subst e0
      rw[if_pos rfl]
      obtain ⟨k1,k2⟩:=zTs td l { Q with S:=S1 } 0 hM.tabs hl hnd (λf hf ef=>by
       obtain ⟨i,j,e2,-,-,c,hc,hn,-⟩:=hM.page f hf
       rw[e2] at ef
       have:i=td:=by have:(i:Int)=(td:Int):=ef;omega
       subst this
       rw[h2] at hc
       obtain rfl:=Option.some.inj hc
       rw[hcn] at hn
       omega)
      have hy:y=yF b 0 (l.map λf=>vG D f.1):=l1 rfl
      have hsm:(({ Q with S:=S1 } : PS).settle (td:Int) 0 l).small:=by
       rw[k1]
       show (Q.L.map _).length<=200/\(Q.F.map _).length<=200
       simp only[List.length_map]
       exact hM.ok.tabs
      rw[if_pos hsm]
      have hokS:=hok1.settle (td:Int) 0 l hsm
      rw[k1] at hokS ⊢
      refine ⟨(td:Int),0,_,rfl,.moved 0 td b Q.S S1 (Fade.refl _) h2 h3 h4 h5 (by rw[g1'.bl,hy]) g1'.keeps (s1.le (by omega) (by omega) (by omega)) ⟨hokS,d0,hsz1,k2,λf' hf'=>?_⟩ (λh=>by rw[<- h];exact yQ (by show qx S1.bl=qx Q.S.bl;rw[g1'.bl];exact zCe h2 (by rw[b0,hcb])))⟩
      have hf2:f'∈(Q.L++Q.F).map (mvs (td:Int) 0 l):=by rw[List.map_append];exact hf'
      obtain ⟨f,hf,rfl⟩:=List.mem_map.1 hf2
      by_cases hin:f.1∈l.map (·.1)
      . obtain ⟨x,hx,ex⟩:=List.mem_map.1 hin
        obtain ⟨k,hk,rfl⟩:=List.getElem_of_mem hx
        rw[mvs_at (td:Int) l 0 k f hk hnd ex.symm]
        obtain ⟨i,j,-,-,hm,-⟩:=hM.page f hf
        refine ⟨td,k,by show ((td:Int),((0+k:Nat):Int))=_;rw[Nat.zero_add],by show k<S1.np;omega,hm,y,by rw[g1'.bl,List.getElem?_set_self htd],?_,?_⟩
        . rw[hy];unfold yF;simp;omega
        . rw[hy]
          unfold yF
          simp only[List.take_zero,List.nil_append,Nat.zero_add]
          rw[List.getElem?_append_left (by rw[hmap];exact hk),List.getElem?_map,List.getElem?_eq_getElem hk]
          show some (vG D l[k].1)=some (vG D f.1)
          rw[ex]
      . rw[zPv _ _ _ _ hin]
        exact hpage1 f hf
    . subst e0
      rw[if_neg (by decide)]
      have hf:=fade_one h2 h3 g1'.bl b0 c1
      have hM1:Mid { Q with S:=S1 } D:=hM.chip hok1 d0 hsz1 hpage1
      have hpass:({ Q with S:=S1 } : PS).passed 3=if ({ Q with S:=S1 } : PS).over=true then 6 else 0:=by unfold PS.passed;rw[if_neg (by simp)]
      rw[hpass]
      cases ho:({ Q with S:=S1 } : PS).over with
      | true =>
       rw[if_pos (show true=true from rfl),if_neg (by decide)]
       exact ⟨-1,6,_,rfl,.over 1 S1 hf ho g1'.keeps (s1.le (by omega) (by omega) (by omega)) hM1⟩
      | false =>
       rw[if_neg (show ¬(false=true) by decide),if_pos rfl]
       have hcl:=hf.cln
       obtain ⟨td2,e2,Q2,m1,m2⟩:=ih { Q with S:=S1 } hM1 hl hnd (by show _<=S1.np;rw[hnp];exact hlen) (by show zBi S1.bl<n;omega) (hlow.spent s1 ⟨by omega,by omega,by omega⟩)
       refine ⟨td2,e2,Q2,m1,?_⟩
       cases m2 with
       | moved k td' b' T1 T2 w1 w2 w3 w4 w5 w6 w7 w8 w9 w10 =>
        refine .moved (1+k) td' b' T1 T2 (hf.trans w1) w2 w3 w4 w5 w6 (g1'.keeps.trans w7) ((s1.trans w8).le (by omega) ?_ (by omega)) w9 (λ_=>w10 ho)
        rw[show 1+k+1=1+(k+1) by omega,Nat.add_mul 1,Nat.one_mul];omega
       | over k T1 w1 w2 w3 w4 w5 =>
        refine .over (1+k) T1 (hf.trans w1) w2 (g1'.keeps.trans w3) ((s1.trans w4).le (by omega) ?_ (by omega)) w5
        rw[show 1+k+1=1+(k+1) by omega,Nat.add_mul 1,Nat.one_mul];omega
       | none k T1 w1 w2 w3 w4 w5 w6 =>
        refine .none (1+k) T1 (hf.trans w1) w2 (g1'.keeps.trans w3) ((s1.trans w4).le (by omega) ?_ (by omega)) w5 (λ_=>w6 ho)
        rw[Nat.add_mul 1,Nat.one_mul];omega
       | cut T1 w1 w2 w3 =>
        refine .cut T1 w1 ?_ w3
        cases hs:Q.S.c.set with
        | true=>rfl
        | false =>
         have h5:S1.c.set=true:=w2
         rw[(g1'.keeps.cut hs).1] at h5
         cases h5
    . subst e0
      rw[if_neg (by decide)]
      have hpass:({ Q with S:=S1 } : PS).passed 2=2:=by unfold PS.passed;rw[if_pos (by decide)]
      rw[hpass,if_neg (by decide)]
      exact ⟨-1,2,_,rfl,.cut S1 d0 hc0 hpage1⟩
end
section
open Go.RowKit
theorem zSh (T:List Fd) (i:Int):(inT T i).Perm (T.filter λf=>f.2.1==i):=by
 have:=yT (T.filter λf=>f.2.1==i) []
 simpa[inT] using this
theorem zFx (Q:PS) (i:Int):(Q.here i).Perm ((Q.L++Q.F).filter λf=>f.2.1==i):=by
 unfold PS.here
 rw[List.filter_append]
 exact (zSh _ _).append (zSh _ _)
theorem yH (Q:PS) (i:Int) (f:Fd):f∈Q.here i↔f∈Q.L++Q.F/\f.2.1=i:=by
 rw[(zFx Q i).mem_iff,List.mem_filter]
 simp
theorem zIn {Q:PS} (h:Tabs2 Q.L Q.F) (i:Int):((Q.here i).map (·.1)).Nodup:=by
 rw[((zFx Q i).map (·.1)).nodup_iff]
 exact h.nodR.sublist (List.filter_sublist.map _)
theorem nodup_lt:∀(n:Nat) (l:List Nat),l.Nodup->(∀x∈l,x<n)->l.length<=n:=by
 intro n
 induction n with
 | zero =>
  intro l _ h
  cases l with
  | nil=>simp
  | cons a l=>exact absurd (h a List.mem_cons_self) (by omega)
 | succ n ih =>
  intro l hn h
  by_cases hm:n∈l
  . have h1:=ih (l.erase n) (hn.erase n) λx hx=>by
     have h2:=(List.Nodup.mem_erase_iff hn).1 hx
     have:=h x h2.2
     have:=h2.1
     omega
    rw[List.length_erase_of_mem hm] at h1
    omega
  . have:=ih l hn λx hx=>by
     have h1:=h x hx
     have:x≠n:=λe=>hm (e ▸ hx)
     omega
    omega
theorem zJx {Q:PS} {D:Dat} (h:Mid Q D) (i:Int):(Q.here i).length<=Q.S.np:=by
 have hS:((Q.here i).map (·.2)).Nodup:=by
  rw[((zFx Q i).map (·.2)).nodup_iff]
  exact h.tabs.nodS.sublist (List.filter_sublist.map _)
 have hN:((Q.here i).map λf=>f.2.2.toNat).Nodup:=by
  unfold List.Nodup at hS ⊢
  rw[List.pairwise_map] at hS ⊢
  refine hS.imp_of_mem λ{x y} hx hy hne e=>hne ?_
  obtain ⟨hx1,hx2⟩:=(yH Q i x).1 hx
  obtain ⟨hy1,hy2⟩:=(yH Q i y).1 hy
  obtain ⟨a,b,e1,-⟩:=h.page x hx1
  obtain ⟨c,d,e2,-⟩:=h.page y hy1
  rw[e1] at hx2 e ⊢
  rw[e2] at hy2 e ⊢
  simp only[Int.toNat_natCast] at e
  simp only at hx2 hy2
  rw[hx2,hy2,e]
 have:=nodup_lt Q.S.np _ hN λx hx=>by
  obtain ⟨f,hf,rfl⟩:=List.mem_map.1 hx
  obtain ⟨a,b,e1,hb,-⟩:=h.page f ((yH Q i f).1 hf).1
  rw[e1]
  simpa using hb
 simpa using this
theorem zAh (Q:PS) (i:Int):Q.held i=(Q.here i).length:=(zJw Q i).symm
theorem held_zero {Q:PS} {i:Int} : Q.held i=0↔∀f∈Q.L++Q.F,f.2.1≠i:=by
 rw[zAh]
 constructor
 . intro h f hf e
   have:=List.eq_nil_of_length_eq_zero h
   have hm:=(yH Q i f).2 ⟨hf,e⟩
   rw[this] at hm
   cases hm
 . intro h
   rw[List.length_eq_zero_iff,List.eq_nil_iff_forall_not_mem]
   intro f hf
   obtain ⟨h1,h2⟩:=(yH Q i f).1 hf
   exact h f h1 h2
theorem zVf {Q:PS} {D:Dat} (h:Mid Q D) {i:Nat} {b:Bk} (hb:Q.S.bl[i]? = some b) (hc:qJ b=true):Q.held i=0 :=
 held_zero.2 λf hf e=>by
  obtain ⟨a,j,e1,-,-,c,hc',hn,-⟩:=h.page f hf
  rw[e1] at e
  obtain rfl:a=i:=by have:(a:Int)=i:=e;omega
  rw[hb] at hc'
  obtain rfl:=Option.some.inj hc'
  rw[(vF hc).2] at hn
  omega
theorem zHz {Q:PS} (h:Tabs2 Q.L Q.F) (i td:Int) (hne:i≠td) (S:LS) :
 (({ Q with S:=S,L:=Q.L.map (mvs td 0 (Q.here i)),F:=Q.F.map (mvs td 0 (Q.here i)) } : PS).held i=0) /\
 ∀k:Int,k≠td->k≠i->({ Q with S:=S,L:=Q.L.map (mvs td 0 (Q.here i)),F:=Q.F.map (mvs td 0 (Q.here i)) } : PS).held k=Q.held k:=by
 have key:∀f∈Q.L++Q.F,(f.2.1=i->(mvs td 0 (Q.here i) f).2.1=td)/\(f.2.1≠i->mvs td 0 (Q.here i) f=f):=by
  intro f hf
  constructor
  . intro e
    have hm:=(yH Q i f).2 ⟨hf,e⟩
    obtain ⟨k,hk,rfl⟩:=List.getElem_of_mem hm
    rw[mvs_at td _ 0 k _ hk (zIn h i) rfl]
  . intro e
    refine zPv _ _ _ _ λhm=>e ?_
    obtain ⟨x,hx,ex⟩:=List.mem_map.1 hm
    obtain ⟨hx1,hx2⟩:=(yH Q i x).1 hx
    have:x=f:=vr h.nodR hx1 hf ex
    rw[<- this];exact hx2
 constructor
 . refine held_zero.2 λf' hf'=>?_
   have hf2:f'∈(Q.L++Q.F).map (mvs td 0 (Q.here i)):=by rw[List.map_append];exact hf'
   obtain ⟨f,hf,rfl⟩:=List.mem_map.1 hf2
   by_cases e:f.2.1=i
   . rw[(key f hf).1 e];exact λk=>hne k.symm
   . rw[(key f hf).2 e];exact e
 . intro k hk1 hk2
   have cnt:∀T:List Fd,(∀f∈T,f∈Q.L++Q.F)->vU (T.map (mvs td 0 (Q.here i))) k=vU T k:=λT hT=>by
    unfold vU
    rw[List.countP_map]
    refine List.countP_congr λf hf=>?_
    have hkf:=key f (hT f hf)
    simp only[Function.comp,beq_iff_eq]
    by_cases e:f.2.1=i
    . rw[hkf.1 e,e]
      exact ⟨λh=>absurd h.symm hk1,λh=>absurd h.symm hk2⟩
    . rw[hkf.2 e]
   show vU _ k+vU _ k=vU _ k+vU _ k
   rw[cnt Q.L λf hf=>List.mem_append_left _ hf,cnt Q.F λf hf=>List.mem_append_right _ hf]
theorem zNd {Q:PS} {D:Dat} (h:Mid Q D) (n:Nat) (i:Int) (hot:Bool) (hn:zBi Q.S.bl<n) (hlow:Low Q.S ((n+1) * (Q.S.np+1))) :
 ∃td e Q' S0,Q.move n i hot=some (td,e,Q')/\S0.bl=Q.S.bl/\Keeps Q.S S0/\Spent Q.S S0 (Q.held i) 0 0/\Mid { Q with S:=S0 } D/\MoveEnd { Q with S:=S0 } D (Q.here i) hot td e Q':=by
 have hle:=zJx h i
 have hl1:=hlow.1
 have hmul:(n+1) * (Q.S.np+1)=n * (Q.S.np+1)+(Q.S.np+1):=by rw[Nat.add_mul,Nat.one_mul]
 obtain ⟨S0,e1,b1,d1,k1,s1⟩:=zUf D (Q.here i) Q [] h.dark (λf hf=>h.page f ((yH Q i f).1 hf).1) (by omega) hl1.1
 have hM:Mid { Q with S:=S0 } D:=h.chip (h.ok.chip k1.np (by rw[b1]) (by rw[b1];exact h.ok.cnt) (by rw[b1];exact h.ok.next)) d1 (λb hb=>by rw[b1] at hb;rw[k1.np];exact h.sized b hb) λf hf=>(h.page f hf).same k1.np b1
 have hmul2:n * ((Q.here i).length+1)<=n * (Q.S.np+1):=Nat.mul_le_mul_left n (by omega)
 obtain ⟨td,e,Q',m1,m2⟩:=zJo D (Q.here i) hot n { Q with S:=S0 } hM (λf hf=>((yH Q i f).1 hf).1) (zIn h.tabs i) (by show _<=S0.np;rw[k1.np];exact hle) (by show zBi S0.bl<n;rw[b1];exact hn) (hlow.spent s1 ⟨by omega,by omega,by omega⟩)
 refine ⟨td,e,Q',S0,?_,b1,k1,by rw[zAh];exact s1,hM,m2⟩
 unfold PS.move
 rw[e1]
 dsimp only
 rw[if_pos rfl,List.nil_append,m1]
end
section
open Go.RowKit
abbrev sl (S:LS):Nat:=zBi S.bl+qx S.bl
theorem zKk {l:List Bk} {i:Nat} {b y:Bk} (hb:l[i]? = some b) (h1:b.bad=false) (h2:y.bad=true):qx (l.set i y)=qx l+1:=by
 have h:=yV (p:=λb:Bk=>b.bad) (y:=y) hb
 rw[h1,h2] at h
 have e:∀l:List Bk,qx l=l.countP λb:Bk=>b.bad:=λ_=>rfl
 rw[e,e]
 simpa using h
theorem zGk {l:List Bk} {i:Nat} {b y:Bk} (hb:l[i]? = some b):zBi (l.set i y)+(if qJ b=true then 1 else 0)=zBi l+(if qJ y=true then 1 else 0):=yV hb
inductive WipeEnd (Q:PS) (D:Dat) (i:Nat) (b:Bk):Int->PS->Prop
 | done (S1:LS) (y:Bk):S1.bl=Q.S.bl.set i y->y.count=b.count+1->qJ y=true->Keeps Q.S S1->Spent Q.S S1 0 0 1->Mid { Q with S:=S1 } D->WipeEnd Q D i b 0 { Q with S:=S1 }
 | worn (S1:LS) (y:Bk):S1.bl=Q.S.bl.set i y->y.count=b.count+1->y.bad=true->Keeps Q.S S1->Spent Q.S S1 0 0 1->Mid { Q with S:=S1 } D->({ Q with S:=S1 } : PS).over=false->WipeEnd Q D i b 0 { Q with S:=S1 }
 | over (S1:LS) (y:Bk):S1.bl=Q.S.bl.set i y->y.count=b.count+1->y.bad=true->Keeps Q.S S1->Spent Q.S S1 0 0 1->Mid { Q with S:=S1 } D->({ Q with S:=S1 } : PS).over=true->WipeEnd Q D i b 6 { Q with S:=S1 }
 | cut (S1:LS):S1.dark=true->Q.S.c.set=true->(∀f∈Q.L++Q.F,PageIs S1 D f)->WipeEnd Q D i b 2 { Q with S:=S1 }
theorem zVv {Q:PS} {D:Dat} (h:Mid Q D) {i:Nat} {b:Bk} (hb:Q.S.bl[i]? = some b) (hbad:b.bad=false) (hheld:Q.held i=0) (hc:0<=b.count/\b.count<=4611686018427387904) (hlow:Low Q.S 1):WipeEnd Q D i b (Q.wipe i).1 (Q.wipe i).2:=by
 obtain ⟨hi,hbe⟩:=List.getElem?_eq_some_iff.1 hb
 have hz:=held_zero.1 hheld
 have hl:=hlow.2.2
 have hcw:wrap64 (b.count+1)=b.count+1:=qv hc
 have hokw:=h.ok.erase (i:Int)
 unfold PS.wipe
 rcases zQk (i:=i) hi h.dark (by rw[hbe];exact hbad) with ⟨S1,e1,d1,t1⟩ | ⟨S1,e1,d1,t1⟩ | ⟨S1,e1,d1,c1,t1⟩
 . rw[e1] at hokw ⊢
   have hp:∀f∈Q.L++Q.F,PageIs S1 D f:=λf hf=>(h.page f hf).erase t1 (hz f hf)
   have hpass:({ Q with S:=S1 } : PS).passed 0=0:=by unfold PS.passed;rw[if_pos (by decide)]
   dsimp only
   rw[hpass]
   refine .done S1 _ t1.bl ?_ ?_ t1.keeps (t1.spent (by omega) hl.1) (h.chip hokw d1 (h.sized.erase hi t1 (.inl rfl)) hp)
   . show wrap64 (Q.S.bl[i].count+1)=_;rw[hbe,hcw]
   . unfold qJ vZ zEx;rw[hbe];simp[hbad]
 . rw[e1] at hokw ⊢
   have hp:∀f∈Q.L++Q.F,PageIs S1 D f:=λf hf=>(h.page f hf).erase t1 (hz f hf)
   have hM:=h.chip hokw d1 (h.sized.erase hi t1 (.inr (.inl rfl))) hp
   have hcnt:({ zEx Q.S.bl[i] with bad:=true } : Bk).count=b.count+1:=by show wrap64 (Q.S.bl[i].count+1)=_;rw[hbe,hcw]
   dsimp only
   have hpass:({ Q with S:=S1 } : PS).passed 3=if ({ Q with S:=S1 } : PS).over=true then 6 else 0:=by unfold PS.passed;rw[if_neg (by simp)]
   rw[hpass]
   cases ho:({ Q with S:=S1 } : PS).over with
   | true =>
    rw[if_pos rfl]
    exact .over S1 _ t1.bl hcnt rfl t1.keeps (t1.spent (by omega) hl.1) hM ho
   | false =>
    rw[if_neg (by decide)]
    exact .worn S1 _ t1.bl hcnt rfl t1.keeps (t1.spent (by omega) hl.1) hM ho
 . rw[e1]
   have hp:∀f∈Q.L++Q.F,PageIs S1 D f:=λf hf=>(h.page f hf).erase t1 (hz f hf)
   have hpass:({ Q with S:=S1 } : PS).passed 2=2:=by unfold PS.passed;rw[if_pos (by decide)]
   dsimp only
   rw[hpass]
   exact .cut S1 d1 c1 hp
structure Went (Q Q':PS) (D:Dat) (R f:Nat):Prop where
 mid:Mid Q' D
 same:Q'.B=Q.B/\Q'.P=Q.P/\Q'.Sp=Q.Sp/\Q'.K=Q.K/\Q'.U=Q.U/\Q'.bad=Q.bad/\Q'.seq=Q.seq/\Q'.down=Q.down
 refs:Q'.L.map (·.1)=Q.L.map (·.1)/\Q'.F.map (·.1)=Q.F.map (·.1)
 bad:qx Q'.S.bl=qx Q.S.bl+f
 keeps:Keeps Q.S Q'.S
 spent:Spent Q.S Q'.S (R * Q.S.np) ((R+f) * Q.S.np) R
theorem Went.refl {Q:PS} {D:Dat} (h:Mid Q D):Went Q Q D 0 0:=⟨h,⟨rfl,rfl,rfl,rfl,rfl,rfl,rfl,rfl⟩,⟨rfl,rfl⟩,rfl,Keeps.refl _,(Spent.refl _).le (by omega) (by omega) (by omega)⟩
theorem Went.trans {Q Q1 Q2:PS} {D:Dat} {R f R' f':Nat} (h:Went Q Q1 D R f) (k:Went Q1 Q2 D R' f'):Went Q Q2 D (R+R') (f+f'):=by
 obtain ⟨a1,a2,a3,a4,a5,a6,a7,a8⟩:=h.same
 obtain ⟨b1,b2,b3,b4,b5,b6,b7,b8⟩:=k.same
 refine ⟨k.mid,⟨b1.trans a1,b2.trans a2,b3.trans a3,b4.trans a4,b5.trans a5,b6.trans a6,b7.trans a7,b8.trans a8⟩,⟨k.refs.1.trans h.refs.1,k.refs.2.trans h.refs.2⟩,by have:=h.bad;have:=k.bad;omega,h.keeps.trans k.keeps,?_⟩
 have hs:=k.spent
 rw[h.keeps.np] at hs
 refine (h.spent.trans hs).le ?_ ?_ nL
 . rw[Nat.add_mul];omega
 . rw[<- Nat.add_mul,show R+R'+(f+f')=R+f+(R'+f') by omega];omega
structure Dark (Q Q':PS) (D:Dat):Prop where
 dark:Q'.S.dark=true
 cut:Q.S.c.set=true
 refs:Q'.L.map (·.1)=Q.L.map (·.1)/\Q'.F.map (·.1)=Q.F.map (·.1)
 page:∀f∈Q'.L++Q'.F,PageIs Q'.S D f
 tabs:Tabs2 Q'.L Q'.F
def Rose (S S':LS) (d:Nat):Prop:=∀(j:Nat) (b':Bk),S'.bl[j]? = some b'->∃b,S.bl[j]? = some b/\(b'.bad=false->b.bad=false/\b'.count=if j=d then b.count+1 else b.count)/\b.count<=b'.count/\b'.count<=b.count+1
theorem refs_mvs (td:Int) (l T:List Fd):(T.map (mvs td 0 l)).map (·.1)=T.map (·.1):=by
 rw[List.map_map]
 exact List.map_congr_left λf _=>mvs_ref td l 0 f
inductive RenewEnd (Q:PS) (D:Dat) (d s:Nat):Int->PS->Prop
 | done (Q':PS) (f:Nat):Went Q Q' D 1 f->Q'.op=Q.op->Q'.over=false->Rose Q.S Q'.S d->s<=sl Q'.S->(∀(j:Nat) (b':Bk),Q'.S.bl[j]? = some b'->qJ b'=true->(∃b,Q.S.bl[j]? = some b/\qJ b=true)\/j=d)->(∀j:Nat,(j:Int)=Q.op->Q'.S.bl[j]? = Q.S.bl[j]?)->RenewEnd Q D d s 0 Q'
 | over (Q':PS) (f:Nat):Went Q Q' D 1 f->Q'.over=true->RenewEnd Q D d s 6 Q'
 | cut (Q':PS):Dark Q Q' D->RenewEnd Q D d s 2 Q'
theorem zKh {Q:PS} (ho:Q.over=false) (hs:Q.Sp+Q.bad+1<=(sl Q.S:Int)):1<=zBi Q.S.bl:=by
 unfold PS.over PS.bads at ho
 have:¬Q.Sp<(qx Q.S.bl:Int) - Q.bad:=by simpa using ho
 have:(sl Q.S:Int)=(zBi Q.S.bl:Int)+(qx Q.S.bl:Int):=by show ((zBi Q.S.bl+qx Q.S.bl:Nat):Int)=_;omega
 omega
theorem zEy {l:List Bk} (h:1<=zBi l):∃(j:Nat) (b:Bk),l[j]? = some b/\qJ b=true:=by
 obtain ⟨b,hb,hc⟩:=List.countP_pos_iff.1 (show 0<zBi l from h)
 obtain ⟨j,hj,rfl⟩:=List.getElem_of_mem hb
 exact ⟨j,_,List.getElem?_eq_getElem hj,hc⟩
end
section
open Go.RowKit
abbrev yE (Q:PS):Prop:=∀(j:Nat) (b:Bk),Q.S.bl[j]? = some b->(j:Int)=Q.op->qJ b=false
structure Pre (Q Q1:PS) (D:Dat) (k:Nat):Prop where
 mid:Mid Q1 D
 same:Q1.B=Q.B/\Q1.P=Q.P/\Q1.Sp=Q.Sp/\Q1.K=Q.K/\Q1.U=Q.U/\Q1.bad=Q.bad/\Q1.seq=Q.seq/\Q1.down=Q.down
 refs:Q1.L.map (·.1)=Q.L.map (·.1)/\Q1.F.map (·.1)=Q.F.map (·.1)
 bad:qx Q1.S.bl=qx Q.S.bl+k
 keeps:Keeps Q.S Q1.S
 spent:Spent Q.S Q1.S Q.S.np ((k+1) * Q.S.np) 0
 op:Q1.op=Q.op
 over:Q1.over=false
 blk:∀(j:Nat) (c':Bk),Q1.S.bl[j]? = some c'->∃c,Q.S.bl[j]? = some c/\(c'.bad=false->c.bad=false)/\c'.count=c.count/\(qJ c'=true->qJ c=true)
 opk:∀j:Nat,(j:Int)=Q.op->Q1.S.bl[j]? = Q.S.bl[j]?
theorem zJf {l:List Bk} {i j:Nat} {y b':Bk} (h:(l.set i y)[j]? = some b'):(j=i/\b'=y/\i<l.length)\/(j≠i/\l[j]? = some b'):=by
 by_cases e:j=i
 . subst e
   obtain ⟨hj,-⟩:=List.getElem?_eq_some_iff.1 h
   simp only[List.length_set] at hj
   rw[List.getElem?_set_self hj] at h
   exact .inl ⟨rfl,(Option.some.inj h).symm,hj⟩
 . rw[List.getElem?_set_ne (λk=>e k.symm)] at h
   exact .inr ⟨e,h⟩
theorem zDi {Q Q1:PS} {D:Dat} {k d s:Nat} {b:Bk} (hdo:(d:Int)≠Q.op) (h:Pre Q Q1 D k) (hb:Q1.S.bl[d]? = some b) (hbad:b.bad=false) (hheld:Q1.held d=0) (hc:0<=b.count/\b.count<=4611686018427387904) (hlow:Low Q1.S 1) (hs:s<=sl Q1.S+(if qJ b=true then 0 else 1)):RenewEnd Q D d s (Q1.wipe d).1 (Q1.wipe d).2:=by
 have hw:=zVv h.mid hb hbad hheld hc hlow
 obtain ⟨hi,-⟩:=List.getElem?_eq_some_iff.1 hb
 have hsp:∀{S1:LS} {f:Nat},Spent Q1.S S1 0 0 1->k<=f->Spent Q.S S1 (1 * Q.S.np) ((1+f) * Q.S.np) 1:=λ{S1 f} s hkf=>by
  refine (h.spent.trans s).le (by omega) ?_ (by omega)
  have:(k+1) * Q.S.np<=(1+f) * Q.S.np:=Nat.mul_le_mul_right _ (by omega)
  omega
 have hrose:∀{S1:LS} {y:Bk},S1.bl=Q1.S.bl.set d y->y.count=b.count+1->Rose Q.S S1 d:=λ{S1 y} hbl hy j b' hj=>by
  rw[hbl] at hj
  rcases zJf hj with ⟨rfl,rfl,-⟩ | ⟨hne,hj⟩
  . obtain ⟨c,h1,h2,h3,-⟩:=h.blk j b hb
    exact ⟨c,h1,λ_=>⟨h2 hbad,by rw[if_pos rfl,hy,h3]⟩,by omega,by omega⟩
  . obtain ⟨c,h1,h2,h3,-⟩:=h.blk j b' hj
    exact ⟨c,h1,λe=>⟨h2 e,by rw[if_neg hne,h3]⟩,by omega,by omega⟩
 have hcl:∀{S1:LS} {y:Bk},S1.bl=Q1.S.bl.set d y->∀(j:Nat) (b':Bk),S1.bl[j]? = some b'->qJ b'=true->(∃c,Q.S.bl[j]? = some c/\qJ c=true)\/j=d:=λ{S1 y} hbl j b' hj hcb=>by
  rw[hbl] at hj
  rcases zJf hj with ⟨rfl,-,-⟩ | ⟨-,hj⟩
  . exact .inr rfl
  . obtain ⟨c,h1,-,-,h4⟩:=h.blk j b' hj
    exact .inl ⟨c,h1,h4 hcb⟩
 have hopk:∀{S1:LS} {y:Bk},S1.bl=Q1.S.bl.set d y->∀j:Nat,(j:Int)=Q.op->S1.bl[j]? = Q.S.bl[j]? := λ{S1 y} hbl j hj=>by
  rw[hbl,List.getElem?_set_ne (λe=>hdo (by rw[e];exact hj))]
  exact h.opk j hj
 obtain ⟨e,Q2,he⟩:∃e Q2,Q1.wipe d=(e,Q2):=⟨_,_,rfl⟩
 rw[he] at hw ⊢
 dsimp only at hw ⊢
 cases hw with
 | done S1 y w1 w2 w3 w4 w5 w6 =>
  have hyb:=(vF w3).1
  have hbd:qx S1.bl=qx Q.S.bl+k:=by rw[w1,zCe hb (by rw[hyb,hbad])];exact h.bad
  have hov:({ Q1 with S:=S1 } : PS).over=false:=by rw[<- h.over];exact yQ (by rw[w1];exact zCe hb (by rw[hyb,hbad]))
  refine .done _ k ⟨w6,h.same,h.refs,hbd,h.keeps.trans w4,hsp w5 nL⟩ h.op hov (hrose w1 w2) ?_ (hcl w1) (hopk w1)
  have h1:=zGk (y:=y) hb
  rw[w3] at h1
  have h2:qx S1.bl=qx Q1.S.bl:=by rw[w1];exact zCe hb (by rw[hyb,hbad])
  show s<=zBi S1.bl+qx S1.bl
  rw[h2,w1]
  have hs':s<=zBi Q1.S.bl+qx Q1.S.bl+(if qJ b=true then 0 else 1):=hs
  by_cases hcb:qJ b=true
  . rw[if_pos hcb] at h1 hs'
    rw[if_pos rfl] at h1
    omega
  . rw[if_neg hcb] at h1 hs'
    rw[if_pos rfl] at h1
    omega
 | worn S1 y w1 w2 w3 w4 w5 w6 w7 =>
  have hbd1:qx S1.bl=qx Q1.S.bl+1:=by rw[w1];exact zKk hb hbad w3
  have hbd:qx S1.bl=qx Q.S.bl+(k+1):=by have:=h.bad;omega
  refine .done _ (k+1) ⟨w6,h.same,h.refs,hbd,h.keeps.trans w4,hsp w5 (by omega)⟩ h.op w7 (hrose w1 w2) ?_ (hcl w1) (hopk w1)
  have h1:=zGk (y:=y) hb
  rw[zAv w3] at h1
  show s<=zBi S1.bl+qx S1.bl
  rw[hbd1,w1]
  have hs':s<=zBi Q1.S.bl+qx Q1.S.bl+(if qJ b=true then 0 else 1):=hs
  by_cases hcb:qJ b=true
  . rw[if_pos hcb] at h1 hs'
    rw[if_neg (by decide)] at h1
    omega
  . rw[if_neg hcb] at h1 hs'
    rw[if_neg (by decide)] at h1
    omega
 | over S1 y w1 w2 w3 w4 w5 w6 w7 =>
  have hbd1:qx S1.bl=qx Q1.S.bl+1:=by rw[w1];exact zKk hb hbad w3
  exact .over _ (k+1) ⟨w6,h.same,h.refs,by show qx S1.bl=_;have:=h.bad;omega,h.keeps.trans w4,hsp w5 (by omega)⟩ w7
 | cut S1 w1 w2 w3 =>
  refine .cut _ ⟨w1,?_,h.refs,w3,h.mid.tabs⟩
  cases hs:Q.S.c.set with
  | true=>rfl
  | false=>rw[(h.keeps.cut hs).1] at w2;cases w2
theorem Fade.back {S S':LS} {k:Nat} (h:Fade S S' k) {j:Nat} {c':Bk} (hj:S'.bl[j]? = some c'):∃c,S.bl[j]? = some c/\(c'.bad=false->c'=c)/\c'.count=c.count/\(qJ c'=true->qJ c=true)/\(qJ c=false->c'=c):=by
 obtain ⟨hl,-⟩:=List.getElem?_eq_some_iff.1 hj
 rw[h.len] at hl
 obtain ⟨b',h1,h2⟩:=h.blk j _ (List.getElem?_eq_getElem hl)
 rw[hj] at h1
 obtain rfl:=Option.some.inj h1
 refine ⟨_,List.getElem?_eq_getElem hl,?_⟩
 rcases h2 with rfl | ⟨h3,h4,h5⟩
 . exact ⟨λ_=>rfl,rfl,λh=>h,λ_=>rfl⟩
 . refine ⟨λe=>?_,h5,λe=>?_,λe=>?_⟩
   . rw[h4] at e;cases e
   . rw[zAv h4] at e;cases e
   . rw[h3] at e;cases e
theorem zIi {b:Bk} {pg:List (List UInt8)} (h:0<pg.length):qJ (yF b 0 pg)=false:=by
 have e:((0+pg.length:Nat):Int)≠0:=by omega
 show (!false&&((0+pg.length:Nat):Int)==0)=false
 simp only[Bool.not_false,Bool.true_and]
 exact beq_false_of_ne e
theorem zNc {Q:PS} {D:Dat} {i:Int} {S0 S1 S2:LS} {k td:Nat} {b:Bk} (hopd:yE Q) (htd:(td:Int)≠Q.op) (h:Mid Q D) (b0:S0.bl=Q.S.bl) (k0:Keeps Q.S S0) (s0:Spent Q.S S0 (Q.held i) 0 0) (hf:Fade S0 S1 k) (hb:S1.bl[td]? = some b) (hcb:qJ b=true) (h2:S2.bl=S1.bl.set td (yF b 0 ((Q.here i).map λf=>vG D f.1))) (hk:Keeps S0 S2) (hsp:Spent S0 S2 0 ((k+1) * (Q.here i).length) 0) (hM:Mid { Q with S:=S2,L:=Q.L.map (mvs td 0 (Q.here i)),F:=Q.F.map (mvs td 0 (Q.here i)) } D) (hov:({ Q with S:=S2 } : PS).over=false) :
 Pre Q { Q with S:=S2,L:=Q.L.map (mvs td 0 (Q.here i)),F:=Q.F.map (mvs td 0 (Q.here i)) } D k:=by
 have hle:=zJx h i
 have hbb:=(vF hcb).1
 refine ⟨hM,⟨rfl,rfl,rfl,rfl,rfl,rfl,rfl,rfl⟩,⟨refs_mvs _ _ _,refs_mvs _ _ _⟩,?_,k0.trans hk,(s0.trans hsp).le ?_ ?_ (by omega),rfl,hov,λj c' hj=>?_,λj hj=>?_⟩
 . show qx S2.bl=_
   rw[h2,zCe hb (by rw[hbb];rfl),hf.bad,b0]
 . rw[zAh];omega
 . have:(k+1) * (Q.here i).length<=(k+1) * Q.S.np:=Nat.mul_le_mul_left _ hle
   omega
 . have hj':S2.bl[j]? = some c':=hj
   rw[h2] at hj'
   rcases zJf hj' with ⟨rfl,rfl,-⟩ | ⟨-,hj2⟩
   . obtain ⟨c,e1,e2,e3,e4,-⟩:=hf.back hb
     rw[b0] at e1
     have:=e2 hbb
     subst this
     exact ⟨b,e1,λ_=>hbb,rfl,λ_=>hcb⟩
   . obtain ⟨c,e1,e2,e3,e4,-⟩:=hf.back hj2
     rw[b0] at e1
     exact ⟨c,e1,λe=>by rw[<- e2 e];exact e,e3,e4⟩
 . show S2.bl[j]? = _
   rw[h2,List.getElem?_set_ne (λe=>htd (by rw[e];exact hj))]
   rcases Nat.lt_or_ge j S1.bl.length with hl | hl
   . obtain ⟨c,e1,-,-,-,e5⟩:=hf.back (List.getElem?_eq_getElem hl)
     rw[b0] at e1
     rw[List.getElem?_eq_getElem hl,e5 (hopd j c e1 hj),e1]
   . have hl2:Q.S.bl.length<=j:=by rw[<- b0,<- hf.len];exact hl
     rw[List.getElem?_eq_none hl,List.getElem?_eq_none hl2]
theorem zRs {S0 S1 S2:LS} {k td:Nat} {b:Bk} {pg:List (List UInt8)} (hf:Fade S0 S1 k) (hb:S1.bl[td]? = some b) (hcb:qJ b=true) (h2:S2.bl=S1.bl.set td (yF b 0 pg)) (hpg:0<pg.length):sl S2+1=sl S0:=by
 have h3:=zGk (y:=yF b 0 pg) hb
 rw[hcb,zIi hpg,if_pos rfl,if_neg (by decide)] at h3
 have h4:qx S2.bl=qx S1.bl:=by rw[h2];exact zCe hb (by rw[(vF hcb).1];rfl)
 show zBi S2.bl+qx S2.bl+1=zBi S0.bl+qx S0.bl
 rw[h4,h2]
 have:=hf.bad
 have:=hf.cln
 omega
end
section
open Go.RowKit
theorem zZz {S S':LS} {k:Nat} (h:Fade S S' k):sl S'=sl S:=by
 have:=h.bad
 have:=h.cln
 show zBi S'.bl+qx S'.bl=zBi S.bl+qx S.bl
 omega
theorem zFj {S S':LS} (h:S'.bl=S.bl):sl S'=sl S:=by unfold sl;rw[h]
abbrev CntOk (S:LS) (N:Nat):Prop:=∀b∈S.bl,0<=b.count/\b.count<=4611686018427387904 - (N:Int)
theorem mul_low (n p:Nat):(n+1) * (p+1)+(n+1) * p+p+1<=4 * (n+1) * (p+1):=by
 have h1:(n+1) * (p+1)=(n+1) * p+(n+1):=by rw[Nat.mul_add,Nat.mul_one]
 have h2:4 * (n+1) * (p+1)=4 * ((n+1) * (p+1)):=Nat.mul_assoc _ _ _
 have h3:p<=(n+1) * p:=Nat.le_mul_of_pos_left _ (by omega)
 omega
theorem zTy {Q:PS} {D:Dat} (h:Mid Q D) (n d:Nat) (hdo:(d:Int)≠Q.op) {b:Bk} (hb:Q.S.bl[d]? = some b) (hbad:b.bad=false) (hc:CntOk Q.S 0) (ho:Q.over=false) (hs:Q.Sp+Q.bad+1<=(sl Q.S:Int)) (hop:yE Q) (hn:zBi Q.S.bl<n) (hlow:Low Q.S (4 * (n+1) * (Q.S.np+1))) :
 ∃e Q',Q.renew n d=some (e,Q')/\RenewEnd Q D d (sl Q.S) e Q':=by
 have hml:=mul_low n Q.S.np
 have hcb:=hc b (List.mem_of_getElem? hb)
 unfold PS.renew
 by_cases hh:0<Q.held d
 . rw[if_pos hh]
   have hdirty:qJ b=false:=by
    cases e:qJ b with
    | false=>rfl
    | true=>exact absurd (zVf h hb e) (by omega)
   obtain ⟨td,e,Q',S0,m1,b0,k0,s0,hM0,m2⟩:=zNd h n d true hn (hlow.spent (Spent.refl _) ⟨by omega,by omega,by omega⟩)
   have hle:=zJx h d
   have hhl:=zAh Q d
   have ho0:({ Q with S:=S0 } : PS).over=false:=by rw[<- ho];exact yQ (by rw[b0])
   rw[m1]
   cases m2 with
   | moved k td b1 S1 S2 w1 w2 w3 w4 w5 w6 w7 w8 w9 w10 =>
    have hpre:Pre Q _ D k:=zNc hop w4 h b0 k0 s0 w1 w2 w3 w6 w7 w8 w9 (w10 ho0)
    obtain ⟨c,hc1,hc2⟩:=w1.blk d b (by rw[b0];exact hb)
    have hcb':c=b:=by
     rcases hc2 with e | ⟨e,-,-⟩
     . exact e
     . rw[hdirty] at e;cases e
    subst hcb'
    have hne:d≠td:=λe=>by
     subst e
     rw[hc1] at w2
     obtain rfl:=Option.some.inj w2
     rw[hdirty] at w3;cases w3
    have hsl:=zRs w1 w2 w3 w6 (by simp;omega)
    have hk2:=(k0.trans w7).np
    have hmk:(k+1) * (Q.here d).length<=(n+1) * Q.S.np:=by
     have hkn:k<=n:=by have:=w1.cln;rw[b0] at this;omega
     exact Nat.mul_le_mul (by omega) (by omega)
    dsimp only
    rw[if_pos rfl]
    refine ⟨_,_,rfl,zDi hdo hpre (b:=c) ?_ hbad ?_ (by omega) ?_ ?_⟩
    . show S2.bl[d]? = _
      rw[w6,List.getElem?_set_ne (λe=>hne e.symm)];exact hc1
    . exact (zHz h.tabs d td (by omega) S2).1
    . exact hlow.spent (s0.trans w8) ⟨by omega,by omega,by omega⟩
    . rw[hdirty,if_neg (by decide)]
      exact Nat.le_of_eq (hsl.trans (zFj b0)).symm
   | over k S1 w1 w2 w3 w4 w5 =>
    dsimp only
    rw[if_neg (by decide)]
    refine ⟨_,_,rfl,.over _ k ⟨w5,⟨rfl,rfl,rfl,rfl,rfl,rfl,rfl,rfl⟩,⟨rfl,rfl⟩,?_,k0.trans w3,(s0.trans w4).le (by omega) ?_ (by omega)⟩ w2⟩
    . have:=w1.bad;rw[b0] at this;exact this
    . have:(k+1) * (Q.here d).length<=(1+k) * Q.S.np:=Nat.mul_le_mul (by omega) (by omega)
      omega
   | none k S1 w1 w2 w3 w4 w5 w6 =>
    have e1:sl S1=sl Q.S:=(zZz w1).trans (zFj b0)
    obtain ⟨j,b',hj,hjc⟩:=zEy (zKh (Q := { Q with S:=S1 }) (w6 ho0) (by show Q.Sp+Q.bad+1<=(sl S1:Int);rw[e1];exact hs))
    obtain ⟨c,e3,-,-,e4,-⟩:=w1.back hj
    rw[b0] at e3
    have:=hop j c e3 (w2 j b' hj hjc)
    rw[e4 hjc] at this;cases this
   | cut S1 w1 w2 w3 =>
    dsimp only
    rw[if_neg (by decide)]
    refine ⟨_,_,rfl,.cut _ ⟨w1,?_,⟨rfl,rfl⟩,w3,h.tabs⟩⟩
    cases hs:Q.S.c.set with
    | true=>rfl
    | false =>
     have h5:S0.c.set=true:=w2
     rw[(k0.cut hs).1] at h5;cases h5
 . rw[if_neg hh]
   refine ⟨_,_,rfl,zDi hdo (Q1:=Q) (k:=0) ⟨h,⟨rfl,rfl,rfl,rfl,rfl,rfl,rfl,rfl⟩,⟨rfl,rfl⟩,rfl,Keeps.refl _,(Spent.refl _).le (by omega) (by omega) (by omega),rfl,ho,λj c hj=>⟨c,hj,λe=>e,rfl,λe=>e⟩,λ_ _=>rfl⟩ hb hbad (by omega) (by omega) (hlow.spent (Spent.refl _) ⟨by omega,by omega,by omega⟩) (by omega)⟩
end
end Go.Proofs.YtinkkmlbhkfmnaaGreat
