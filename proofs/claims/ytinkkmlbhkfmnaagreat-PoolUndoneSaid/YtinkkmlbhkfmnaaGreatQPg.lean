/- A part of what the last text proves: PoH3, PoH4, PoH5. -/
import Derived.Test.YtinkkmlbhkfmnaaGreatPSortRL
import Derived.Test.YtinkkmlbhkfmnaaGreatQPf
set_option maxRecDepth 100000
set_option maxHeartbeats 8000000
namespace Go.Proofs.YtinkkmlbhkfmnaaGreat
section
open Go.RowKit Go.Shelf Go.Lib Go.Sort
section
variable {w w' V:World} {p c l f:Nat} {x y X Y Z:Nat->Prop} {Q Q1:PS} {T:List Fd} {S:LS}
def zJh (r:P2):List Value:=[.int .i64 r.1,.int .i64 r.2]
theorem zXh (l:List P2):∀j (h:j<l.length) (r:Nat),r<2->(yP l)[j * 2+r]? = (zJh l[j])[r]? := λj h r hr=>by
 obtain ⟨a,b⟩:=zHr l j h
 match r,hr with
 | 0,_=>simpa[zJh] using a
 | 1,_=>simpa[zJh] using b
theorem ROwn.plain' {w:World} {base n c:Nat} {q:Option Addr} {l:List P2} (h:ROwn w base (.slice q n c) l):(q=none->l = []/\c=0)/\∀ad,q=some ad->∃B o,ad=⟨B,o,none⟩:=by
 rcases h.2 with ⟨e,e2⟩ | ⟨g,cap,cur,e,_⟩
 . simp at e
   obtain ⟨rfl,rfl,rfl⟩:=e
   exact ⟨λ_=>⟨List.length_eq_zero_iff.1 e2,rfl⟩,λad e=>(by cases e)⟩
 . simp at e
   obtain ⟨rfl,rfl,rfl⟩:=e
   exact ⟨λe=>(by cases e),λad e=>(by cases e;exact ⟨g,0,rfl⟩)⟩
theorem zTx {w:World} {base c:Nat} {A:Option Addr} {l:List P2} {n:Nat} (h:ROwn w base (.slice A n c) l) (h0:A≠none):∃g,A=some ⟨g,0,none⟩/\base<=g/\g<w.heap.size/\HoldsK zJh 2 w g 0 l.toArray:=by
 rcases h.2 with ⟨e,e2⟩ | ⟨g,cap,cur,e,hb,hg,hc,_,_,ht⟩
 . simp at e
   exact absurd e.1 h0
 . simp at e
   obtain ⟨rfl,rfl,rfl⟩:=e
   refine ⟨g,rfl,hb,qD hg,λj hj=>⟨?_,by simp[World.frozen?,hg]⟩⟩
   rw[size_flatK] at hj
   have hj':j<l.length * 2:=by simpa using hj
   rw[get_flatK _ _ _ _ hj]
   have h1:=zXh l (j / 2) (by omega) (j % 2) (Nat.mod_lt _ (by omega))
   rw[show j / 2 * 2+j % 2=j by omega,<- ht,List.getElem?_take_of_lt (by omega)] at h1
   have h2:j<cur.size:=by
    have h3:=congrArg List.length ht
    rw[List.length_take,rcells_len,Array.length_toList] at h3
    omega
   have h4:l.toArray[j / 2]! = l[j / 2]'(by omega):=by
    rw[getElem!_pos _ _ (by simpa using (by omega:j / 2<l.length))]
    simp
   rw[h4]
   have h5:(zJh (l[j / 2]'(by omega))).length=2:=rfl
   have h6:j % 2<(zJh (l[j / 2]'(by omega))).length:=by rw[h5];exact Nat.mod_lt _ (by omega)
   rw[List.getElem?_eq_getElem h6] at h1
   simp only[id,List.getElem!_eq_getElem?_getD,List.getElem?_eq_getElem h6,Option.getD_some]
   simp only[World.cell?,hg,Nat.zero_add]
   simpa using h1
theorem zHc {w:World} {g:Nat} {d:Array P2} (h:HoldsK zJh 2 w g 0 d) (hg:g<w.heap.size):RLies w (some ⟨g,0,none⟩) d.toList:=λ_=>by
 refine ⟨g,0,rfl,hg,λj hj=>?_⟩
 have hj':j<d.size:=by simpa using hj
 have key:∀r,r<2->w.cell? ⟨g,0+j * 2+r,none⟩=some (zJh d[j])[r]! := λr hr=>by
  have h1:=(h (j * 2+r) (by rw[size_flatK];omega)).1
  rw[get_flatK _ _ _ _ (by omega),show (j * 2+r) / 2=j by omega,show (j * 2+r) % 2=r by omega,getElem!_pos d j hj'] at h1
  rw[Nat.add_assoc]
  have hh:r<(zJh d[j]).length:=hr
  simp only[id,List.getElem!_eq_getElem?_getD,List.getElem?_eq_getElem hh,Option.getD_some] at h1 ⊢
  exact h1
 simp only[Array.getElem_toList]
 exact ⟨key 0 (by omega),key 1 (by omega)⟩
theorem zRg {cf:P2->P2->Int} (hcf:∀x y,cf x y<0↔ltS x y=true) (x y:P2):ltOf cf x y=ltS x y:=by
 unfold ltOf
 rw[Bool.eq_iff_iff,decide_eq_true_iff]
 exact hcf x y
theorem rswo_of {cf:P2->P2->Int} (hcf:∀x y,cf x y<0↔ltS x y=true):SWO (ltOf cf) where
 irrefl x:=by rw[zRg hcf];simpa using zYu x
 trans x y z h1 h2:=by rw[zRg hcf] at *;exact lt_tr h1 h2
 ntrans x y z h1 h2:=by
  rw[zRg hcf] at *
  cases h3:ltS x z with
  | false=>rfl
  | true =>
   have g1:¬ltS x y=true:=by simp[h1]
   have g2:¬ltS y z=true:=by simp[h2]
   rw[zFv] at *
   omega
theorem zWw (g:Nat) (cf:P2->P2->Int) (hcf:∀x y,cf x y<0↔ltS x y=true) (hclo:∀(x y:P2) (W:World),Calls Tryz.prog g #[.agg (zJh x).toArray,.agg (zJh y).toArray] W λe w'=>e=.returned (.int .i64 (cf x y))/\∃q os',w'=grow (W.drewN q) os')
 (eg:∀args w,(callFunc g args).run Tryz.prog w=.ok (.enter g args) w) (hnone:∀(fv:Value) (w:World),Calls Tryz.prog 68 #[.slice none 0 0,fv] w λe w'=>e=.returned (.tuple #[])/\w'=w)
 {w:World} {base c:Nat} {A:Option Addr} {l:List P2} (h:ROwn w base (.slice A l.length c) l) (hl:l.length<=1000000) :
 Calls Tryz.prog 68 #[.slice A l.length c,.func (.func g) #[] #[]] w λe w'=>e=.returned (.tuple #[]) /\
  (∀(n:Nat) (w0:World),n<=base->Below n w0 w->Below n w0 w')/\∃l':List P2,l'.Perm l/\(∀i j (hi:i<l'.length) (hj:j<l'.length),i<j->ltS l'[j] l'[i]=false)/\RLies w' A l':=by
 by_cases hA:A=none
 . subst hA
   obtain ⟨rfl,rfl⟩:=h.plain'.1 rfl
   refine (hnone _ w).mono ?_
   rintro e w' ⟨rfl,rfl⟩
   exact ⟨rfl,λ_ _ _ h=>h,[],List.Perm.nil,λi j hi=>absurd hi (Nat.not_lt_zero _),λhn=>absurd hn (Nat.lt_irrefl _)⟩
 obtain ⟨b,rfl,hb,hlt,hH⟩:=zTx h hA
 have hcon:=AnyQ.slices_SortFunc YtinkkmlbhkfmnaaGreat.sortRf 2 (λw=>by kernel_rfl) (λw=>by kernel_rfl) zJh (λ_=>rfl) (λx v hv=>by simp[zJh] at hv;rcases hv with rfl | rfl<;>rfl) cf (rswo_of hcf) g #[] b 0 c l.toArray w eg (λ_ _ _ _ x y=>hclo x y _) hH hlt (by simp;omega)
 rw[List.size_toArray] at hcon
 change Calls Tryz.prog 68 _ _ _ at hcon
 refine hcon.mono ?_
 rintro e w' ⟨rfl,d',n,os,hp,hs,rfl⟩
 have hsz:d'.size=l.length:=by simpa using hp.1
 have hHd:HoldsK zJh 2 (putRowK zJh 2 (Sort.ahead w n) b 0 d') b 0 d':=holdsK_putRowK zJh 2 (Sort.ahead w n) b 0 l.toArray d' (λj hj=>hH j hj) (by simpa using hsz)
 have hlt2:b<(putRowK zJh 2 (Sort.ahead w n) b 0 d').heap.size:=by rw[size_putRowK];exact hlt
 refine ⟨rfl,λm w0 hm hB=>?_,d'.toList,?_,λi j hi hj hij=>?_,?_⟩
 . have h1:Below m w0 (putRowK zJh 2 (Sort.ahead w n) b 0 d'):=⟨hB.os,hB.tape,hB.output,by rw[size_putRowK];exact hB.size,λk hk=>by
    rw[<- hB.block k hk]
    simp[putRowK,putRow,mapBlock,Sort.ahead,Array.getElem?_modify,show b≠k by omega]⟩
   have hm2:m<=(putRowK zJh 2 (Sort.ahead w n) b 0 d').heap.size:=by omega
   exact ⟨h1.os,h1.tape,h1.output,Nat.le_trans h1.size (by simp[sortWorldK,grow]),λk hk=>(heap_grow_old _ os (Nat.lt_of_lt_of_le hk hm2)).trans (h1.block k hk)⟩
 . have h2:=hp.2.2
   rw[show l.length=d'.size from hsz.symm,Array.extract_size,hsz] at h2
   simpa using h2
 . have h3:=hs i j (Nat.zero_le _) hij (by simpa[hsz] using hj)
   rw[zRg hcf,getElem!_pos d' j (by simpa using hj),getElem!_pos d' i (by simpa using hi)] at h3
   simpa using h3
 . refine zHc (λj hj=>?_) (by simpa[sortWorldK,grow] using Nat.lt_of_lt_of_le hlt2 (Nat.le_add_right _ _))
   obtain ⟨a1,a2⟩:=hHd j hj
   exact ⟨(cell?_grow _ os _ hlt2).trans a1,(frozen?_grow _ os _ hlt2).trans a2⟩
end
end
section
open Go.RowKit Go.Shelf Go.Lib Go.Sort
section
variable {w w' V:World} {p c l f:Nat} {x y X Y Z:Nat->Prop} {Q Q1:PS} {T:List Fd} {S:LS}
theorem cfP_lt (x y:P2):cfP x y<0↔ltS x y=true:=by
 rw[zFv]
 unfold cfP compareInt
 split<;>split<;>(try split)<;>(try split)<;>omega
theorem zUc (x y:P2) (W:World):Calls Tryz.prog 69 #[P2V x,P2V y] W λe w'=>e=.returned (.int .i64 (cfP x y))/\∃q os',w'=grow (W.drewN q) os':=by
 obtain ⟨V,hV⟩:∃V,(W.alloc (.cells #[.int .i64 x.1,.int .i64 x.2] 33)).alloc (.cells #[.int .i64 y.1,.int .i64 y.2] 33)=V:=⟨_,rfl⟩
 have HVg:=hI hV
 have h1:V.heap[W.heap.size]? = some (.cells #[.int .i64 x.1,.int .i64 x.2] 33 (0,0)):=by rw[<- hV];exact (heap_alloc_old _ _ (by simp)).trans (heap_alloc_new W _)
 have h2:V.heap[W.heap.size+1]? = some (.cells #[.int .i64 y.1,.int .i64 y.2] 33 (0,0)):=by rw[<- hV];have:=heap_alloc_new (W.alloc (.cells #[.int .i64 x.1,.int .i64 x.2] 33)) (.cells #[.int .i64 y.1,.int .i64 y.2] 33);simpa using this
 obtain ⟨a0,a1⟩:=zAp h1
 obtain ⟨b0,b1⟩:=zAp h2
 have HC:Hid (cfP x y=if compareInt x.1 y.1=0 then compareInt x.2 y.2 else compareInt x.1 y.1):=hI rfl
 generalize cfP x y=r at HC ⊢
 generalize hc1:compareInt x.1 y.1=c1 at HC
 generalize hc2:compareInt x.2 y.2=c2 at HC
 have H1:=hI hc1
 have H2:=hI hc2
 have hl1:=qD h1
 have hl2:=qD h2
 have HA:=hI (And.intro ((World.cell?_of_block (a:=⟨W.heap.size,0,none⟩) (heap_alloc_old V (.cells #[.int .i64 c1,.int .i64 c2] 3) hl1)).trans a0) (And.intro ((World.cell?_of_block (a:=⟨W.heap.size,1,none⟩) (heap_alloc_old V (.cells #[.int .i64 c1,.int .i64 c2] 3) hl1)).trans a1) (And.intro ((World.cell?_of_block (a:=⟨W.heap.size+1,0,none⟩) (heap_alloc_old V (.cells #[.int .i64 c1,.int .i64 c2] 3) hl2)).trans b0) ((World.cell?_of_block (a:=⟨W.heap.size+1,1,none⟩) (heap_alloc_old V (.cells #[.int .i64 c1,.int .i64 c2] 3) hl2)).trans b1))))
 have HN:=hI (heap_alloc_new V (.cells #[.int .i64 c1,.int .i64 c2] 3))
 clear hc1 hc2 h1 h2 hl1 hl2
 go_enter Tryz.func69,Tryz.ntmps69
 go_upto_region 1 with fail
 go_region_held3 (λw'=>w'.cell? ⟨W.heap.size,0,none⟩=some (.int .i64 x.1)/\w'.cell? ⟨W.heap.size,1,none⟩=some (.int .i64 x.2)/\w'.cell? ⟨W.heap.size+1,0,none⟩=some (.int .i64 y.1)/\w'.cell? ⟨W.heap.size+1,1,none⟩=some (.int .i64 y.2))
  (first | exact ⟨a0,a1,b0,b1⟩ | exact HA.out)
  (first
   | (go_at_call 107;(with_reducible refine (yb x.1 y.1 _).mono ?_);rintro e w9 ⟨rfl,rfl⟩;rw[H1.out])
   | (go_at_call 107;(with_reducible refine (yb x.2 y.2 _).mono ?_);rintro e w9 ⟨rfl,rfl⟩;rw[H2.out])
   | (go_at_call 106;refine (zYf _ c1 c2 _ (by exact (zAp HN.out).1) (by exact (zAp HN.out).2)).mono ?_;rintro e w9 ⟨rfl,rfl⟩;rw[<- HC.out]))
 go_wp2_with fail
 go_ret
 refine ⟨rfl,1,#[.cells #[.int .i64 x.1,.int .i64 x.2] 33]++#[.cells #[.int .i64 y.1,.int .i64 y.2] 33]++#[.cells #[.int .i64 c1,.int .i64 c2] 3],?_⟩
 rw[<- HVg.out,alloc_eq_grow,alloc_eq_grow,alloc_eq_grow,grow_grow,grow_grow]
 rfl
theorem zTv (fv:Value) (w:World):Calls Tryz.prog 68 #[.slice none 0 0,fv] w λe w'=>e=.returned (.tuple #[])/\w'=w:=by
 have h:=AnyF.slices_SortFunc_none YtinkkmlbhkfmnaaGreat.sortRf none 0 fv w
 exact h
theorem zPf {w:World} {base c:Nat} {A:Option Addr} {l:List P2} (h:ROwn w base (.slice A l.length c) l) (hl:l.length<=1000000) :
 Calls Tryz.prog 68 #[.slice A l.length c,.func (.func 69) #[] #[]] w λe w'=>e=.returned (.tuple #[]) /\
  (∀(n:Nat) (w0:World),n<=base->Below n w0 w->Below n w0 w')/\∃l':List P2,l'.Perm l/\(∀i j (hi:i<l'.length) (hj:j<l'.length),i<j->ltS l'[j] l'[i]=false)/\RLies w' A l' :=
 zWw 69 cfP cfP_lt zUc (enters_of Tryz.func69 (by kernel_rfl) rfl) zTv h hl
end
end
section
open Go.RowKit Go.Shelf Go.Lib Go.Sort
section
variable {w w' V:World} {p c l f:Nat} {x y X Y Z:Nat->Prop} {Q Q1:PS} {T:List Fd} {S:LS}
theorem q_new (h:Parts w p c l f Q) (ok:Ok Q):Calls Tryz.prog 30 #[.pointer (some ⟨p,0,none⟩)] w λe w'=>∃A m,∃l':List P2,e=.returned (.slice A l'.length m)/\l'.Perm ((zKq Q.F).map (·.1))/\(∀i j (hi:i<l'.length) (hj:j<l'.length),i<j->ltS l'[j] l'[i]=false)/\RLies w' A l'/\Below w.heap.size w w':=by
 have c8:=h.c8
 have HP:=hI h
 have HL:Hid (Q.F.length<=1000):=hI (by have:=ok.tabs;omega)
 have HA:Hid ((zKq Q.F).length<=1000):=hI (by rw[show zKq Q.F=Q.F.foldl zZd [] from rfl,(yT Q.F []).length_eq];exact HL.out)
 obtain ⟨R,hR⟩:∃R,(zKq Q.F).map (·.1)=R:=⟨_,rfl⟩
 have HRq:=hI hR
 have HRl:Hid (R.length<=1000000):=hI (by rw[<- hR,List.length_map];exact Nat.le_trans HA.out (by decide))
 clear h ok
 rw[hR]
 clear hR
 go_enter Tryz.func30,Tryz.ntmps30
 go_wp2_with (go_at_call 67;(with_reducible refine (zTf HP.out.fresh HL.out).mono ?_);rintro e w2 ⟨A,m,rfl,h1,h2,h3,h4⟩;have HF:=hI h1;have HB:=hI h4;have HS:=hI h4.size;clear h1 h2 h3 h4)
 go_wp2_with (go_at_call 63;have q9:=q_refs A m (zKq Q.F) w2 HF.out HA.out;rw[HRq.out] at q9;(with_reducible refine q9.mono ?_);clear q9;rintro e w3 ⟨A3,m3,rfl,-,-,h3,h4⟩;have HO3:=hI h3;have HB3:=hI h4;clear h3 h4)
 go_wp2_with (go_at_call 68;go_loud ((with_reducible refine (zPf HO3.out HRl.out).mono ?_);rintro e w4 ⟨rfl,hb,l',hp,ho,hr⟩;have HB4:=hI (hb w.heap.size w HS.out (HB.out.trans (HB3.out.mono HS.out)));have HR:=hI (And.intro hp (And.intro ho hr));clear hb hp ho hr))
 go_ret
 refine ⟨A3,m3,l',?_,HR.out.1,HR.out.2.1,HR.out.2.2,HB4.out⟩
 rw[HR.out.1.length_eq]
 rfl
end
end
end Go.Proofs.YtinkkmlbhkfmnaaGreat
