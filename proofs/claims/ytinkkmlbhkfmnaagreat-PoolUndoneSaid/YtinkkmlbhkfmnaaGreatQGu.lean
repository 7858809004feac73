/- A part of what the last text proves: Gu. -/
import Derived.Shelf.SlSortCmp.NoneTotal
import Derived.Test.YtinkkmlbhkfmnaaGreatQGt
import Derived.Test.YtinkkmlbhkfmnaaGreatPSortL
set_option maxRecDepth 100000
set_option maxHeartbeats 8000000
namespace Go.Proofs.YtinkkmlbhkfmnaaGreat
section
open Go.RowKit Go.Shelf Go.Lib Go.Sort
theorem FOwn.plain' {w:World} {base n c:Nat} {q:Option Addr} {l:List Fd} (h:FOwn w base (.slice q n c) l):(q=none->l = []/\c=0)/\∀ad,q=some ad->∃B o,ad=⟨B,o,none⟩:=by
 rcases h.2 with ⟨e,e2⟩ | ⟨g,cap,cur,e,_⟩
 . simp at e
   obtain ⟨rfl,rfl,rfl⟩:=e
   exact ⟨λ_=>⟨List.length_eq_zero_iff.1 e2,rfl⟩,λad e=>(by cases e)⟩
 . simp at e
   obtain ⟨rfl,rfl,rfl⟩:=e
   exact ⟨λe=>(by cases e),λad e=>(by cases e;exact ⟨g,0,rfl⟩)⟩
theorem zZj {w:World} {base c:Nat} {A:Option Addr} {l:List Fd} {n:Nat} (h:FOwn w base (.slice A n c) l) (h0:A≠none):∃g,A=some ⟨g,0,none⟩/\base<=g/\g<w.heap.size/\HoldsK zB 4 w g 0 l.toArray:=by
 rcases h.2 with ⟨e,e2⟩ | ⟨g,cap,cur,e,hb,hg,hc,_,_,ht⟩
 . simp at e
   exact absurd e.1 h0
 . simp at e
   obtain ⟨rfl,rfl,rfl⟩:=e
   refine ⟨g,rfl,hb,qD hg,λj hj=>⟨?_,by simp[World.frozen?,hg]⟩⟩
   rw[size_flatK] at hj
   have hj':j<l.length * 4:=by simpa using hj
   rw[get_flatK _ _ _ _ hj]
   have h1:=zCw l (j / 4) (by omega) (j % 4) (Nat.mod_lt _ (by omega))
   rw[show j / 4 * 4+j % 4=j by omega,<- ht,List.getElem?_take_of_lt (by omega)] at h1
   have h2:j<cur.size:=by
    have h3:=congrArg List.length ht
    rw[List.length_take,zDy,Array.length_toList] at h3
    omega
   have h4:l.toArray[j / 4]! = l[j / 4]'(by omega):=by
    rw[getElem!_pos _ _ (by simpa using (by omega:j / 4<l.length))]
    simp
   rw[h4]
   have h5:(zB (l[j / 4]'(by omega))).length=4:=rfl
   have h6:j % 4<(zB (l[j / 4]'(by omega))).length:=by rw[h5];exact Nat.mod_lt _ (by omega)
   rw[List.getElem?_eq_getElem h6] at h1
   rw[getElem!_pos (zB (l[j / 4]'(by omega))) (j % 4) h6]
   simp only[World.cell?,hg,Nat.zero_add]
   simpa using h1
theorem zJu {w:World} {g:Nat} {d:Array Fd} (h:HoldsK zB 4 w g 0 d) (hg:g<w.heap.size):FLies w (some ⟨g,0,none⟩) d.toList:=λ_=>by
 refine ⟨g,0,rfl,hg,λj hj=>?_⟩
 have hj':j<d.size:=by simpa using hj
 have key:∀r,r<4->w.cell? ⟨g,0+j * 4+r,none⟩=some (zB d[j])[r]! := λr hr=>by
  have h1:=(h (j * 4+r) (by rw[size_flatK];omega)).1
  rw[get_flatK _ _ _ _ (by omega),show (j * 4+r) / 4=j by omega,show (j * 4+r) % 4=r by omega,getElem!_pos d j hj'] at h1
  rw[Nat.add_assoc]
  exact h1
 simp only[Array.getElem_toList]
 exact ⟨key 0 (by omega),key 1 (by omega),key 2 (by omega),key 3 (by omega)⟩
theorem lt_of {cf:Fd->Fd->Int} (hcf:∀x y,cf x y<0↔ltS x.2 y.2=true) (x y:Fd):ltOf cf x y=ltS x.2 y.2:=by
 unfold ltOf
 rw[Bool.eq_iff_iff,decide_eq_true_iff]
 exact hcf x y
theorem swo_of {cf:Fd->Fd->Int} (hcf:∀x y,cf x y<0↔ltS x.2 y.2=true):SWO (ltOf cf) where
 irrefl x:=by rw[lt_of hcf];simpa using zYu x.2
 trans x y z h1 h2:=by rw[lt_of hcf] at *;exact lt_tr h1 h2
 ntrans x y z h1 h2:=by
  rw[lt_of hcf] at *
  cases h3:ltS x.2 z.2 with
  | false=>rfl
  | true =>
   have g1:¬ltS x.2 y.2=true:=by simp[h1]
   have g2:¬ltS y.2 z.2=true:=by simp[h2]
   rw[zFv] at *
   omega
theorem sort_any (g:Nat) (cf:Fd->Fd->Int) (hcf:∀x y,cf x y<0↔ltS x.2 y.2=true) (hclo:∀(x y:Fd) (W:World),Calls Tryz.prog g #[.agg (zB x).toArray,.agg (zB y).toArray] W λe w'=>e=.returned (.int .i64 (cf x y))/\∃q os',w'=grow (W.drewN q) os')
 (eg:∀args w,(callFunc g args).run Tryz.prog w=.ok (.enter g args) w) (hnone:∀(fv:Value) (w:World),Calls Tryz.prog 125 #[.slice none 0 0,fv] w λe w'=>e=.returned (.tuple #[])/\w'=w)
 {w:World} {base c:Nat} {A:Option Addr} {l:List Fd} (h:FOwn w base (.slice A l.length c) l) (hl:l.length<=1000000) :
 Calls Tryz.prog 125 #[.slice A l.length c,.func (.func g) #[] #[]] w λe w'=>e=.returned (.tuple #[]) /\
  (∀(n:Nat) (w0:World),n<=base->Below n w0 w->Below n w0 w')/\∃l':List Fd,l'.Perm l/\(∀i j (hi:i<l'.length) (hj:j<l'.length),i<j->ltS l'[j].2 l'[i].2=false)/\FLies w' A l':=by
 by_cases hA:A=none
 . subst hA
   obtain ⟨rfl,rfl⟩:=h.plain'.1 rfl
   refine (hnone _ w).mono ?_
   rintro e w' ⟨rfl,rfl⟩
   exact ⟨rfl,λ_ _ _ h=>h,[],List.Perm.nil,λi j hi=>absurd hi (Nat.not_lt_zero _),λhn=>absurd hn (Nat.lt_irrefl _)⟩
 obtain ⟨b,rfl,hb,hlt,hH⟩:=zZj h hA
 have hcon:=AnyQ.slices_SortFunc YtinkkmlbhkfmnaaGreat.sortFd 4 (λw=>by kernel_rfl) (λw=>by kernel_rfl) zB (λ_=>rfl) (λx v hv=>by simp[zB] at hv;rcases hv with rfl | rfl | rfl | rfl<;>rfl) cf (swo_of hcf) g #[] b 0 c l.toArray w eg (λ_ _ _ _ x y=>hclo x y _) hH hlt (by simp;omega)
 rw[List.size_toArray] at hcon
 change Calls Tryz.prog 125 _ _ _ at hcon
 refine hcon.mono ?_
 rintro e w' ⟨rfl,d',n,os,hp,hs,rfl⟩
 have hsz:d'.size=l.length:=by simpa using hp.1
 have hHd:HoldsK zB 4 (putRowK zB 4 (Sort.ahead w n) b 0 d') b 0 d':=holdsK_putRowK zB 4 (Sort.ahead w n) b 0 l.toArray d' (λj hj=>hH j hj) (by simpa using hsz)
 have hlt2:b<(putRowK zB 4 (Sort.ahead w n) b 0 d').heap.size:=by rw[size_putRowK];exact hlt
 refine ⟨rfl,λm w0 hm hB=>?_,d'.toList,?_,λi j hi hj hij=>?_,?_⟩
 . have h1:Below m w0 (putRowK zB 4 (Sort.ahead w n) b 0 d'):=⟨hB.os,hB.tape,hB.output,by rw[size_putRowK];exact hB.size,λk hk=>by
    rw[<- hB.block k hk]
    simp[putRowK,putRow,mapBlock,Sort.ahead,Array.getElem?_modify,show b≠k by omega]⟩
   have hm2:m<=(putRowK zB 4 (Sort.ahead w n) b 0 d').heap.size:=by omega
   exact ⟨h1.os,h1.tape,h1.output,Nat.le_trans h1.size (by simp[sortWorldK,grow]),λk hk=>(heap_grow_old _ os (Nat.lt_of_lt_of_le hk hm2)).trans (h1.block k hk)⟩
 . have h2:=hp.2.2
   rw[show l.length=d'.size from hsz.symm,Array.extract_size,hsz] at h2
   simpa using h2
 . have h3:=hs i j (Nat.zero_le _) hij (by simpa[hsz] using hj)
   rw[lt_of hcf,getElem!_pos d' j (by simpa using hj),getElem!_pos d' i (by simpa using hi)] at h3
   simpa using h3
 . refine zJu (λj hj=>?_) (by simpa[sortWorldK,grow] using Nat.lt_of_lt_of_le hlt2 (Nat.le_add_right _ _))
   obtain ⟨a1,a2⟩:=hHd j hj
   exact ⟨(cell?_grow _ os _ hlt2).trans a1,(frozen?_grow _ os _ hlt2).trans a2⟩
end
section
open Go.RowKit Go.Shelf Go.Lib Go.Sort
theorem zPs (x:Int) (w:World):Calls Tryz.prog 138 #[.int .i64 x] w λe w'=>e=.returned (.bool false)/\w'=w:=by
 go_enter Tryz.func138,Tryz.ntmps138
 go_wp2_with fail
 go_ret
 exact ⟨ret_bool (by simp),rfl⟩
theorem yb (x y:Int) (w:World):Calls Tryz.prog 107 #[.int .i64 x,.int .i64 y] w λe w'=>e=.returned (.int .i64 (compareInt x y))/\w'=w:=by
 unfold compareInt
 by_cases h1:x<y
 . rw[if_pos h1]
   go_enter Tryz.func107,Tryz.ntmps107
   go_wp2_with (go_at_call 138;refine (zPs _ _).mono ?_;rintro e w' ⟨rfl,rfl⟩)
   go_ret
   exact ⟨rfl,rfl⟩
 . by_cases h2:x > y
   . rw[if_neg h1,if_pos h2]
     go_enter Tryz.func107,Tryz.ntmps107
     go_wp2_with (go_at_call 138;refine (zPs _ _).mono ?_;rintro e w' ⟨rfl,rfl⟩)
     go_ret
     exact ⟨rfl,rfl⟩
   . rw[if_neg h1,if_neg h2]
     go_enter Tryz.func107,Tryz.ntmps107
     go_wp2_with (go_at_call 138;refine (zPs _ _).mono ?_;rintro e w' ⟨rfl,rfl⟩)
     go_ret
     exact ⟨rfl,rfl⟩
theorem zYf (b:Nat) (x y:Int) (w:World) (h0:w.cell? ⟨b,0,none⟩=some (.int .i64 x)) (h1:w.cell? ⟨b,1,none⟩=some (.int .i64 y)) :
 Calls Tryz.prog 106 #[.slice (some ⟨b,0,none⟩) 2 2] w λe w'=>e=.returned (.int .i64 (if x=0 then y else x))/\w'=w:=by
 by_cases hx:x=0
 . subst hx
   by_cases hy:y=0
   . subst hy
     go_enter Tryz.func106,Tryz.ntmps106
     go_wp2_with fail
     refine wp_loop_rounds 3 ?_
     repeat any_goals (rw[rounds_succ];go_wp2_with fail)
     go_ret
     exact ⟨rfl,rfl⟩
   . have hy2:(y==0)=false:=by simpa using hy
     go_enter Tryz.func106,Tryz.ntmps106
     go_wp2_with fail
     refine wp_loop_rounds 3 ?_
     repeat any_goals (rw[rounds_succ];go_wp2_with fail)
     go_ret
     exact ⟨rfl,rfl⟩
 . have hx2:(x==0)=false:=by simpa using hx
   rw[if_neg hx]
   go_enter Tryz.func106,Tryz.ntmps106
   go_wp2_with fail
   refine wp_loop_rounds 3 ?_
   repeat any_goals (rw[rounds_succ];go_wp2_with fail)
   go_ret
   exact ⟨rfl,rfl⟩
def cfO (x y:Fd):Int:=if compareInt x.2.1 y.2.1=0 then compareInt x.2.2 y.2.2 else compareInt x.2.1 y.2.1
theorem cfO_lt (x y:Fd):cfO x y<0↔ltS x.2 y.2=true:=by
 rw[zFv]
 unfold cfO compareInt
 split<;>split<;>(try split)<;>(try split)<;>omega
theorem zAp {w:World} {g:Nat} {a b:Value} {t:TypeId} (h:w.heap[g]? = some (.cells #[a,b] t (0,0))):w.cell? ⟨g,0,none⟩=some a/\w.cell? ⟨g,1,none⟩=some b:=by
 simp[World.cell?,h]
theorem yAr {w:World} {g:Nat} {a b c d:Value} {t:TypeId} (h:w.heap[g]? = some (.cells #[a,b,c,d] t (0,0))):w.cell? ⟨g,2,none⟩=some c/\w.cell? ⟨g,3,none⟩=some d:=by
 simp[World.cell?,h]
def cfP (x y:P2):Int:=if compareInt x.1 y.1=0 then compareInt x.2 y.2 else compareInt x.1 y.1
theorem cfO_cfP (x y:Fd):cfO x y=cfP x.2 y.2:=rfl
theorem zYe (x y:P2) (W:World):Calls Tryz.prog 127 #[P2V x,P2V y] W λe w'=>e=.returned (.int .i64 (cfP x y))/\∃q os',w'=grow (W.drewN q) os':=by
 obtain ⟨V,hV⟩:∃V,(W.alloc (.cells #[.int .i64 x.1,.int .i64 x.2] 69)).alloc (.cells #[.int .i64 y.1,.int .i64 y.2] 69)=V:=⟨_,rfl⟩
 have HVg:=hI hV
 have h1:V.heap[W.heap.size]? = some (.cells #[.int .i64 x.1,.int .i64 x.2] 69 (0,0)):=by rw[<- hV];exact (qF _ _ (by simp)).trans (heap_alloc_new W _)
 have h2:V.heap[W.heap.size+1]? = some (.cells #[.int .i64 y.1,.int .i64 y.2] 69 (0,0)):=by rw[<- hV];have:=heap_alloc_new (W.alloc (.cells #[.int .i64 x.1,.int .i64 x.2] 69)) (.cells #[.int .i64 y.1,.int .i64 y.2] 69);simpa using this
 obtain ⟨a0,a1⟩:=zAp h1
 obtain ⟨b0,b1⟩:=zAp h2
 have HC:Hid (cfP x y=if compareInt x.1 y.1=0 then compareInt x.2 y.2 else compareInt x.1 y.1):=hI rfl
 generalize cfP x y=r at HC ⊢
 generalize hc1:compareInt x.1 y.1=c1 at HC
 generalize hc2:compareInt x.2 y.2=c2 at HC
 have H1:=hI hc1
 have H2:=hI hc2
 have hl1:=qD h1
 have hl2:=qD h2
 have HA:=hI (And.intro ((World.cell?_of_block (a:=⟨W.heap.size,0,none⟩) (qF V (.cells #[.int .i64 c1,.int .i64 c2] 3) hl1)).trans a0) (And.intro ((World.cell?_of_block (a:=⟨W.heap.size,1,none⟩) (qF V (.cells #[.int .i64 c1,.int .i64 c2] 3) hl1)).trans a1) (And.intro ((World.cell?_of_block (a:=⟨W.heap.size+1,0,none⟩) (qF V (.cells #[.int .i64 c1,.int .i64 c2] 3) hl2)).trans b0) ((World.cell?_of_block (a:=⟨W.heap.size+1,1,none⟩) (qF V (.cells #[.int .i64 c1,.int .i64 c2] 3) hl2)).trans b1))))
 have HN:=hI (heap_alloc_new V (.cells #[.int .i64 c1,.int .i64 c2] 3))
 clear hc1 hc2 h1 h2 hl1 hl2
 go_enter Tryz.func127,Tryz.ntmps127
 go_upto_region 1 with fail
 go_region_held3 (λw'=>w'.cell? ⟨W.heap.size,0,none⟩=some (.int .i64 x.1)/\w'.cell? ⟨W.heap.size,1,none⟩=some (.int .i64 x.2)/\w'.cell? ⟨W.heap.size+1,0,none⟩=some (.int .i64 y.1)/\w'.cell? ⟨W.heap.size+1,1,none⟩=some (.int .i64 y.2))
  (first | exact ⟨a0,a1,b0,b1⟩ | exact HA.out)
  (first
   | (go_at_call 107;(with_reducible refine (yb x.1 y.1 _).mono ?_);rintro e w9 ⟨rfl,rfl⟩;rw[H1.out])
   | (go_at_call 107;(with_reducible refine (yb x.2 y.2 _).mono ?_);rintro e w9 ⟨rfl,rfl⟩;rw[H2.out])
   | (go_at_call 106;refine (zYf _ c1 c2 _ (by exact (zAp HN.out).1) (by exact (zAp HN.out).2)).mono ?_;rintro e w9 ⟨rfl,rfl⟩;rw[<- HC.out]))
 go_wp2_with fail
 go_ret
 refine ⟨rfl,1,#[.cells #[.int .i64 x.1,.int .i64 x.2] 69]++#[.cells #[.int .i64 y.1,.int .i64 y.2] 69]++#[.cells #[.int .i64 c1,.int .i64 c2] 3],?_⟩
 rw[<- HVg.out,alloc_eq_grow,alloc_eq_grow,alloc_eq_grow,grow_grow,grow_grow]
 rfl
theorem clo_any (x y:Fd) (W:World):Calls Tryz.prog 126 #[.agg (zB x).toArray,.agg (zB y).toArray] W λe w'=>e=.returned (.int .i64 (cfO x y))/\∃q os',w'=grow (W.drewN q) os':=by
 obtain ⟨V,hV⟩:∃V,(W.alloc (.cells (zB x).toArray 71)).alloc (.cells (zB y).toArray 71)=V:=⟨_,rfl⟩
 have HVg:=hI hV
 have h1:V.heap[W.heap.size]? = some (.cells (zB x).toArray 71 (0,0)):=by rw[<- hV];exact (qF _ _ (by simp)).trans (heap_alloc_new W _)
 have h2:V.heap[W.heap.size+1]? = some (.cells (zB y).toArray 71 (0,0)):=by rw[<- hV];have:=heap_alloc_new (W.alloc (.cells (zB x).toArray 71)) (.cells (zB y).toArray 71);simpa using this
 obtain ⟨a0,a1⟩:=yAr h1
 obtain ⟨b0,b1⟩:=yAr h2
 clear h1 h2
 rw[cfO_cfP]
 go_enter Tryz.func126,Tryz.ntmps126
 go_wp2_with (go_at_call 127;refine (zYe x.2 y.2 _).mono ?_;rintro e w9 ⟨rfl,q,os',rfl⟩)
 go_ret
 refine ⟨rfl,q,#[.cells (zB x).toArray 71]++#[.cells (zB y).toArray 71]++os',?_⟩
 rw[<- HVg.out,alloc_eq_grow,alloc_eq_grow]
 show grow (grow (grow (W.drewN q) #[.cells (zB x).toArray 71]) #[.cells (zB y).toArray 71]) os'=_
 rw[grow_grow,grow_grow,Array.append_assoc]
theorem zFh (fv:Value) (w:World):Calls Tryz.prog 125 #[.slice none 0 0,fv] w λe w'=>e=.returned (.tuple #[])/\w'=w:=by
 have h:=AnyF.slices_SortFunc_none YtinkkmlbhkfmnaaGreat.sortFd none 0 fv w
 exact h
theorem zHn {w:World} {base c:Nat} {A:Option Addr} {l:List Fd} (h:FOwn w base (.slice A l.length c) l) (hl:l.length<=1000000) :
 Calls Tryz.prog 125 #[.slice A l.length c,.func (.func 126) #[] #[]] w λe w'=>e=.returned (.tuple #[]) /\
  (∀(n:Nat) (w0:World),n<=base->Below n w0 w->Below n w0 w')/\∃l':List Fd,l'.Perm l/\(∀i j (hi:i<l'.length) (hj:j<l'.length),i<j->ltS l'[j].2 l'[i].2=false)/\FLies w' A l' :=
 sort_any 126 cfO cfO_lt clo_any (enters_of Tryz.func126 (by kernel_rfl) rfl) zFh h hl
end
section
open Go.RowKit Go.Maps Go.WideShapes
def yBi (l:List Fd) (w:World) (e:Ending) (w':World):Prop :=
 ∃A c,e=.returned (.slice A l.length c)/\FLies w' A l/\(∀ad,A=some ad->w.heap.size<=ad.block)/\(A=none->l.length=0/\c=0)/\Below w.heap.size w w'
theorem all1_any (s:P2) (W:World):Calls Tryz.prog 103 #[P2V s] W λe w'=>e=.returned (.bool true)/\w'=W.alloc (.cells #[.int .i64 s.1,.int .i64 s.2] 69):=by
 go_enter Tryz.func103,Tryz.ntmps103
 go_wp2_with fail
 go_ret
 exact ⟨rfl,rfl⟩
theorem in1_any (b:Int) (g:Nat) (s:P2) (W:World) (hg:W.heap[g]? = some (.cells #[.int .i64 b] 3 (0,0))):Calls Tryz.prog 194 #[P2V s,.pointer (some ⟨g,0,none⟩)] W λe w'=>e=.returned (.bool (s.1==b))/\w'=W.alloc (.cells #[.int .i64 s.1,.int .i64 s.2] 69):=by
 have hl:=qD hg
 have h1:=(qF W (.cells #[.int .i64 s.1,.int .i64 s.2] 69) hl).trans hg
 have c0:(W.alloc (.cells #[.int .i64 s.1,.int .i64 s.2] 69)).cell? ⟨g,0,none⟩=some (.int .i64 b):=by simp[World.cell?,h1]
 clear h1 hg
 go_enter Tryz.func194,Tryz.ntmps194
 go_wp2_with fail
 go_ret
 exact ⟨rfl,rfl⟩
section
variable {w w':World} {p:Nat} {x y:Nat->Prop} {T:List Fd}
theorem zUu (h:Tab w p x T) (hl:T.length<=1000):Calls Tryz.prog 102 #[.pointer (some ⟨p,0,none⟩),.func (.func 103) #[] #[]] w (yBi (zKq T) w):=by
 have HG:=hI h.gwf.2
 have HN:=hI h.wf.spots
 rcases h.cases with ⟨rfl,h1,-⟩ | ⟨bb,c,h1,h2,h3,h4,h5,h6,h7,h8,h9⟩
 . obtain ⟨d0,d1,-,-⟩:=qG h1
   have hr:=λw:World=>run_range_nilMap (P:=Tryz.prog) w 137 _ _ mt_refs.ht
   have hn:=λw:World=>run_next_nilMap (P:=Tryz.prog) w
   clear h h1 HG HN hl
   go_enter Tryz.func102,Tryz.ntmps102
   go_wp2_with fail
   refine wp_loop_rounds 1 ?_
   repeat any_goals (rw[rounds_succ];go_wp2_with (go_at_call 125;refine (zFh _ _).mono ?_;rintro e w9 ⟨rfl,rfl⟩))
   go_ret
   exact ⟨none,0,rfl,(λhn=>absurd hn (Nat.lt_irrefl _)),(λ_ e=>nomatch e),(λ_=>⟨rfl,rfl⟩),bR.alloc nL _⟩
 obtain ⟨d0,d1,-,-⟩:=qG h1
 have HM:=hI h3
 have hcl:=h3.lt
 clear h h1 h2 h3 h4 h5 h6 h7 h8 h9
 go_enter Tryz.func102,Tryz.ntmps102
 go_wp2_with (at_range;refine zJc mt_refs rfl _ rfl rfl HM.out HG.out ?_;intro w1 hr1 hg1 hs1)
 go_frame
 have hb1:Below w.heap.size w w1:=⟨hg1.os,hg1.tape,hg1.output,hg1.size,λi hi=>hg1.block i hi (by simp)⟩
 have HB1:=hI hb1
 have HR1:=hI hr1
 have hsz1:w.heap.size+1<=w1.heap.size:=by omega
 clear hb1 hr1 hg1 hs1
 go_loopw [5] (λv3 wr=>∃(S L:List Fd) (cnt:Nat),RgS 69 Prod.snd Prod.fst wr c w.heap.size T S cnt/\L.Perm S/\FOwn wr (w.heap.size+1) v3 L/\Below w.heap.size w wr/\w.heap.size+1<=wr.heap.size) (λ_ wr=>wr.rangeLeft c w.heap.size)
 case atStart=>exact ⟨[],[],_,HR1.out,List.Perm.nil,zSk _ _,HB1.out,hsz1⟩
 case round =>
  obtain ⟨S,L,cnt,hr,hp,hO,hB,hsz⟩:=hrel
  have HR:=hI hr
  have HB:=hI hB
  have HO:=hI hO
  have HP:=hI hp
  have hL:L.length<=1000:=by rw[hp.length_eq];exact Nat.le_trans nL (Nat.le_trans hr.len hl)
  clear hr hB hO hp
  obtain ⟨q,cap,rfl,-⟩:=qN HO.out
  go_wp2_with (first
   | (at_next;refine zOr mt_refs rfl _ rfl rfl HR.out HN.out HG.out (λhp=>?_) (λf w2 cnt2 hf hr2 hlt hg2 hs2 hen =>
    have HB2:Hid (Below w.heap.size wr w2):=hI ⟨hg2.os,hg2.tape,hg2.output,hg2.size,λi hi=>hg2.block i (by omega) (by simp;omega)⟩
    have HO2:Hid (FOwn w2 (w.heap.size+1) (.slice q L.length cap) L):=hI (vS HO.out λk e=>hg2.block k (World.ownsRow.lt HO.out k e).2 (by have:=(World.ownsRow.lt HO.out k e).1;simp;omega))
    have HR2:=hI hr2
    ?_))
   | (go_at_call 103;refine (all1_any f.2 _).mono ?_;rintro e w5 ⟨rfl,rfl⟩)
   | (go_at_call 125;refine (zHn HO.out (by omega)).mono ?_;rintro e w9 ⟨rfl,hb9,l9,hp9,hs9,hf9⟩)
   | (at_builtin;refine yi rfl _ _ rfl (w.heap.size+1) (.slice q L.length cap) L [f] (some ⟨wr.heap.size+1+1+1,0,none⟩) 1 rfl rfl (zGb HO2.out (((bR.alloc nL _).alloc (by simp) _ |>.alloc (by simp;omega) _) |>.alloc (by simp;omega) _)) (zGa _ f (by simp[hs2])) (by simp) (by simp;omega) (by simp;omega) ?_;intro q3 cap3 w3 h3 hg3))
  . go_ret
    have e9:l9=zKq T:=all_of HN.out (hp9.trans (HP.out.trans hp)) hs9
    have e8:(zKq T).length=L.length:=by rw[<- e9,hp9.length_eq]
    exact ⟨q,cap,by rw[e8];rfl,e9 ▸ hf9,λad e=>Nat.le_of_succ_le (HO.out.lies.2.2.1 ad e),λe=>⟨by rw[e8,(HO.out.plain'.1 e).1];rfl,(HO.out.plain'.1 e).2⟩,hb9 _ _ (Nat.le_succ _) HB.out⟩
  . have hO3:FOwn w3 (w.heap.size+1) (.slice q3 (L.length+1) cap3) (L++[f]):=by simpa using h3
    have hsz3:=hg3.size
    simp only[World.size_alloc] at hsz3
    have hr3:=((((HR2.out.kept (World.grownBy_alloc w2 _ none) (by simp) (by simp)).kept (World.grownBy_alloc _ _ none) (by simp) (by simp)).kept (World.grownBy_alloc _ _ none) (by simp) (by simp)).kept (World.grownBy_alloc _ _ none) (by simp) (by simp)).kept hg3 (λe=>by have:=(World.ownsRow.lt HO.out _ e.symm).1;omega) (λe=>by have:=(World.ownsRow.lt HO.out _ e.symm).1;omega)
    have hb3:=(((((HB.out.trans HB2.out).alloc (by omega) _).alloc (by simp;omega) _).alloc (by simp;omega) _).alloc (by simp;omega) _).grown hg3 (by simp;omega) λk e=>Nat.le_of_succ_le (World.ownsRow.lt HO.out k e).1
    exact ⟨⟨f::S,L++[f],cnt2,hr3,List.perm_append_comm.trans (HP.out.cons f),hO3,hb3,by omega⟩,by rw[hr3.left,HR.out.left];exact hlt⟩
theorem zZt (b:Int) (g:Nat) (h:Tab w p x T) (hl:T.length<=1000) (hg:w.heap[g]? = some (.cells #[.int .i64 b] 3 (0,0))):Calls Tryz.prog 102 #[.pointer (some ⟨p,0,none⟩),.func (.func 194) #[] #[.pointer (some ⟨g,0,none⟩)]] w (yBi (inT T b) w):=by
 have HG:=hI h.gwf.2
 have HN:=hI h.wf.spots
 have HC:=hI hg
 have hgl:=qD hg
 clear hg
 rcases h.cases with ⟨rfl,h1,-⟩ | ⟨bb,c,h1,h2,h3,h4,h5,h6,h7,h8,h9⟩
 . obtain ⟨d0,d1,-,-⟩:=qG h1
   have hr:=λw:World=>run_range_nilMap (P:=Tryz.prog) w 137 _ _ mt_refs.ht
   have hn:=λw:World=>run_next_nilMap (P:=Tryz.prog) w
   clear h h1 HG HN hl
   go_enter Tryz.func102,Tryz.ntmps102
   go_wp2_with fail
   refine wp_loop_rounds 1 ?_
   repeat any_goals (rw[rounds_succ];go_wp2_with (go_at_call 125;refine (zFh _ _).mono ?_;rintro e w9 ⟨rfl,rfl⟩))
   go_ret
   exact ⟨none,0,rfl,(λhn=>absurd hn (Nat.lt_irrefl _)),(λ_ e=>nomatch e),(λ_=>⟨rfl,rfl⟩),bR.alloc nL _⟩
 obtain ⟨d0,d1,-,-⟩:=qG h1
 have HM:=hI h3
 have hcl:=h3.lt
 clear h h1 h2 h3 h4 h5 h6 h7 h8 h9
 go_enter Tryz.func102,Tryz.ntmps102
 go_wp2_with (at_range;refine zJc mt_refs rfl _ rfl rfl HM.out HG.out ?_;intro w1 hr1 hg1 hs1)
 go_frame
 have hb1:Below w.heap.size w w1:=⟨hg1.os,hg1.tape,hg1.output,hg1.size,λi hi=>hg1.block i hi (by simp)⟩
 have HB1:=hI hb1
 have HR1:=hI hr1
 have hsz1:w.heap.size+1<=w1.heap.size:=by omega
 clear hb1 hr1 hg1 hs1
 go_loopw [5] (λv3 wr=>∃(S L:List Fd) (cnt:Nat),RgS 69 Prod.snd Prod.fst wr c w.heap.size T S cnt/\L.Perm (S.filter λf=>f.2.1==b)/\FOwn wr (w.heap.size+1) v3 L/\Below w.heap.size w wr/\w.heap.size+1<=wr.heap.size) (λ_ wr=>wr.rangeLeft c w.heap.size)
 case atStart=>exact ⟨[],[],_,HR1.out,List.Perm.nil,zSk _ _,HB1.out,hsz1⟩
 case round =>
  obtain ⟨S,L,cnt,hr,hp,hO,hB,hsz⟩:=hrel
  have HR:=hI hr
  have HB:=hI hB
  have HO:=hI hO
  have HP:=hI hp
  have hL:L.length<=1000:=by rw[hp.length_eq];exact Nat.le_trans (List.length_filter_le _ _) (Nat.le_trans hr.len hl)
  clear hr hB hO hp
  obtain ⟨q,cap,rfl,-⟩:=qN HO.out
  go_wp2_with (first
   | (at_next;refine zOr mt_refs rfl _ rfl rfl HR.out HN.out HG.out (λhp=>?_) (λf w2 cnt2 hf hr2 hlt hg2 hs2 hen =>
    have HB2:Hid (Below w.heap.size wr w2):=hI ⟨hg2.os,hg2.tape,hg2.output,hg2.size,λi hi=>hg2.block i (by omega) (by simp;omega)⟩
    have HO2:Hid (FOwn w2 (w.heap.size+1) (.slice q L.length cap) L):=hI (vS HO.out λk e=>hg2.block k (World.ownsRow.lt HO.out k e).2 (by have:=(World.ownsRow.lt HO.out k e).1;simp;omega))
    have HR2:=hI hr2
    ?_))
   | (go_at_call 194;refine (in1_any b g f.2 _ ((qF _ _ (by simp;omega)).trans ((qF _ _ (by omega)).trans ((HB2.out.block g hgl).trans ((HB.out.block g hgl).trans HC.out))))).mono ?_;rintro e w5 ⟨rfl,rfl⟩)
   | (go_at_call 125;refine (zHn HO.out (by omega)).mono ?_;rintro e w9 ⟨rfl,hb9,l9,hp9,hs9,hf9⟩)
   | (at_builtin;refine yi rfl _ _ rfl (w.heap.size+1) (.slice q L.length cap) L [f] (some ⟨wr.heap.size+1+1+1,0,none⟩) 1 rfl rfl (zGb HO2.out (((bR.alloc nL _).alloc (by simp) _ |>.alloc (by simp;omega) _) |>.alloc (by simp;omega) _)) (zGa _ f (by simp[hs2])) (by simp) (by simp;omega) (by simp;omega) ?_;intro q3 cap3 w3 h3 hg3))
  . go_ret
    have e9:l9=inT T b:=in_of HN.out (hp9.trans (HP.out.trans (hp.filter _))) hs9
    have e8:(inT T b).length=L.length:=by rw[<- e9,hp9.length_eq]
    exact ⟨q,cap,by rw[e8];rfl,e9 ▸ hf9,λad e=>Nat.le_of_succ_le (HO.out.lies.2.2.1 ad e),λe=>⟨by rw[e8,(HO.out.plain'.1 e).1];rfl,(HO.out.plain'.1 e).2⟩,hb9 _ _ (Nat.le_succ _) HB.out⟩
  . have hO3:FOwn w3 (w.heap.size+1) (.slice q3 (L.length+1) cap3) (L++[f]):=by simpa using h3
    have hsz3:=hg3.size
    simp only[World.size_alloc] at hsz3
    have hr3:=((((HR2.out.kept (World.grownBy_alloc w2 _ none) (by simp) (by simp)).kept (World.grownBy_alloc _ _ none) (by simp) (by simp)).kept (World.grownBy_alloc _ _ none) (by simp) (by simp)).kept (World.grownBy_alloc _ _ none) (by simp) (by simp)).kept hg3 (λe=>by have:=(World.ownsRow.lt HO.out _ e.symm).1;omega) (λe=>by have:=(World.ownsRow.lt HO.out _ e.symm).1;omega)
    have hb3:=(((((HB.out.trans HB2.out).alloc (by omega) _).alloc (by simp;omega) _).alloc (by simp;omega) _).alloc (by simp;omega) _).grown hg3 (by simp;omega) λk e=>Nat.le_of_succ_le (World.ownsRow.lt HO.out k e).1
    refine ⟨⟨f::S,L++[f],cnt2,hr3,?_,hO3,hb3,by omega⟩,by rw[hr3.left,HR.out.left];exact hlt⟩
    rw[List.filter_cons,if_pos (by simp[*])]
    exact List.perm_append_comm.trans (HP.out.cons f)
  . have hr3:=((HR2.out.kept (World.grownBy_alloc w2 (.cells #[.int .i64 f.2.1,.int .i64 f.2.2] 69) none) (by simp) (by simp)).kept (World.grownBy_alloc _ (.cells #[.int .i64 f.1.1,.int .i64 f.1.2] 33) none) (by simp) (by simp)).kept (World.grownBy_alloc _ (.cells #[.int .i64 f.2.1,.int .i64 f.2.2] 69) none) (by simp) (by simp)
    refine ⟨⟨f::S,L,cnt2,hr3,?_,zGb HO2.out (((bR.alloc nL _).alloc (by simp) _).alloc (by simp;omega) _),(((HB.out.trans HB2.out).alloc (by omega) _).alloc (by simp;omega) _).alloc (by simp;omega) _,by simp;omega⟩,by rw[hr3.left,HR.out.left];exact hlt⟩
    rw[List.filter_cons,if_neg (by simp[*])]
    exact HP.out
theorem zTf (h:Tab w p x T) (hl:T.length<=1000):Calls Tryz.prog 67 #[.pointer (some ⟨p,0,none⟩)] w (yBi (zKq T) w):=by
 go_enter Tryz.func67,Tryz.ntmps67
 go_wp2_with (go_at_call 102;refine (zUu h hl).mono ?_;rintro e w9 ⟨A,c,rfl,h1,h2,h2b,h3⟩)
 go_ret
 exact ⟨A,c,rfl,h1,h2,h2b,h3⟩
theorem zZh (b:Int) (h:Tab w p x T) (hl:T.length<=1000) (_hb:(Lit.int .i64 b).wf=true):Calls Tryz.prog 182 #[.pointer (some ⟨p,0,none⟩),.int .i64 b] w (yBi (inT T b) w):=by
 have h0:=heap_alloc_new w (.cells #[.int .i64 b] 3)
 have hb0:Below w.heap.size w (w.alloc (.cells #[.int .i64 b] 3)):=bR.alloc nL _
 have HT:=hI (h.below hb0)
 clear h
 go_enter Tryz.func182,Tryz.ntmps182
 go_wp2_with (go_at_call 102;refine (zZt b w.heap.size HT.out hl h0).mono ?_;rintro e w9 ⟨A,c,rfl,h1,h2,h2b,h3⟩)
 go_ret
 exact ⟨A,c,rfl,h1,λad e=>Nat.le_trans (by simp) (h2 ad e),h2b,hb0.trans (h3.mono (by simp))⟩
end
end
end Go.Proofs.YtinkkmlbhkfmnaaGreat
