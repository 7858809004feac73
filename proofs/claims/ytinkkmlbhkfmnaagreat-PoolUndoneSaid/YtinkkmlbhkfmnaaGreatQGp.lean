/- A part of what the last text proves: Gp. -/
import Derived.Deep.SlicePairs
import Derived.Deep.Matrix
import Derived.WideShapes
import Derived.ChangeSlices
import Derived.ChangeArms
import Derived.ProofKit
import Derived.OpenShut
import Derived.Test.YtinkkmlbhkfmnaaGreatQGa
set_option maxRecDepth 100000
set_option maxHeartbeats 8000000
namespace Go.Proofs.YtinkkmlbhkfmnaaGreat
section
open Go.RowKit Go.ChangeShapes Go.WideShapes
theorem zGo:Tryz.prog.cellsOf 3=1:=by kernel_rfl
theorem zIv:Tryz.prog.cellsOf 5=1:=by kernel_rfl
theorem zGp:Tryz.prog.cellsOf 34=1:=by kernel_rfl
theorem zId {w:World} {a:Addr} {v:Value} (h:w.cell? a=some v):a.block<w.heap.size:=by
 rcases Nat.lt_or_ge a.block w.heap.size with h' | h'
 . exact h'
 . simp[World.cell?,Array.getElem?_eq_none h'] at h
theorem ub_of {z:Int} (h:(Lit.int .u8 z).wf=true):Value.int .u8 z=ub (UInt8.ofNat z.toNat):=by
 have h0:IntKind.min .u8=0:=by decide
 have h1:IntKind.max .u8=255:=by decide
 simp[Lit.wf,h0,h1] at h
 have:=zEn z.toNat (by omega)
 unfold qX at this
 rw[this]
 congr 1;omega
theorem rb_of {w:World} {A:Option Addr} {zs:List Int} {len:Nat} (hl:len<=zs.length) (hw:∀n∈zs,(Lit.int .u8 n).wf=true) (hc:∀a,A=some a->∀i,i<zs.length->w.cell? (a.add i)=some (.int .u8 (zs.getD i 0))) (hA:A=none->zs.length=0) :
 RB w w.heap.size A ((zs.take len).map λz=>UInt8.ofNat z.toNat):=λhn=>by
 have hn':0<zs.length:=by simp at hn;omega
 rcases A with _ | a
 . have:=hA rfl;omega
 . have h0:=hc a rfl 0 hn'
   refine ⟨a,rfl,by have:=zId h0;rwa [vH] at this,λj hj=>?_⟩
   have hj':j<zs.length:=by simp at hj;omega
   rw[hc a rfl j hj',List.getElem_map,List.getElem_take]
   have e:zs.getD j 0=zs[j]:=by simp[List.getD,hj']
   rw[e,ub_of (hw _ (List.getElem_mem hj'))]
def Row {α : Type} (enc : α -> Value) (w:World) (sv:Value) (zs:List α):Prop :=
 (sv=.slice none 0 0/\zs = [])\/∃ad cap,sv=.slice (some ad) zs.length cap/\∀j (h:j<zs.length),w.cell? (ad.add j)=some (enc zs[j])
end
section
open Go.RowKit Go.ChangeShapes Go.WideShapes
theorem yAq:Tryz.prog.cellsOf 23=5:=by kernel_rfl
theorem zRo {H:Type} {enc:TypeId × Value->H} {W:World} {r:Reach} {b0:Nat} {v:Value} {d:DataW H} {p:List MemPlace} (hv:Value.okWide Tryz.prog W r b0 23 v) (h:DataW.Trod enc Tryz.prog W 0 (λ_=>true) true 23 v d p) :
 ∃(B P S D U:Int),v=.agg #[.int .i64 B,.int .i64 P,.int .i64 S,.int .i64 D,.int .i64 U]/\(Lit.int .i64 B).wf=true/\(Lit.int .i64 P).wf=true/\(Lit.int .i64 S).wf=true/\(Lit.int .i64 D).wf=true/\(Lit.int .i64 U).wf=true:=by
 obtain ⟨cs,rfl,hsz⟩:=okWide_struct Tryz.underlying23 hv
 rw[yAq] at hsz
 obtain ⟨fuel,hf⟩:=h
 obtain ⟨l,rfl⟩:∃l:List Value,cs=l.toArray:=⟨cs.toList,by simp⟩
 match l,hsz with
 | [a,b,c,e,f],_ =>
  obtain ⟨xs,n,_,_,_,hlen,hx⟩:=DataW.trod_struct Tryz.underlying23 hf
  have get:∀i,i<5->∃y,xs[i]? = some y:=λi hi=>⟨xs[i]'(by rw[hlen];exact hi),List.getElem?_eq_getElem _⟩
  have h0:=hx 0 _ rfl
  have h1:=hx 1 _ rfl
  have h2:=hx 2 _ rfl
  have h3:=hx 3 _ rfl
  have h4:=hx 4 _ rfl
  obtain ⟨y0,g0⟩:=get 0 (by omega)
  obtain ⟨y1,g1⟩:=get 1 (by omega)
  obtain ⟨y2,g2⟩:=get 2 (by omega)
  obtain ⟨y3,g3⟩:=get 3 (by omega)
  obtain ⟨y4,g4⟩:=get 4 (by omega)
  rw[g0] at h0
  rw[g1] at h1
  rw[g2] at h2
  rw[g3] at h3
  rw[g4] at h4
  obtain ⟨x0,e0,_,w0⟩:=DataW.trod_int Tryz.underlying3 h0
  obtain ⟨x1,e1,_,w1⟩:=DataW.trod_int Tryz.underlying3 h1
  obtain ⟨x2,e2,_,w2⟩:=DataW.trod_int Tryz.underlying3 h2
  obtain ⟨x3,e3,_,w3⟩:=DataW.trod_int Tryz.underlying3 h3
  obtain ⟨x4,e4,_,w4⟩:=DataW.trod_int Tryz.underlying3 h4
  simp[zGo,Value.cells] at e0 e1 e2 e3 e4
  subst e0 e1 e2 e3 e4
  exact ⟨x0,x1,x2,x3,x4,rfl,w0,w1,w2,w3,w4⟩
end
section
open Go.RowKit
def zEm (B P S D U:Int):Prop:=(3<=B/\B<=64)/\(2<=P/\P<=32)/\(0<=S/\S<=6)/\(1<=D/\D<=60)/\2<=U/\U<=50
instance (B P S D U:Int):Decidable (zEm B P S D U):=by unfold zEm;infer_instance
def vK (B P S D U:Int):Int:=if zEm B P S D U then D+8 else 0
def qq (B P S D U bad:Int):Int:=if zEm B P S D U/\0<=bad/\bad<=B then (if 0<B - bad - S - 1 then (B - bad - S - 1) * P else 0) else 0
def yZ (B P S D U bad:Int):Prop:=zEm B P S D U/\(0<=bad/\bad<=B)/\vK B P S D U<=qq B P S D U bad
instance (B P S D U bad:Int):Decidable (yZ B P S D U bad):=by unfold yZ;infer_instance
def zAj (B P S D U b:Int):Int:=if zEm B P S D U/\0<=b then (if b<=S then S - b+1 else 0) else 0
theorem qe {w:World} {q:Nat} {a b c d e:Value} {t:TypeId} (h:w.heap[q]? = some (.cells #[a,b,c,d,e] t (0,0))):w.cell? ⟨q,0,none⟩=some a/\w.cell? ⟨q,1,none⟩=some b/\w.cell? ⟨q,2,none⟩=some c/\w.cell? ⟨q,3,none⟩=some d/\w.cell? ⟨q,4,none⟩=some e:=by
 simp[World.cell?,h]
theorem vO (a b c:Int) (w:World) :
 Calls Tryz.prog 139 #[.int .i64 a,.int .i64 b,.int .i64 c] w λe w'=>e=.returned (.bool (decide (b<=a/\a<=c)))/\w=w':=by
 go_enter Tryz.func139,Tryz.ntmps139
 go_wp2
 . have h:b<=a:=by assumption
   go_ret
   exact ⟨ret_bool (by simp[h]),rfl⟩
 . have h:a<b:=by assumption
   go_ret
   exact ⟨ret_bool (by simp;omega),rfl⟩
theorem vo (B P S D U:Int) (w:World) :
 Calls Tryz.prog 109 #[.agg #[.int .i64 B,.int .i64 P,.int .i64 S,.int .i64 D,.int .i64 U]] w λe w'=>e=.returned (.bool (decide (zEm B P S D U)))/\Below w.heap.size w w':=by
 have hb0:=(Below.refl w.heap.size w).alloc nL (.cells #[.int .i64 B,.int .i64 P,.int .i64 S,.int .i64 D,.int .i64 U] 23)
 by_cases h1:3<=B/\B<=64
 case neg =>
  have H1:=hI h1
  clear h1
  go_enter Tryz.func109,Tryz.ntmps109
  go_wp2_with (go_at_call 139;refine (vO _ _ _ _).mono ?_;rintro e w' ⟨rfl,rfl⟩;rw[decide_eq_false H1.out])
  go_ret
  exact ⟨ret_bool (decide_eq_false λh=>H1.out h.1).symm,hb0⟩
 by_cases h2:2<=P/\P<=32
 case neg =>
  have H1:=hI h1
  have H2:=hI h2
  clear h1 h2
  go_enter Tryz.func109,Tryz.ntmps109
  go_wp2_with (go_at_call 139;refine (vO _ _ _ _).mono ?_;rintro e w' ⟨rfl,rfl⟩;first | rw[decide_eq_true H1.out] | rw[decide_eq_false H2.out])
  go_ret
  exact ⟨ret_bool (decide_eq_false λh=>H2.out h.2.1).symm,hb0⟩
 by_cases h3:0<=S/\S<=6
 case neg =>
  have H1:=hI h1
  have H2:=hI h2
  have H3:=hI h3
  clear h1 h2 h3
  go_enter Tryz.func109,Tryz.ntmps109
  go_wp2_with (go_at_call 139;refine (vO _ _ _ _).mono ?_;rintro e w' ⟨rfl,rfl⟩;first | rw[decide_eq_true H1.out] | rw[decide_eq_true H2.out] | rw[decide_eq_false H3.out])
  go_ret
  exact ⟨ret_bool (decide_eq_false λh=>H3.out h.2.2.1).symm,hb0⟩
 by_cases h4:1<=D/\D<=60
 case neg =>
  have H1:=hI h1
  have H2:=hI h2
  have H3:=hI h3
  have H4:=hI h4
  clear h1 h2 h3 h4
  go_enter Tryz.func109,Tryz.ntmps109
  go_wp2_with (go_at_call 139;refine (vO _ _ _ _).mono ?_;rintro e w' ⟨rfl,rfl⟩;first | rw[decide_eq_true H1.out] | rw[decide_eq_true H2.out] | rw[decide_eq_true H3.out] | rw[decide_eq_false H4.out])
  go_ret
  exact ⟨ret_bool (decide_eq_false λh=>H4.out h.2.2.2.1).symm,hb0⟩
 by_cases h5:2<=U/\U<=50
 all_goals
  have H1:=hI h1
  have H2:=hI h2
  have H3:=hI h3
  have H4:=hI h4
  have H5:=hI h5
  clear h1 h2 h3 h4 h5
  go_enter Tryz.func109,Tryz.ntmps109
  go_wp2_with (go_at_call 139;refine (vO _ _ _ _).mono ?_;rintro e w' ⟨rfl,rfl⟩;first | rw[decide_eq_true H1.out] | rw[decide_eq_true H2.out] | rw[decide_eq_true H3.out] | rw[decide_eq_true H4.out] | rw[decide_eq_true H5.out] | rw[decide_eq_false H5.out])
  go_ret
  refine ⟨ret_bool ?_,hb0⟩
  symm
  simp[zEm,H1.out,H2.out,H3.out,H4.out,H5.out]
theorem vT (B P S D U:Int) (w:World) :
 Calls Tryz.prog 38 #[.agg #[.int .i64 B,.int .i64 P,.int .i64 S,.int .i64 D,.int .i64 U]] w λe w'=>e=.returned (.bool (decide (zEm B P S D U)))/\Below w.heap.size w w':=by
 have hb0:=(Below.refl w.heap.size w).alloc nL (.cells #[.int .i64 B,.int .i64 P,.int .i64 S,.int .i64 D,.int .i64 U] 23)
 go_enter Tryz.func38,Tryz.ntmps38
 go_wp2
 all_goals go_ret
 all_goals
  refine ⟨ret_bool ?_,hb0⟩
  by_cases hM:zEm B P S D U
  . rw[decide_eq_true hM];obtain ⟨⟨_,_⟩,⟨_,_⟩,⟨_,_⟩,⟨_,_⟩,_,_⟩:=hM;first | rfl | (exfalso;omega) | (rw[decide_eq_true];assumption)
  . first | (rw[decide_eq_false hM];done) | (rw[decide_eq_false hM];rw[decide_eq_false];exact λh=>hM ⟨⟨by assumption,by assumption⟩,⟨by assumption,by assumption⟩,⟨by assumption,by assumption⟩,⟨by assumption,by assumption⟩,by assumption,h⟩)
theorem zOu {x:Int} (h:(Lit.int .i64 x).wf=true) : -9223372036854775808<=x/\x<=9223372036854775807:=by
 have h0:IntKind.min .i64 = -9223372036854775808:=by decide
 have h1:IntKind.max .i64=9223372036854775807:=by decide
 simpa[Lit.wf,h0,h1] using h
end
section
open Go.RowKit
theorem qi (n:Int) (h : -9223372036854775808<=n/\n<=9223372036854775807):wrap64 n=n:=by unfold wrap64;omega
theorem zYn (B P S D U:Int) (w:World) :
 Calls Tryz.prog 124 #[.agg #[.int .i64 B,.int .i64 P,.int .i64 S,.int .i64 D,.int .i64 U]] w λe w'=>e=.returned (.int .i64 (vK B P S D U))/\Below w.heap.size w w':=by
 have hb0:=(Below.refl w.heap.size w).alloc nL (.cells #[.int .i64 B,.int .i64 P,.int .i64 S,.int .i64 D,.int .i64 U] 23)
 by_cases hM:zEm B P S D U
 . have HM:=hI hM
   have hd:=hM.2.2.2.1
   clear hM
   go_enter Tryz.func124,Tryz.ntmps124
   go_wp2_with (go_at_call 109;refine (vo _ _ _ _ _ _).mono ?_;rintro e w1 ⟨rfl,hb⟩;rw[decide_eq_true HM.out];obtain ⟨_,_,_,k3,_⟩:=qe ((hb.block w.heap.size (by simp)).trans (heap_alloc_new w _));have HB:=hI (hb0.trans (hb.mono (by simp)));clear hb)
   go_ret
   exact ⟨ret_int (by unfold vK;rw[if_pos HM.out];omega),HB.out⟩
 . have HM:=hI hM
   clear hM
   go_enter Tryz.func124,Tryz.ntmps124
   go_wp2_with (go_at_call 109;refine (vo _ _ _ _ _ _).mono ?_;rintro e w1 ⟨rfl,hb⟩;rw[decide_eq_false HM.out];obtain ⟨_,_,_,_,_⟩:=qe ((hb.block w.heap.size (by simp)).trans (heap_alloc_new w _));have HB:=hI (hb0.trans (hb.mono (by simp)));clear hb)
   go_ret
   exact ⟨ret_int (by unfold vK;rw[if_neg HM.out]),HB.out⟩
theorem zXc (B P S D U bad:Int) (w:World) (hbd:(Lit.int .i64 bad).wf=true) :
 Calls Tryz.prog 123 #[.agg #[.int .i64 B,.int .i64 P,.int .i64 S,.int .i64 D,.int .i64 U],.int .i64 bad] w λe w'=>e=.returned (.int .i64 (qq B P S D U bad))/\Below w.heap.size w w':=by
 have hb0:=(Below.refl w.heap.size w).alloc nL (.cells #[.int .i64 B,.int .i64 P,.int .i64 S,.int .i64 D,.int .i64 U] 23)
 have hbd1:=zOu hbd
 have HR:=hI (show qq B P S D U bad=qq B P S D U bad from rfl)
 by_cases hM:zEm B P S D U
 . have HM:=hI hM
   have hB:=hM.1
   have hP:=hM.2.1
   have hS:=hM.2.2.1
   clear hM
   by_cases h2:0<=bad/\bad<=B
   . have H2:=hI h2
     by_cases h3:0<B - bad - S - 1
     . have hp0:0<(B - bad - S - 1) * P:=Int.mul_pos (by omega) (by omega)
       have hp1:(B - bad - S - 1) * P<=64 * 32:=Int.mul_le_mul (by omega) (by omega) (by omega) (by omega)
       have e:qq B P S D U bad=(B - bad - S - 1) * P:=by unfold qq;rw[if_pos ⟨HM.out,h2⟩,if_pos h3]
       have E:=hI e
       clear e
       go_enter Tryz.func123,Tryz.ntmps123
       go_wp2_with (first | (go_at_call 109;refine (vo _ _ _ _ _ _).mono ?_;rintro e w1 ⟨rfl,hb⟩;rw[decide_eq_true HM.out];obtain ⟨k0,k1,k2,k3,k4⟩:=qe ((hb.block w.heap.size (by simp)).trans (heap_alloc_new w _));have HB:=hI (hb0.trans (hb.mono (by simp)));clear hb) | (go_at_call 139;refine (vO _ _ _ _).mono ?_;rintro e w' ⟨rfl,rfl⟩;rw[decide_eq_true H2.out]))
       all_goals
        go_ret
        exact ⟨ret_int (by refine Eq.trans ?_ E.out.symm;have hw:=qi ((B - bad - S - 1) * P) (by omega);first | rfl | exact qi 0 (by decide) | (rw[hw];done) | (rw[hw];omega) | omega | (obtain h0 | h0:B - bad - S - 1=0\/B - bad - S - 1≠0:=Decidable.em _<;>first | exact (by rw[h0,Int.zero_mul]:(B - bad - S - 1) * P=0) ▸ qi 0 (by decide) | (rw[show (B - bad - S - 1) * P=0 by rw[h0,Int.zero_mul]];exact qi 0 (by decide)) | omega)),HB.out⟩
     . have hp0:(B - bad - S - 1) * P<=0:=Int.mul_nonpos_of_nonpos_of_nonneg (by omega) (by omega)
       have hp1 : -(64 * 32)<=(B - bad - S - 1) * P:=by
        have:=Int.mul_le_mul (a := -(B - bad - S - 1)) (b:=P) (c:=64) (d:=32) (by omega) (by omega) (by omega) (by omega)
        rw[Int.neg_mul] at this;omega
       have e:qq B P S D U bad=0:=by unfold qq;rw[if_pos ⟨HM.out,h2⟩,if_neg h3]
       have E:=hI e
       clear e
       go_enter Tryz.func123,Tryz.ntmps123
       go_wp2_with (first | (go_at_call 109;refine (vo _ _ _ _ _ _).mono ?_;rintro e w1 ⟨rfl,hb⟩;rw[decide_eq_true HM.out];obtain ⟨k0,k1,k2,k3,k4⟩:=qe ((hb.block w.heap.size (by simp)).trans (heap_alloc_new w _));have HB:=hI (hb0.trans (hb.mono (by simp)));clear hb) | (go_at_call 139;refine (vO _ _ _ _).mono ?_;rintro e w' ⟨rfl,rfl⟩;rw[decide_eq_true H2.out]))
       all_goals
        go_ret
        exact ⟨ret_int (by refine Eq.trans ?_ E.out.symm;have hw:=qi ((B - bad - S - 1) * P) (by omega);first | rfl | exact qi 0 (by decide) | (rw[hw];done) | (rw[hw];omega) | omega | (obtain h0 | h0:B - bad - S - 1=0\/B - bad - S - 1≠0:=Decidable.em _<;>first | exact (by rw[h0,Int.zero_mul]:(B - bad - S - 1) * P=0) ▸ qi 0 (by decide) | (rw[show (B - bad - S - 1) * P=0 by rw[h0,Int.zero_mul]];exact qi 0 (by decide)) | omega)),HB.out⟩
   . have H2:=hI h2
     have E:=hI (show qq B P S D U bad=0 by unfold qq;rw[if_neg (λh=>h2 h.2)])
     clear h2
     go_enter Tryz.func123,Tryz.ntmps123
     go_wp2_with (first | (go_at_call 109;refine (vo _ _ _ _ _ _).mono ?_;rintro e w1 ⟨rfl,hb⟩;rw[decide_eq_true HM.out];obtain ⟨k0,k1,k2,k3,k4⟩:=qe ((hb.block w.heap.size (by simp)).trans (heap_alloc_new w _));have HB:=hI (hb0.trans (hb.mono (by simp)));clear hb) | (go_at_call 139;refine (vO _ _ _ _).mono ?_;rintro e w' ⟨rfl,rfl⟩;rw[decide_eq_false H2.out]))
     all_goals
      go_ret
      exact ⟨ret_int (by rw[E.out]),HB.out⟩
 . have HM:=hI hM
   have E:=hI (show qq B P S D U bad=0 by unfold qq;rw[if_neg (λh=>hM h.1)])
   clear hM
   go_enter Tryz.func123,Tryz.ntmps123
   go_wp2_with (go_at_call 109;refine (vo _ _ _ _ _ _).mono ?_;rintro e w1 ⟨rfl,hb⟩;rw[decide_eq_false HM.out];obtain ⟨_,_,_,_,_⟩:=qe ((hb.block w.heap.size (by simp)).trans (heap_alloc_new w _));have HB:=hI (hb0.trans (hb.mono (by simp)));clear hb)
   go_ret
   exact ⟨ret_int (by rw[E.out]),HB.out⟩
theorem zDw (B P S D U bad:Int) (w:World) (hbd:(Lit.int .i64 bad).wf=true) :
 Calls Tryz.prog 76 #[.agg #[.int .i64 B,.int .i64 P,.int .i64 S,.int .i64 D,.int .i64 U],.int .i64 bad] w λe w'=>e=.returned (.int .i64 (zAj B P S D U bad))/\Below w.heap.size w w':=by
 have hb0:=(Below.refl w.heap.size w).alloc nL (.cells #[.int .i64 B,.int .i64 P,.int .i64 S,.int .i64 D,.int .i64 U] 23)
 have hbd1:=zOu hbd
 by_cases hM:zEm B P S D U
 . have HM:=hI hM
   have hS:=hM.2.2.1
   clear hM
   by_cases h2:0<=bad
   . by_cases h3:bad<=S
     all_goals
      have e:zAj B P S D U bad=if bad<=S then S - bad+1 else 0:=by unfold zAj;rw[if_pos ⟨HM.out,h2⟩]
      (first | rw[if_pos h3] at e | rw[if_neg h3] at e)
      have E:=hI e
      clear e
      go_enter Tryz.func76,Tryz.ntmps76
      go_wp2_with (go_at_call 109;refine (vo _ _ _ _ _ _).mono ?_;rintro e w1 ⟨rfl,hb⟩;rw[decide_eq_true HM.out];obtain ⟨_,_,k2,_,_⟩:=qe ((hb.block w.heap.size (by simp)).trans (heap_alloc_new w _));have HB:=hI (hb0.trans (hb.mono (by simp)));clear hb)
      all_goals
       go_ret
       exact ⟨ret_int (by refine Eq.trans ?_ E.out.symm;first | rfl | omega),HB.out⟩
   . have E:=hI (show zAj B P S D U bad=0 by unfold zAj;rw[if_neg (λh=>h2 h.2)])
     go_enter Tryz.func76,Tryz.ntmps76
     go_wp2_with (go_at_call 109;refine (vo _ _ _ _ _ _).mono ?_;rintro e w1 ⟨rfl,hb⟩;rw[decide_eq_true HM.out];obtain ⟨_,_,k2,_,_⟩:=qe ((hb.block w.heap.size (by simp)).trans (heap_alloc_new w _));have HB:=hI (hb0.trans (hb.mono (by simp)));clear hb)
     go_ret
     exact ⟨ret_int (by rw[E.out]),HB.out⟩
 . have HM:=hI hM
   have E:=hI (show zAj B P S D U bad=0 by unfold zAj;rw[if_neg (λh=>hM h.1)])
   clear hM
   go_enter Tryz.func76,Tryz.ntmps76
   go_wp2_with (go_at_call 109;refine (vo _ _ _ _ _ _).mono ?_;rintro e w1 ⟨rfl,hb⟩;rw[decide_eq_false HM.out];obtain ⟨_,_,_,_,_⟩:=qe ((hb.block w.heap.size (by simp)).trans (heap_alloc_new w _));have HB:=hI (hb0.trans (hb.mono (by simp)));clear hb)
   go_ret
   exact ⟨ret_int (by rw[E.out]),HB.out⟩
theorem zYm (B P S D U:Int) (w:World) :
 Calls Tryz.prog 73 #[.agg #[.int .i64 B,.int .i64 P,.int .i64 S,.int .i64 D,.int .i64 U]] w λe w'=>e=.returned (.int .i64 (vK B P S D U))/\Below w.heap.size w w':=by
 have hb0:=(Below.refl w.heap.size w).alloc nL (.cells #[.int .i64 B,.int .i64 P,.int .i64 S,.int .i64 D,.int .i64 U] 23)
 by_cases hM:zEm B P S D U
 . have HM:=hI hM
   have hd:=hM.2.2.2.1
   clear hM
   go_enter Tryz.func73,Tryz.ntmps73
   go_wp2_with (go_at_call 38;refine (vT _ _ _ _ _ _).mono ?_;rintro e w1 ⟨rfl,hb⟩;rw[decide_eq_true HM.out];obtain ⟨_,_,_,k3,_⟩:=qe ((hb.block w.heap.size (by simp)).trans (heap_alloc_new w _));have HB:=hI (hb0.trans (hb.mono (by simp)));clear hb)
   go_ret
   exact ⟨ret_int (by unfold vK;rw[if_pos HM.out];omega),HB.out⟩
 . have HM:=hI hM
   clear hM
   go_enter Tryz.func73,Tryz.ntmps73
   go_wp2_with (go_at_call 38;refine (vT _ _ _ _ _ _).mono ?_;rintro e w1 ⟨rfl,hb⟩;rw[decide_eq_false HM.out];obtain ⟨_,_,_,_,_⟩:=qe ((hb.block w.heap.size (by simp)).trans (heap_alloc_new w _));have HB:=hI (hb0.trans (hb.mono (by simp)));clear hb)
   go_ret
   exact ⟨ret_int (by unfold vK;rw[if_neg HM.out]),HB.out⟩
theorem zXb (B P S D U bad:Int) (w:World) (hbd:(Lit.int .i64 bad).wf=true) :
 Calls Tryz.prog 72 #[.agg #[.int .i64 B,.int .i64 P,.int .i64 S,.int .i64 D,.int .i64 U],.int .i64 bad] w λe w'=>e=.returned (.int .i64 (qq B P S D U bad))/\Below w.heap.size w w':=by
 have hb0:=(Below.refl w.heap.size w).alloc nL (.cells #[.int .i64 B,.int .i64 P,.int .i64 S,.int .i64 D,.int .i64 U] 23)
 have hbd1:=zOu hbd
 have HR:=hI (show qq B P S D U bad=qq B P S D U bad from rfl)
 by_cases hM:zEm B P S D U
 . have HM:=hI hM
   have hB:=hM.1
   have hP:=hM.2.1
   have hS:=hM.2.2.1
   clear hM
   by_cases h2:0<=bad/\bad<=B
   . have H2:=hI h2
     by_cases h3:0<B - bad - S - 1
     . have hp0:0<(B - bad - S - 1) * P:=Int.mul_pos (by omega) (by omega)
       have hp1:(B - bad - S - 1) * P<=64 * 32:=Int.mul_le_mul (by omega) (by omega) (by omega) (by omega)
       have e:qq B P S D U bad=(B - bad - S - 1) * P:=by unfold qq;rw[if_pos ⟨HM.out,h2⟩,if_pos h3]
       have E:=hI e
       clear e
       go_enter Tryz.func72,Tryz.ntmps72
       go_wp2_with (first | (go_at_call 38;refine (vT _ _ _ _ _ _).mono ?_;rintro e w1 ⟨rfl,hb⟩;rw[decide_eq_true HM.out];obtain ⟨k0,k1,k2,k3,k4⟩:=qe ((hb.block w.heap.size (by simp)).trans (heap_alloc_new w _));have HB:=hI (hb0.trans (hb.mono (by simp)));clear hb))
       all_goals
        go_ret
        exact ⟨ret_int (by refine Eq.trans ?_ E.out.symm;have hw:=qi ((B - bad - S - 1) * P) (by omega);first | rfl | exact qi 0 (by decide) | (rw[hw];done) | (rw[hw];omega) | omega | (obtain h0 | h0:B - bad - S - 1=0\/B - bad - S - 1≠0:=Decidable.em _<;>first | exact (by rw[h0,Int.zero_mul]:(B - bad - S - 1) * P=0) ▸ qi 0 (by decide) | (rw[show (B - bad - S - 1) * P=0 by rw[h0,Int.zero_mul]];exact qi 0 (by decide)) | omega)),HB.out⟩
     . have hp0:(B - bad - S - 1) * P<=0:=Int.mul_nonpos_of_nonpos_of_nonneg (by omega) (by omega)
       have hp1 : -(64 * 32)<=(B - bad - S - 1) * P:=by
        have:=Int.mul_le_mul (a := -(B - bad - S - 1)) (b:=P) (c:=64) (d:=32) (by omega) (by omega) (by omega) (by omega)
        rw[Int.neg_mul] at this;omega
       have e:qq B P S D U bad=0:=by unfold qq;rw[if_pos ⟨HM.out,h2⟩,if_neg h3]
       have E:=hI e
       clear e
       go_enter Tryz.func72,Tryz.ntmps72
       go_wp2_with (first | (go_at_call 38;refine (vT _ _ _ _ _ _).mono ?_;rintro e w1 ⟨rfl,hb⟩;rw[decide_eq_true HM.out];obtain ⟨k0,k1,k2,k3,k4⟩:=qe ((hb.block w.heap.size (by simp)).trans (heap_alloc_new w _));have HB:=hI (hb0.trans (hb.mono (by simp)));clear hb))
       all_goals
        go_ret
        exact ⟨ret_int (by refine Eq.trans ?_ E.out.symm;have hw:=qi ((B - bad - S - 1) * P) (by omega);first | rfl | exact qi 0 (by decide) | (rw[hw];done) | (rw[hw];omega) | omega | (obtain h0 | h0:B - bad - S - 1=0\/B - bad - S - 1≠0:=Decidable.em _<;>first | exact (by rw[h0,Int.zero_mul]:(B - bad - S - 1) * P=0) ▸ qi 0 (by decide) | (rw[show (B - bad - S - 1) * P=0 by rw[h0,Int.zero_mul]];exact qi 0 (by decide)) | omega)),HB.out⟩
   . have H2:=hI h2
     have E:=hI (show qq B P S D U bad=0 by unfold qq;rw[if_neg (λh=>h2 h.2)])
     clear h2
     go_enter Tryz.func72,Tryz.ntmps72
     go_wp2_with (first | (go_at_call 38;refine (vT _ _ _ _ _ _).mono ?_;rintro e w1 ⟨rfl,hb⟩;rw[decide_eq_true HM.out];obtain ⟨k0,k1,k2,k3,k4⟩:=qe ((hb.block w.heap.size (by simp)).trans (heap_alloc_new w _));have HB:=hI (hb0.trans (hb.mono (by simp)));clear hb))
     all_goals
      go_ret
      exact ⟨ret_int (by rw[E.out]),HB.out⟩
 . have HM:=hI hM
   have E:=hI (show qq B P S D U bad=0 by unfold qq;rw[if_neg (λh=>hM h.1)])
   clear hM
   go_enter Tryz.func72,Tryz.ntmps72
   go_wp2_with (go_at_call 38;refine (vT _ _ _ _ _ _).mono ?_;rintro e w1 ⟨rfl,hb⟩;rw[decide_eq_false HM.out];obtain ⟨_,_,_,_,_⟩:=qe ((hb.block w.heap.size (by simp)).trans (heap_alloc_new w _));have HB:=hI (hb0.trans (hb.mono (by simp)));clear hb)
   go_ret
   exact ⟨ret_int (by rw[E.out]),HB.out⟩
end
end Go.Proofs.YtinkkmlbhkfmnaaGreat
