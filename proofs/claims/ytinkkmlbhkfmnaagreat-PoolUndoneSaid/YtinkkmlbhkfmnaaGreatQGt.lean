/- A part of what the last text proves: Gt. -/
import Derived.DeepKeys4
import Derived.Deep.RegionHeld3
import Derived.Deep.DeepCutAuto
import Derived.StillTailTactics
import Derived.Handy
import Derived.WideKeyEntry
import Derived.Test.YtinkkmlbhkfmnaaGreatQGk
set_option maxRecDepth 100000
set_option maxHeartbeats 8000000
namespace Go.Proofs.YtinkkmlbhkfmnaaGreat
section
open Go.RowKit
section
variable {w w':World} {x y:Nat->Prop}
end
end
section
open Go.RowKit
end
section
open Go.RowKit
abbrev P2:=Int × Int
abbrev Fd:=P2 × P2
def hasR (T:List Fd) (r:P2):Bool:=T.any λf=>f.1==r
def atT (T:List Fd) (r:P2):Option P2:=(T.find? λf=>f.1==r).map (·.2)
def onT (T:List Fd) (s:P2):Option P2:=(T.find? λf=>f.2==s).map (·.1)
def zGr (T:List Fd) (r s:P2):Bool:=decide (0<=s.1)&&decide (0<=s.2)&&T.all λf=>f.2 != s||f.1==r
def zD (T:List Fd) (r s:P2):List Fd:=if zGr T r s=true then (if hasR T r=true then T.map (λf=>if f.1=r then (r,s) else f) else T++[(r,s)]) else T
def zOe (T:List Fd) (r:P2):List Fd:=T.filter λf=>f.1 != r
def vU (T:List Fd) (b:Int):Nat:=T.countP λf=>f.2.1==b
def ltS (a b:P2):Bool:=decide (a.1<b.1\/a.1=b.1/\a.2<b.2)
def zZd (l:List Fd) (f:Fd):List Fd:=l.takeWhile (λg=>ltS g.2 f.2)++f::l.dropWhile (λg=>ltS g.2 f.2)
def zKq (T:List Fd):List Fd:=T.foldl zZd []
def inT (T:List Fd) (b:Int):List Fd:=(T.filter λf=>f.2.1==b).foldl zZd []
structure WfT (T:List Fd):Prop where
 refs:(T.map (·.1)).Nodup
 spots:(T.map (·.2)).Nodup
 nonneg:∀f∈T,0<=f.2.1/\0<=f.2.2
def WfP (a:P2):Prop:=(Lit.int .i64 a.1).wf=true/\(Lit.int .i64 a.2).wf=true
abbrev P2V (a:P2):Value:=.agg #[.int .i64 a.1,.int .i64 a.2]
def FLies (w:World) (A:Option Addr) (l:List Fd):Prop :=
 0<l.length->∃B o,A=some ⟨B,o,none⟩/\B<w.heap.size/\∀j (h:j<l.length),
  w.cell? ⟨B,o+j * 4,none⟩=some (.int .i64 l[j].1.1)/\w.cell? ⟨B,o+j * 4+1,none⟩=some (.int .i64 l[j].1.2)/\w.cell? ⟨B,o+j * 4+2,none⟩=some (.int .i64 l[j].2.1)/\w.cell? ⟨B,o+j * 4+3,none⟩=some (.int .i64 l[j].2.2)
theorem FLies.below {w w':World} {A:Option Addr} {l:List Fd} (h:FLies w A l) (hb:Below w.heap.size w w'):FLies w' A l:=λhn=>by
 obtain ⟨B,o,e,hB,hc⟩:=h hn
 refine ⟨B,o,e,Nat.lt_of_lt_of_le hB hb.size,λj hj=>?_⟩
 obtain ⟨h0,h1,h2,h3⟩:=hc j hj
 exact ⟨(hb.cell (p:=⟨B,o+j * 4,none⟩) hB).trans h0,(hb.cell (p:=⟨B,o+j * 4+1,none⟩) hB).trans h1,(hb.cell (p:=⟨B,o+j * 4+2,none⟩) hB).trans h2,(hb.cell (p:=⟨B,o+j * 4+3,none⟩) hB).trans h3⟩
end
section
theorem zJz {α : Type} (p : α -> Bool) (l:List α):(l.find? p).isSome=l.any p:=by
 rw[Bool.eq_iff_iff,List.find?_isSome,List.any_eq_true]
theorem vr {α β : Type} {g : α -> β} {l:List α} (hn:(l.map g).Nodup) {x f : α} (hx:x∈l) (hf:f∈l) (e:g x=g f):x=f:=by
 induction l with
 | nil=>cases hx
 | cons c l ih =>
  rw[List.map_cons,List.nodup_cons] at hn
  rcases List.mem_cons.1 hx with e1 | hx
  . rcases List.mem_cons.1 hf with e2 | hf
    . rw[e1,e2]
    . exact absurd (List.mem_map.2 ⟨f,hf,by rw[<- e,e1]⟩) hn.1
  . rcases List.mem_cons.1 hf with e2 | hf
    . exact absurd (List.mem_map.2 ⟨x,hx,by rw[e,e2]⟩) hn.1
    . exact ih hn.2 hx hf
def TInts (T:List Fd):Prop:=∀f∈T,WfP f.1/\WfP f.2
theorem zNw (T:List Fd) (r:P2):hasR T r=(atT T r).isSome:=by
 unfold hasR atT
 rw[Option.isSome_map,zJz]
theorem zCz {T:List Fd} {r s:P2} (h:atT T r=some s):(r,s)∈T:=by
 unfold atT at h
 obtain ⟨f,hf,rfl⟩:=Option.map_eq_some_iff.1 h
 have h1:f.1=r:=by simpa using List.find?_some hf
 rw[<- h1]
 exact List.mem_of_find?_eq_some hf
theorem on_mem {T:List Fd} {r s:P2} (h:onT T s=some r):(r,s)∈T:=by
 unfold onT at h
 obtain ⟨f,hf,rfl⟩:=Option.map_eq_some_iff.1 h
 have h1:f.2=s:=by simpa using List.find?_some hf
 rw[<- h1]
 exact List.mem_of_find?_eq_some hf
theorem zQx {T:List Fd} {r:P2} (h:atT T r=none):∀f∈T,f.1≠r:=λf hf e=>by
 have h1:=zNw T r
 rw[h] at h1
 have h2:(T.any λf=>f.1==r)=false:=h1
 rw[List.any_eq_false] at h2
 exact h2 f hf (by simpa using e)
theorem on_none {T:List Fd} {s:P2} (h:onT T s=none):∀f∈T,f.2≠s:=λf hf e=>by
 unfold onT at h
 rw[Option.map_eq_none_iff,List.find?_eq_none] at h
 exact h f hf (by simpa using e)
theorem zSw {T:List Fd} {r:P2} (h:atT T r=none):zOe T r=T:=by
 unfold zOe
 rw[List.filter_eq_self]
 exact λf hf=>by simpa using zQx h f hf
theorem zKu {T:List Fd} (h:WfT T) (q:Fd->Bool):WfT (T.filter q) :=
 ⟨(List.Sublist.map _ List.filter_sublist).nodup h.refs,(List.Sublist.map _ List.filter_sublist).nodup h.spots,λf hf=>h.nonneg f (List.mem_filter.1 hf).1⟩
theorem zQb {T:List Fd} (h:TInts T) (q:Fd->Bool):TInts (T.filter q):=λf hf=>h f (List.mem_filter.1 hf).1
theorem zQn {T:List Fd} (hw:WfT T) {r s:P2} (h:atT T r=some s):(T.filter λf=>f.2 != s)=zOe T r:=by
 unfold zOe
 refine List.filter_congr λf hf=>?_
 have hm:=zCz h
 by_cases e:f.1=r
 . have:=vr hw.refs hf hm e
   rw[this]
   show (s != s)=(r != r)
   rw[bne_self_eq_false,bne_self_eq_false]
 . have:f.2≠s:=λe2=>e (by rw[vr hw.spots hf hm e2])
   have h1:(f.2 != s)=true:=by simpa using this
   have h2:(f.1 != r)=true:=by simpa using e
   rw[h1,h2]
theorem can_on {T:List Fd} (hw:WfT T) (r s:P2):zGr T r s=(decide (0<=s.1)&&decide (0<=s.2)&&(match onT T s with | none=>true | some q=>q==r)):=by
 unfold zGr
 congr 1
 cases h:onT T s with
 | none =>
  rw[List.all_eq_true]
  exact λf hf=>by simp[on_none h f hf]
 | some q =>
  have hm:=on_mem h
  by_cases e:q=r
  . subst e
    rw[show (match some q with | none=>true | some q'=>q'==q)=true from by simp,List.all_eq_true]
    intro f hf
    by_cases e2:f.2=s
    . have:=vr hw.spots hf hm e2
      rw[this];simp
    . simp[e2]
  . have:(q==r)=false:=by simpa using e
    simp only[this]
    rw[List.all_eq_false]
    exact ⟨_,hm,by simp[e]⟩
theorem zOh {T:List Fd} {r s:P2} (hc:zGr T r s=true):∀f∈T,f.2=s->f.1=r:=by
 unfold zGr at hc
 simp only[Bool.and_eq_true,List.all_eq_true] at hc
 intro f hf e
 have:=hc.2 f hf
 simpa[e] using this
theorem yAh (T:List Fd) (r:P2):((zOe T r).filter λf=>f.1 != r)=zOe T r:=by
 unfold zOe
 rw[List.filter_filter]
 simp
theorem zSv {T:List Fd} {r s:P2} (hc:zGr T r s=true):((zOe T r).filter λf=>f.2 != s)=zOe T r:=by
 rw[List.filter_eq_self]
 intro f hf
 have hf':=List.mem_filter.1 hf
 have:f.2≠s:=λe=>by
  have:=zOh hc f hf'.1 e
  simp[this] at hf'
 simpa using this
theorem zJq {r s:P2} : ∀{l:List Fd},(∀f∈l,f.1≠r)->l.map (λf:Fd=>if f.1=r then (r,s) else f)=l
 | [],_=>rfl
 | f::l,h=>by
  rw[List.map_cons,if_neg (h f (List.mem_cons_self ..)),zJq λg hg=>h g (List.mem_cons_of_mem _ hg)]
theorem zRk {T:List Fd} (hw:WfT T) {r s:P2} (hc:zGr T r s=true):(zD T r s).Perm ((r,s)::zOe T r):=by
 unfold zD
 rw[if_pos hc]
 split
 . next hr =>
   rw[zNw] at hr
   obtain ⟨s0,hs0⟩:=Option.isSome_iff_exists.1 hr
   have hm:=zCz hs0
   obtain ⟨a,b,rfl⟩:=List.append_of_mem hm
   have hn:=hw.refs
   rw[List.map_append,List.map_cons,List.nodup_append] at hn
   obtain ⟨_,hn2,hn3⟩:=hn
   rw[List.nodup_cons] at hn2
   have ha:∀f∈a,f.1≠r:=λf hf e=>hn3 f.1 (List.mem_map.2 ⟨f,hf,rfl⟩) r (List.mem_cons_self ..) e
   have hb:∀f∈b,f.1≠r:=λf hf e=>hn2.1 (List.mem_map.2 ⟨f,hf,e⟩)
   have m1:a.map (λf:Fd=>if f.1=r then (r,s) else f)=a:=by
    exact zJq ha
   have m2:b.map (λf:Fd=>if f.1=r then (r,s) else f)=b:=by
    exact zJq hb
   have e1:zOe (a++(r,s0)::b) r=a++b:=by
    unfold zOe
    rw[List.filter_append,List.filter_cons,if_neg (by simp)]
    rw[List.filter_eq_self.2 λf hf=>by simpa using ha f hf,List.filter_eq_self.2 λf hf=>by simpa using hb f hf]
   rw[List.map_append,List.map_cons,m1,m2,e1]
   simp only[if_true]
   exact List.perm_middle
 . next hr =>
   rw[zNw] at hr
   have h0:atT T r=none:=by simpa using hr
   rw[zSw h0]
   exact List.perm_append_comm.trans (by simp)
theorem zWa {T:List Fd} (hw:WfT T) {r s:P2} (hc:zGr T r s=true):WfT ((r,s)::zOe T r):=by
 have h1:=zKu hw λf=>f.1 != r
 have hs:0<=s.1/\0<=s.2:=by
  unfold zGr at hc
  simp only[Bool.and_eq_true,decide_eq_true_eq] at hc
  exact hc.1
 refine ⟨?_,?_,?_⟩
 . rw[List.map_cons,List.nodup_cons]
   refine ⟨λh=>?_,h1.refs⟩
   obtain ⟨f,hf,e⟩:=List.mem_map.1 h
   have:=(List.mem_filter.1 hf).2
   simp at this
   exact this e
 . rw[List.map_cons,List.nodup_cons]
   refine ⟨λh=>?_,h1.spots⟩
   obtain ⟨f,hf,e⟩:=List.mem_map.1 h
   have h2:=zOh hc f (List.mem_filter.1 hf).1 e
   have:=(List.mem_filter.1 hf).2
   simp[h2] at this
 . intro f hf
   rcases List.mem_cons.1 hf with rfl | hf
   . exact hs
   . exact h1.nonneg f hf
theorem WfT.perm {T T':List Fd} (hw:WfT T) (hp:T.Perm T'):WfT T':=⟨(hp.map _).nodup_iff.1 hw.refs,(hp.map _).nodup_iff.1 hw.spots,λf hf=>hw.nonneg f (hp.mem_iff.2 hf)⟩
end
section
theorem zFv (a b:P2):ltS a b=true↔a.1<b.1\/a.1=b.1/\a.2<b.2:=by simp[ltS]
theorem zYu (a:P2):¬ltS a a=true:=λh=>by rw[zFv] at h;omega
theorem lt_tr {a b c:P2} (h:ltS a b=true) (k:ltS b c=true):ltS a c=true:=by rw[zFv] at *;omega
theorem lt_tot {a b:P2} (h:¬ltS a b=true) (hne:a≠b):ltS b a=true:=by
 rw[zFv] at *
 have:¬(a.1=b.1/\a.2=b.2):=λe=>hne (Prod.ext e.1 e.2)
 omega
def Srt (L:List Fd):Prop:=L.Pairwise λf g=>ltS f.2 g.2=true
theorem zSc (a:Fd) (l:List Fd) (f:Fd):zZd (a::l) f=if ltS a.2 f.2=true then a::zZd l f else f::a::l:=by
 unfold zZd
 by_cases h:ltS a.2 f.2=true<;>simp[h]
theorem zEt:∀(l:List Fd) (f:Fd),(zZd l f).Perm (f::l)
 | [],_=>List.Perm.refl _
 | a::l,f=>by
  rw[zSc]
  split
  . exact ((zEt l f).cons a).trans (List.Perm.swap ..)
  . exact List.Perm.refl _
theorem zZc:∀{l:List Fd} {f:Fd},Srt l->(∀g∈l,g.2≠f.2)->Srt (zZd l f)
 | [],f,_,_=>List.pairwise_singleton _ _
 | a::l,f,h,hn=>by
  obtain ⟨h1,h2⟩:=List.pairwise_cons.1 h
  rw[zSc]
  split
  . next hlt =>
    refine List.pairwise_cons.2 ⟨λg hg=>?_,zZc h2 λg hg=>hn g (List.mem_cons_of_mem _ hg)⟩
    rcases List.mem_cons.1 ((zEt l f).mem_iff.1 hg) with rfl | hg
    . exact hlt
    . exact h1 g hg
  . next hlt =>
    have hfa:=lt_tot hlt (hn a (List.mem_cons_self ..))
    refine List.pairwise_cons.2 ⟨λg hg=>?_,h⟩
    rcases List.mem_cons.1 hg with rfl | hg
    . exact hfa
    . exact lt_tr hfa (h1 g hg)
theorem yT (T:List Fd):∀l:List Fd,(T.foldl zZd l).Perm (l++T):=by
 induction T with
 | nil=>intro l;simp
 | cons f T ih =>
  intro l
  rw[List.foldl_cons]
  refine (ih _).trans ?_
  refine ((zEt l f).append_right T).trans ?_
  exact (List.perm_middle (l₁ := l) (l₂ := T) (a:=f)).symm
theorem zSm:∀(T l:List Fd),Srt l->((l++T).map (·.2)).Nodup->Srt (T.foldl zZd l)
 | [],_,h,_=>h
 | f::T,l,h,hn=>by
  rw[List.foldl_cons]
  have hp:(zZd l f++T).Perm (l++f::T):=((zEt l f).append_right T).trans (List.perm_middle (l₁ := l) (l₂ := T) (a:=f)).symm
  refine zSm T _ (zZc h λg hg e=>?_) ((hp.map _).nodup_iff.2 hn)
  rw[List.map_append,List.map_cons,List.nodup_append] at hn
  exact hn.2.2 g.2 (List.mem_map.2 ⟨g,hg,rfl⟩) f.2 (List.mem_cons_self ..) e
theorem zWh:∀{L M:List Fd},Srt L->Srt M->L.Perm M->L=M
 | [],M,_,_,hp=>by rw[List.nil_perm.1 hp]
 | a::L,[],_,_,hp=>by cases List.perm_nil.1 hp
 | a::L,b::M,h,k,hp=>by
  obtain ⟨h1,h2⟩:=List.pairwise_cons.1 h
  obtain ⟨k1,k2⟩:=List.pairwise_cons.1 k
  have e:a=b:=by
   rcases List.mem_cons.1 (hp.mem_iff.1 (List.mem_cons_self ..)) with e | ha
   . exact e
   . rcases List.mem_cons.1 (hp.mem_iff.2 (List.mem_cons_self ..)) with e | hb
     . exact e.symm
     . exact absurd (lt_tr (k1 a ha) (h1 b hb)) (zYu _)
  subst e
  rw[zWh h2 k2 (List.Perm.cons_inv hp)]
theorem all_of {T L:List Fd} (hn:(T.map (·.2)).Nodup) (hp:L.Perm T) (hs:∀i j (hi:i<L.length) (hj:j<L.length),i<j->ltS L[j].2 L[i].2=false):L=zKq T:=by
 have hnL:(L.map (·.2)).Nodup:=(hp.map _).nodup_iff.2 hn
 refine zWh (List.pairwise_iff_getElem.2 λi j hi hj hij=>?_) (zSm T [] List.Pairwise.nil (by simpa using hn)) (hp.trans (yT T []).symm)
 have h1:=hs i j hi hj hij
 have hne:L[j].2≠L[i].2:=λe=>by
  rw[List.nodup_iff_pairwise_ne,List.pairwise_map,List.pairwise_iff_getElem] at hnL
  exact hnL i j hi hj hij e.symm
 exact lt_tot (by simpa using h1) hne
theorem in_of {T L:List Fd} {b:Int} (hn:(T.map (·.2)).Nodup) (hp:L.Perm (T.filter λf=>f.2.1==b)) (hs:∀i j (hi:i<L.length) (hj:j<L.length),i<j->ltS L[j].2 L[i].2=false):L=inT T b :=
 all_of (T:=T.filter λf=>f.2.1==b) ((List.Sublist.map _ List.filter_sublist).nodup hn) hp hs
end
section
open Go.RowKit
def zB (f:Fd):List Value:=[.int .i64 f.1.1,.int .i64 f.1.2,.int .i64 f.2.1,.int .i64 f.2.2]
def yv (l:List Fd):List Value:=l.flatMap zB
theorem zBz (f:Fd) (l:List Fd):yv (f::l)=zB f++yv l:=rfl
theorem zUw (l m:List Fd):yv (l++m)=yv l++yv m:=by simp[yv]
theorem zDy (l:List Fd):(yv l).length=l.length * 4:=by
 induction l with
 | nil=>rfl
 | cons f l ih=>rw[zBz,List.length_append,ih,List.length_cons];simp[zB];omega
theorem zCw:∀(l:List Fd) (j:Nat) (h:j<l.length) (r:Nat),r<4->(yv l)[j * 4+r]? = (zB l[j])[r]?
 | [],_,h,_,_=>by cases h
 | f::l,0,_,r,hr=>by
  rw[zBz,List.getElem?_append_left (by simp[zB];omega)]
  simp
 | f::l,j+1,h,r,hr=>by
  rw[zBz,List.getElem?_append_right (by simp[zB];omega)]
  have e:(j+1) * 4+r - (zB f).length=j * 4+r:=by simp[zB];omega
  rw[e,zCw l j (by simpa using h) r hr]
  rfl
theorem zUv {l:List Fd} {u:Value} (h:u∈yv l):u.oneCell'=true:=by
 obtain ⟨f,_,hu⟩:=List.mem_flatMap.1 h
 simp[zB] at hu
 rcases hu with rfl | rfl | rfl | rfl<;>rfl
theorem FLies.cells {w:World} {A:Option Addr} {l:List Fd} (h:FLies w A l) {ad:Addr} (e:A=some ad):∀(k:Nat) (u:Value),(yv l)[k]? = some u->w.cell? (ad.add k)=some u:=λk u hu=>by
 have hk:k<l.length * 4:=by
  rcases Nat.lt_or_ge k (l.length * 4) with h' | h'
  . exact h'
  . rw[List.getElem?_eq_none (by rw[zDy];exact h')] at hu;cases hu
 obtain ⟨B,o,e2,_,hc⟩:=h (by omega)
 obtain rfl:ad=⟨B,o,none⟩:=by rw[e] at e2;exact Option.some.inj e2
 have ea:(⟨B,o,none⟩:Addr).add k=⟨B,o+k,none⟩:=by
  unfold Addr.add
  split
  . next e=>subst e;rfl
  . rfl
 have hj:k / 4<l.length:=by omega
 have hr:k % 4<4:=Nat.mod_lt _ (by omega)
 have hkk:k=k / 4 * 4+k % 4:=by omega
 obtain ⟨c0,c1,c2,c3⟩:=hc (k / 4) hj
 have hf:=zCw l (k / 4) hj (k % 4) hr
 rw[<- hkk,hu] at hf
 rw[ea,show o+k=o+k / 4 * 4+k % 4 by omega]
 generalize k / 4=j at *
 generalize k % 4=r at *
 rcases (by omega:r=0\/r=1\/r=2\/r=3) with rfl | rfl | rfl | rfl
 . rw[Nat.add_zero,c0,hf];rfl
 . rw[c1,hf];rfl
 . rw[c2,hf];rfl
 . rw[c3,hf];rfl
def FOwn (w:World) (base:Nat) (v:Value) (l:List Fd):Prop:=w.ownsRow base 71 4 v l.length (yv l)
theorem zSk (W:World) (B:Nat):FOwn W B (.slice none 0 0) []:=World.ownsRow_nil _ _ _ _
theorem zGb {W W':World} {B:Nat} {v:Value} {l:List Fd} (h:FOwn W B v l) (hb:Below W.heap.size W W'):FOwn W' B v l:=vS h λk e=>hb.block k (World.ownsRow.lt h k e).2
theorem FOwn.lies {w:World} {base c:Nat} {q:Option Addr} {l:List Fd} {n:Nat} (h:FOwn w base (.slice q n c) l):FLies w q l/\n=l.length/\(∀ad,q=some ad->base<=ad.block)/\n<=c:=by
 rcases h.2 with ⟨e,e2⟩ | ⟨g,cap,cur,e,hb,hg,hc,_,_,ht⟩
 . simp at e
   obtain ⟨rfl,rfl,rfl⟩:=e
   exact ⟨λhn=>by omega,by omega,λad e=>(by cases e),Nat.le_refl _⟩
 . simp at e
   obtain ⟨rfl,rfl,rfl⟩:=e
   refine ⟨λhn=>⟨g,0,rfl,qD hg,λj hj=>?_⟩,rfl,λad e=>(by cases e;exact hb),hc⟩
   have key:∀r,r<4->w.cell? ⟨g,0+j * 4+r,none⟩=(zB l[j])[r]? := λr hr=>by
    have hf:=zCw l j hj r hr
    rw[<- ht,List.getElem?_take_of_lt (by omega)] at hf
    rw[<- hf,Nat.zero_add]
    simp[World.cell?,hg]
   exact ⟨key 0 (by omega),key 1 (by omega),key 2 (by omega),key 3 (by omega)⟩
theorem zUp:(Tryz.prog.info? 71).map (λi=>(i.zero,i.size,i.bytes))=some (some (.agg #[.int .i64 0,.int .i64 0,.int .i64 0,.int .i64 0]),4,32):=by kernel_rfl
theorem zGc:∃i,Tryz.prog.info? 71=some i/\i.zero=some (.agg #[.int .i64 0,.int .i64 0,.int .i64 0,.int .i64 0])/\i.size=4/\i.bytes=32:=by
 have h:=zUp
 cases e:Tryz.prog.info? 71 with
 | none=>rw[e] at h;cases h
 | some i =>
  rw[e] at h
  simp only[Option.map_some,Option.some.injEq,Prod.mk.injEq] at h
  exact ⟨i,rfl,h.1,h.2.1,h.2.2⟩
theorem run_fapp {w:World} {base:Nat} {v:Value} {xs l:List Fd} {A:Option Addr} {c:Nat} (ty:TypeId) (hown:FOwn w base v xs) (hl:FLies w A l) (hA:A=none->l = []/\c=0) (h63:xs.length+l.length<=1000000) (hbase:base<=w.heap.size) :
 ∃q cap w',(Builtin.append_ #[62,62] ty #[v,.slice A l.length c]).run Tryz.prog w=.ok (.slice q (xs.length+l.length) cap) w'/\FOwn w' base (.slice q (xs.length+l.length) cap) (xs++l)/\w.grownBy w' v.ownBlock:=by
 obtain ⟨i,hi,hz,hs,hb⟩:=zGc
 cases A with
 | some ad =>
  obtain ⟨v',w',hr,h2,h3,_⟩:=run_append_own (P:=Tryz.prog) (w:=w) base 62 ty 71 i _ 4 32 Tryz.underlying62 hi hz hs hb rfl (by omega) v xs.length (yv xs) hown ad l.length c (yv l) (zDy l) (hl.cells rfl) (λu hu=>zUv hu) (by unfold maxLen;omega) (by omega) hbase
  obtain ⟨q,cap,rfl,_⟩:=qN h2
  exact ⟨q,cap,w',hr,by unfold FOwn;rw[List.length_append,zUw];exact h2,h3⟩
 | none =>
  obtain ⟨rfl,rfl⟩:=hA rfl
  have hr:=run_append_owned_none (P:=Tryz.prog) (w:=w) base 62 ty 71 i 4 Tryz.underlying62 hi v xs.length (yv xs) hown
  obtain ⟨q,cap,rfl,_⟩:=qN hown
  exact ⟨q,cap,w,hr,by simpa using hown,⟨rfl,rfl,rfl,Nat.le_refl _,λ_ _ _=>rfl⟩⟩
theorem zYh {w:World} {o:Oper} {a:Act} {K:Act->World->Prop} {Q:Exit->Act->World->Prop} (s x:Operand) (ho:o.op=.call { callee:=.builtin .append,args:=#[s,x],argTypes:=#[62,62] })
 {base:Nat} {v:Value} {xs l:List Fd} {A:Option Addr} {c:Nat} (hs:a.eval s=v) (hx:a.eval x=.slice A l.length c) (hown:FOwn w base v xs) (hl:FLies w A l) (hA:A=none->l = []/\c=0) (h63:xs.length+l.length<=1000000) (hbase:base<=w.heap.size)
 (h:∀q cap w',FOwn w' base (.slice q (xs.length+l.length) cap) (xs++l)->w.grownBy w' v.ownBlock->K (a.put o.dst (.slice q (xs.length+l.length) cap)) w'):Oper.wp Tryz.prog o a w K Q:=by
 obtain ⟨q,cap,w',hr,h2,h3⟩:=run_fapp o.type hown hl hA h63 hbase
 unfold Oper.wp execOp
 simp only[ho,resolve,invoke,builtin,Sem.run_bind,Sem.run_pure,Result.andThen_ok,List.map_toArray,List.map_cons,List.map_nil,hs,hx,hr]
 exact h q cap w' h2 h3
theorem yi {w:World} {ops:Array Oper} {rest:List Oper} {o:Oper} {a:Act} {Q:Exit->Act->World->Prop} (hgd:o.guard=none) (s x:Operand) (ho:o.op=.call { callee:=.builtin .append,args:=#[s,x],argTypes:=#[62,62] })
 (base:Nat) (v:Value) (xs l:List Fd) (A:Option Addr) (c:Nat) (hs:a.eval s=v) (hx:a.eval x=.slice A l.length c) (hown:FOwn w base v xs) (hl:FLies w A l) (hA:A=none->l = []/\c=0) (h63:xs.length+l.length<=1000000) (hbase:base<=w.heap.size)
 (h:∀q cap w',FOwn w' base (.slice q (xs.length+l.length) cap) (xs++l)->w.grownBy w' v.ownBlock->wpList Tryz.prog ops Q rest (a.put o.dst (.slice q (xs.length+l.length) cap)) w'):wpList Tryz.prog ops Q (o::rest) a w :=
 wpList_plain hgd λ_ hK=>zYh s x ho hs hx hown hl hA h63 hbase λq cap w' h2 h3=>hK _ _ (h q cap w' h2 h3)
theorem zGa (w:World) (f:Fd) {k:Nat} (h:k=w.heap.size):FLies (w.alloc (.cells #[.int .i64 f.1.1,.int .i64 f.1.2,.int .i64 f.2.1,.int .i64 f.2.2] 71)) (some ⟨k,0,none⟩) [f]:=by
 subst h
 intro _
 have hn:=heap_alloc_new w (.cells #[.int .i64 f.1.1,.int .i64 f.1.2,.int .i64 f.2.1,.int .i64 f.2.2] 71)
 refine ⟨_,0,rfl,qD hn,λj hj=>?_⟩
 obtain rfl:j=0:=by simpa using hj
 generalize w.alloc _=W at hn ⊢
 simp[World.cell?,hn]
end
section
open Go.RowKit Go.Maps Go.WideShapes
theorem laid:laidOutB Tryz.prog=true:=by kernel_rfl
theorem law_ref:Keyed Tryz.prog 33:=Keyed.of_law (deep_law_laid laid (m:=2) (by decide) (by decide +kernel) (by kernel_rfl) (by kernel_rfl))
theorem law_spot:Keyed Tryz.prog 69:=Keyed.of_law (deep_law_laid laid (m:=2) (by decide) (by decide +kernel) (by kernel_rfl) (by kernel_rfl))
abbrev Dt:=DataW Unit
def zE (a:P2):Lit:=.string (keyBytes [.int .i64 a.1,.int .i64 a.2])
def dat (a:P2):Dt:=.agg [.lit (.int .i64 a.1),.lit (.int .i64 a.2)]
theorem yAf {a b:P2} (h:dat a=dat b):a=b:=by
 simp[dat] at h
 exact Prod.ext h.1 h.2
def RP:Value->Option (Dt × List MemPlace)
 | .agg cs=>match cs.toList with
  | [.int .i64 a,.int .i64 b]=>some (dat (a,b),[])
  | _=>none
 | _=>none
theorem rp_mk (a:P2):RP (P2V a)=some (dat a,[]):=rfl
theorem zWx {v:Value} {z:Dt × List MemPlace} (h:RP v=some z):∃a,v=P2V a/\z=(dat a,[]):=by
 unfold RP at h
 split at h
 . next cs =>
   split at h
   . next a b e =>
     refine ⟨(a,b),?_,(Option.some.inj h).symm⟩
     congr 1
     exact Array.ext' (by simpa using e)
   . cases h
 . cases h
theorem rp_val {v:Value} {a:P2} {ps:List MemPlace} (h:RP v=some (dat a,ps)):v=P2V a:=by
 obtain ⟨b,rfl,e⟩:=zWx h
 rw[yAf (congrArg Prod.fst e)]
theorem is_key (a:P2):WideAt.IsKeyLit (zE a):=trivial
theorem zAz (k:Lit) (a:P2):k.sameKey (zE a)=true↔k=zE a:=by
 unfold zE
 cases k<;>simp[Lit.sameKey]
theorem zCh:∃m,Tryz.prog.types.size=m+1+1:=by
 have h:2<Tryz.prog.types.size:=by decide +kernel
 exact ⟨Tryz.prog.types.size - 2,by omega⟩
section
variable (a:P2) (h:WfP a)
include h
theorem zQa:keyOf Tryz.prog 33 (P2V a)=some (zE a):=by
 have hkt:Tryz.prog.keyType 33=true:=by kernel_rfl
 have hc:Tryz.prog.cellsOf 33=2:=by kernel_rfl
 have hi:Tryz.prog.cellsOf 3=1:=by kernel_rfl
 obtain ⟨m,hm⟩:=zCh
 unfold keyOf
 simp only[Tryz.underlying33]
 rw[if_pos (by rw[hkt];simp[Value.formed,Tryz.underlying33,hc]),hm]
 unfold Program.keyLits
 simp only[Tryz.underlying33,Value.cells]
 rw[if_pos (by rw[hc];exact ⟨rfl,by decide +kernel⟩)]
 simp[Program.keyLits,Tryz.underlying3,h.1,h.2,hi,zE]
theorem key_spot:keyOf Tryz.prog 69 (P2V a)=some (zE a):=by
 have hkt:Tryz.prog.keyType 69=true:=by kernel_rfl
 have hc:Tryz.prog.cellsOf 69=2:=by kernel_rfl
 have hi:Tryz.prog.cellsOf 3=1:=by kernel_rfl
 obtain ⟨m,hm⟩:=zCh
 unfold keyOf
 simp only[Tryz.underlying69]
 rw[if_pos (by rw[hkt];simp[Value.formed,Tryz.underlying69,hc]),hm]
 unfold Program.keyLits
 simp only[Tryz.underlying69,Value.cells]
 rw[if_pos (by rw[hc];exact ⟨rfl,by decide +kernel⟩)]
 simp[Program.keyLits,Tryz.underlying3,h.1,h.2,hi,zE]
end
theorem zEs {a b:P2} (ha:WfP a) (hb:WfP b) (h:zE a=zE b):a=b:=by
 have:=law_ref.inj (zQa a ha) (h ▸ zQa b hb)
 simp at this
 exact Prod.ext this.1 this.2
abbrev ent (g h:Fd->P2) (f:Fd):Lit × Dt:=(zE (g f),dat (h f))
def MR (g h:Fd->P2) (D:Dt) (T:List Fd):Prop:=∃es,D=.map es/\es.Perm (T.map (ent g h))
section
variable {g h:Fd->P2} {D:Dt} {T T':List Fd} {r s:P2}
theorem MR.perm (m:MR g h D T) (hp:T.Perm T'):MR g h D T':=by
 obtain ⟨es,rfl,e⟩:=m
 exact ⟨es,rfl,e.trans (hp.map _)⟩
theorem MR.size (m:MR g h D T):Maps.size D=T.length:=by
 obtain ⟨es,rfl,e⟩:=m
 simpa[Maps.size] using e.length_eq
theorem zRr:MR g h (.map []) []:=⟨[],rfl,List.Perm.nil⟩
def GWf (g:Fd->P2) (T:List Fd):Prop:=∀f∈T,WfP (g f)
theorem MR.has (m:MR g h D T) (hw:GWf g T) (hr:WfP r):Maps.has D (zE r)=T.any λf=>g f==r:=by
 obtain ⟨es,rfl,e⟩:=m
 rw[Maps.has_eq,e.any_eq,Bool.eq_iff_iff,List.any_eq_true,List.any_eq_true]
 constructor
 . rintro ⟨p,hp,hk⟩
   obtain ⟨f,hf,rfl⟩:=List.mem_map.1 hp
   exact ⟨f,hf,by simpa using zEs (hw f hf) hr ((zAz _ _).1 hk)⟩
 . rintro ⟨f,hf,hk⟩
   refine ⟨ent g h f,List.mem_map.2 ⟨f,hf,rfl⟩,(zAz _ _).2 ?_⟩
   show zE (g f)=zE r
   rw[show g f=r by simpa using hk]
theorem MR.at (m:MR g h D T) (hn:(T.map g).Nodup) (hw:GWf g T) {f:Fd} (hf:f∈T) (z:Dt):D.atKey (zE (g f)) z=dat (h f):=by
 obtain ⟨es,rfl,e⟩:=m
 refine WideAt.atKey_mem z (is_key _) ?_ (e.mem_iff.2 (List.mem_map.2 ⟨f,hf,rfl⟩))
 refine (e.pairwise_iff (λ{a b} (h:a.1≠b.1)=>h.symm)).2 ?_
 rw[List.pairwise_map]
 rw[List.nodup_iff_pairwise_ne,List.pairwise_map] at hn
 exact hn.imp_of_mem λ{a b} ha hb hab e=>hab (zEs (hw _ ha) (hw _ hb) e)
theorem MR.del (m:MR g h D T) (hw:GWf g T) (hr:WfP r):MR g h (D.del (zE r)) (T.filter λf=>g f != r):=by
 obtain ⟨es,rfl,e⟩:=m
 refine ⟨_,DataW.del_eq _ _,?_⟩
 refine (e.filter _).trans ?_
 rw[List.filter_map]
 have he:T.filter (ChangeMaps.notKey (zE r) ∘ ent g h)=T.filter λf=>g f != r:=by
  refine List.filter_congr λf hf=>?_
  by_cases e1:g f=r
  . simp[ChangeMaps.notKey,e1,(zAz _ _).2]
  . have:¬(zE (g f)).sameKey (zE r)=true:=λe2=>e1 (zEs (hw f hf) hr ((zAz _ _).1 e2))
    simp[ChangeMaps.notKey,e1,this]
 rw[he]
theorem MR.put (m:MR g h D T) (hw:GWf g T) (hr:WfP r) {f:Fd} (hg:g f=r) (hs:h f=s) (hp:T'.Perm (f::T.filter λf=>g f != r)):MR g h (D.put (zE r) (dat s)) T':=by
 have hd:=m.del hw hr
 obtain ⟨es,rfl,e⟩:=m
 obtain ⟨es',e1,e2⟩:=hd
 rw[DataW.del_eq] at e1
 refine ⟨_,DataW.put_eq _ _ _,?_⟩
 unfold ChangeMaps.putKey
 refine (insert_perm _ _).trans ?_
 refine List.Perm.trans (l₂ := (zE r,dat s)::(T.filter λf=>g f != r).map (ent g h)) (List.Perm.cons _ ?_) ?_
 . simp only[DataW.map.injEq] at e1
   rw[show es.filter (ChangeMaps.notKey (zE r))=es' from e1]
   exact e2
 . refine List.Perm.trans ?_ (hp.symm.map _)
   rw[List.map_cons,<- hg,<- hs]
end
def MapAt (k:TypeId) (g h:Fd->P2) (w:World) (b:Nat) (T:List Fd):Prop:=∃D,w.ownsMap Tryz.prog k RP b T.length D/\MR g h D T
theorem zXz {k:TypeId} {w:World} {b n:Nat} {D:Dt} (h:w.ownsMap Tryz.prog k RP b n D):w.ownsMap Tryz.prog k RP b (Maps.size D) D:=by
 obtain ⟨es,clock,hb,F,hs,rfl⟩:=h
 exact ⟨es,clock,hb,F,by simp[Maps.size,length_sorted],rfl⟩
theorem zCq {k:TypeId} {g h:Fd->P2} {w:World} {b n:Nat} {D:Dt} {T:List Fd} (ho:w.ownsMap Tryz.prog k RP b n D) (m:MR g h D T):MapAt k g h w b T :=
 ⟨D,m.size ▸ zXz ho,m⟩
theorem MapAt.lt {k:TypeId} {g h:Fd->P2} {w:World} {b:Nat} {T:List Fd} (m:MapAt k g h w b T):b<w.heap.size:=by
 obtain ⟨D,ho,_⟩:=m
 exact ho.lt
theorem MapAt.kept {k:TypeId} {g h:Fd->P2} {w w':World} {b:Nat} {T:List Fd} (m:MapAt k g h w b T) (e:w'.heap[b]? = w.heap[b]?):MapAt k g h w' b T:=by
 obtain ⟨D,⟨es,clock,hb,rest⟩,hm⟩:=m
 exact ⟨D,⟨es,clock,e.trans hb,rest⟩,hm⟩
theorem MapAt.perm {k:TypeId} {g h:Fd->P2} {w:World} {b:Nat} {T T':List Fd} (m:MapAt k g h w b T) (hp:T.Perm T'):MapAt k g h w b T':=by
 obtain ⟨D,ho,hm⟩:=m
 exact zCq ho (hm.perm hp)
structure MapTy (t k e:TypeId):Prop where
 K:Keyed Tryz.prog k
 ht:Tryz.prog.underlying t=some (.map k e)
 hz:∀w:World,(zeroValue e).run Tryz.prog w=.ok (P2V (0,0)) w
 key:∀a:P2,WfP a->keyOf Tryz.prog k (P2V a)=some (zE a)
 inv:∀key kl,keyOf Tryz.prog k key=some kl->∃x:P2,key=P2V x/\WfP x
theorem inv_ref:∀key kl,keyOf Tryz.prog 33 key=some kl->∃x:P2,key=P2V x/\WfP x:=by
 intro key kl h
 obtain ⟨m,hm⟩:=zCh
 have hc:Tryz.prog.cellsOf 33=2:=by kernel_rfl
 have hi:Tryz.prog.cellsOf 3=1:=by kernel_rfl
 unfold keyOf at h
 simp only[Tryz.underlying33] at h
 split at h
 . next hf =>
   simp only[Bool.and_eq_true] at hf
   obtain ⟨ls,hls,_⟩:=Option.map_eq_some_iff.1 h
   have hf2:=hf.2
   cases key<;>simp[Value.formed,Tryz.underlying33] at hf2
   next cs =>
   rw[hm] at hls
   unfold Program.keyLits at hls
   simp only[Tryz.underlying33,Value.cells] at hls
   split at hls
   . next hl =>
     obtain ⟨l,rfl⟩:∃l:List Value,cs=l.toArray:=⟨cs.toList,by simp⟩
     have hl2:l.length=2:=by rw[<- hc];simpa using hl.1
     match l,hl2 with
     | [a,b],_ =>
      obtain ⟨ll,hll,_⟩:=Option.map_eq_some_iff.1 hls
      simp only[List.mapM_cons,List.mapM_nil,hi,List.drop,List.take] at hll
      cases h0:Tryz.prog.keyLits (m+1+1) 3 [a] with
      | none=>simp[h0] at hll
      | some la =>
       cases h1:Tryz.prog.keyLits (m+1+1) 3 [b] with
       | none=>simp[h0,h1] at hll
       | some lb =>
        obtain ⟨x,ex,_⟩:=keyLits_int' Tryz.underlying3 h0
        obtain ⟨y,ey,_⟩:=keyLits_int' Tryz.underlying3 h1
        cases ex
        cases ey
        refine ⟨(x,y),rfl,?_,?_⟩
        . unfold Program.keyLits at h0
          simp[Tryz.underlying3] at h0
          exact h0.1
        . unfold Program.keyLits at h1
          simp[Tryz.underlying3] at h1
          exact h1.1
   . cases hls
 . cases h
theorem inv_spot:∀key kl,keyOf Tryz.prog 69 key=some kl->∃x:P2,key=P2V x/\WfP x:=by
 intro key kl h
 obtain ⟨m,hm⟩:=zCh
 have hc:Tryz.prog.cellsOf 69=2:=by kernel_rfl
 have hi:Tryz.prog.cellsOf 3=1:=by kernel_rfl
 unfold keyOf at h
 simp only[Tryz.underlying69] at h
 split at h
 . next hf =>
   simp only[Bool.and_eq_true] at hf
   obtain ⟨ls,hls,_⟩:=Option.map_eq_some_iff.1 h
   have hf2:=hf.2
   cases key<;>simp[Value.formed,Tryz.underlying69] at hf2
   next cs =>
   rw[hm] at hls
   unfold Program.keyLits at hls
   simp only[Tryz.underlying69,Value.cells] at hls
   split at hls
   . next hl =>
     obtain ⟨l,rfl⟩:∃l:List Value,cs=l.toArray:=⟨cs.toList,by simp⟩
     have hl2:l.length=2:=by rw[<- hc];simpa using hl.1
     match l,hl2 with
     | [a,b],_ =>
      obtain ⟨ll,hll,_⟩:=Option.map_eq_some_iff.1 hls
      simp only[List.mapM_cons,List.mapM_nil,hi,List.drop,List.take] at hll
      cases h0:Tryz.prog.keyLits (m+1+1) 3 [a] with
      | none=>simp[h0] at hll
      | some la =>
       cases h1:Tryz.prog.keyLits (m+1+1) 3 [b] with
       | none=>simp[h0,h1] at hll
       | some lb =>
        obtain ⟨x,ex,_⟩:=keyLits_int' Tryz.underlying3 h0
        obtain ⟨y,ey,_⟩:=keyLits_int' Tryz.underlying3 h1
        cases ex
        cases ey
        refine ⟨(x,y),rfl,?_,?_⟩
        . unfold Program.keyLits at h0
          simp[Tryz.underlying3] at h0
          exact h0.1
        . unfold Program.keyLits at h1
          simp[Tryz.underlying3] at h1
          exact h1.1
   . cases hls
 . cases h
theorem mt_spots:MapTy 136 33 69:=⟨law_ref,Tryz.underlying136,λw=>by kernel_rfl,zQa,inv_ref⟩
theorem mt_refs:MapTy 137 69 33:=⟨law_spot,Tryz.underlying137,λw=>by kernel_rfl,key_spot,inv_spot⟩
def lk (g h:Fd->P2) (T:List Fd) (r:P2):Option P2:=(T.find? λf=>g f==r).map h
section
variable {t k e:TypeId} (M:MapTy t k e) {g h:Fd->P2} {T T':List Fd} {w:World} {b:Nat} {r:P2} {ops:Array Oper} {rest:List Oper} {o:Oper} {a:Act} {Q:Exit->Act->World->Prop}
include M
omit M in
theorem look_at (m:MapAt k g h w b T) (hn:(T.map g).Nodup) (hw:GWf g T) (hr:WfP r):∃D,w.ownsMap Tryz.prog k RP b T.length D/\Maps.has D (zE r)=(lk g h T r).isSome/\D.atKey (zE r) (dat (0,0))=dat ((lk g h T r).getD (0,0)):=by
 obtain ⟨D,ho,hm⟩:=m
 have hh:=hm.has hw hr
 refine ⟨D,ho,?_,?_⟩
 . rw[hh]
   unfold lk
   rw[Option.isSome_map,zJz]
 . unfold lk
   cases hf:T.find? λf=>g f==r with
   | none =>
    have:(T.any λf=>g f==r)=false:=by
     rw[<- zJz,hf];rfl
    rw[Maps.atKey_of_not_has (hh.trans this)]
    rfl
   | some f =>
    have h1:g f=r:=by simpa using List.find?_some hf
    rw[<- h1]
    exact hm.at hn hw (List.mem_of_find?_eq_some hf) _
theorem zPb (hown:MapAt k g h w b T) (hn:(T.map g).Nodup) (hw:GWf g T) (hr:WfP r):(Instr.lookup t (.map (some b)) (P2V r) true).run Tryz.prog w=.ok (.tuple #[P2V ((lk g h T r).getD (0,0)),.bool (lk g h T r).isSome]) w:=by
 obtain ⟨D,ho,h1,h2⟩:=look_at hown hn hw hr
 obtain ⟨v,ps,hrun,hv⟩:=ho.look_ok M.K M.ht (M.hz w) (rp_mk (0,0)) (M.key r hr)
 rw[h2] at hv
 rw[rp_val hv,h1] at hrun
 exact hrun
theorem zWs {f:Fd} (hown:MapAt k g h w b T) (hl:T.length<=1000000) (hw:GWf g T) (hr:WfP (g f)) (hp:T'.Perm (f::T.filter λf'=>g f' != g f)) :
 ∃w',(Instr.mapUpdate t (.map (some b)) (P2V (g f)) (P2V (h f))).run Tryz.prog w=.ok () w'/\MapAt k g h w' b T'/\w.mapTurned w' b:=by
 obtain ⟨D,ho,hd⟩:=hown
 obtain ⟨w',hrun,r1,r2⟩:=ho.store M.K M.ht (by unfold maxLen;omega) (M.key _ hr) (rp_mk (h f))
 exact ⟨w',hrun,zCq r1 (hd.put hw hr rfl rfl hp),r2⟩
theorem run_len (ty:TypeId) (hown:MapAt k g h w b T):(Builtin.len_ #[t] ty #[.map (some b)]).run Tryz.prog w=.ok (.int .i64 (T.length:Int)) w:=by
 obtain ⟨D,ho,hd⟩:=hown
 rw[ho.len M.ht ty,hd.size]
theorem zYj {K:Act->World->Prop} (m x:Operand) (hop:o.op=Op.call { callee:=Callee.builtin Builtin.delete,args:=#[m,x],argTypes:=#[t,k] }) (hm:a.eval m=.map (some b)) (hx:a.eval x=P2V r) (hown:MapAt k g h w b T) (hw:GWf g T) (hr:WfP r)
 (hK:∀w',MapAt k g h w' b (T.filter λf=>g f != r)->w.mapTurned w' b->K (a.put o.dst (.tuple #[])) w'):Oper.wp Tryz.prog o a w K Q:=by
 obtain ⟨D,ho,hd⟩:=hown
 obtain ⟨w',hrun,r1,r2⟩:=ho.drop M.K M.ht (M.key r hr) o.type
 unfold Oper.wp
 simp[execOp,hop,resolve,invoke,builtin,hm,hx,hrun,Result.andThen]
 exact hK w' (zCq r1 (hd.del hw hr)) r2
theorem zKr (hg:o.guard=none) (m x:Operand) (hop:o.op=Op.call { callee:=Callee.builtin Builtin.delete,args:=#[m,x],argTypes:=#[t,k] }) (hm:a.eval m=.map (some b)) (hx:a.eval x=P2V r) (hown:MapAt k g h w b T) (hw:GWf g T) (hr:WfP r)
 (hK:∀w',MapAt k g h w' b (T.filter λf=>g f != r)->w.mapTurned w' b->wpList Tryz.prog ops Q rest (a.put o.dst (.tuple #[])) w'):wpList Tryz.prog ops Q (o::rest) a w :=
 wpList_plain hg λ_ hK'=>zYj M m x hop hm hx hown hw hr λw' h1 h2=>hK' _ _ (hK w' h1 h2)
omit M
def RgS (k:TypeId) (g h:Fd->P2) (w:World) (b i:Nat) (T S:List Fd) (cnt:Nat):Prop :=
 ∃D left,w.ranges Tryz.prog k RP b i T.length D left cnt/\MR g h D T/\S.Perm (T.filter λf => !left (zE (g f)))
theorem RgS.left {i cnt:Nat} {S:List Fd} (h1:RgS k g h w b i T S cnt):w.rangeLeft b i=cnt:=by
 obtain ⟨D,left,h2,_⟩:=h1
 exact h2.left_eq
theorem RgS.kept {i cnt:Nat} {S:List Fd} {w':World} {row:Option Nat} (h1:RgS k g h w b i T S cnt) (hg:w.grownBy w' row) (hb':some b≠row) (hi:some i≠row):RgS k g h w' b i T S cnt:=by
 obtain ⟨D,left,h2,h3⟩:=h1
 exact ⟨D,left,h2.kept hg hb' hi,h3⟩
theorem RgS.len {i cnt:Nat} {S:List Fd} (h1:RgS k g h w b i T S cnt):S.length<=T.length:=by
 obtain ⟨D,left,_,_,h3⟩:=h1
 rw[h3.length_eq]
 exact List.length_filter_le _ _
theorem zNa {l:List Fd} (hn:(l.map g).Nodup):l.Nodup:=by
 rw[List.nodup_iff_pairwise_ne,List.pairwise_map] at hn
 rw[List.nodup_iff_pairwise_ne]
 exact hn.imp λh e=>h (by rw[e])
theorem zWp {left:Lit->Bool} (hn:(T.map g).Nodup) (hw:GWf g T) {f:Fd} (hf:f∈T) (hl:left (zE (g f))=true):(f::T.filter λx => !left (zE (g x))).Perm (T.filter λx => !(left (zE (g x)) && !(zE (g x)).sameKey (zE (g f)))):=by
 have hT:T.Nodup:=zNa hn
 refine (List.perm_ext_iff_of_nodup ?_ (hT.filter _)).2 λx=>?_
 . rw[List.nodup_cons]
   exact ⟨λhx=>by simp[hl] at hx,hT.filter _⟩
 . rw[List.mem_cons,List.mem_filter,List.mem_filter]
   constructor
   . rintro (rfl | ⟨hx,he⟩)
     . exact ⟨hf,by simp[(zAz _ _).2]⟩
     . exact ⟨hx,by simp at he;simp[he]⟩
   . rintro ⟨hx,he⟩
     by_cases e1:left (zE (g x))=true
     . have h2:(zE (g x)).sameKey (zE (g f))=true:=by simpa[e1] using he
       have h3:=zEs (hw x hx) (hw f hf) ((zAz _ _).1 h2)
       exact .inl (vr hn hx hf h3)
     . exact .inr ⟨hx,by simpa using e1⟩
include M
theorem zJc (hg:o.guard=none) (m:Operand) (hop:o.op=Op.range t m) (hm:a.eval m=.map (some b)) (hown:MapAt k g h w b T) (hw:GWf g T)
 (hK:∀w',RgS k g h w' b w.heap.size T [] T.length->w.grownBy w' none->w'.heap.size=w.heap.size+1->wpList Tryz.prog ops Q rest (a.put o.dst (.pointer (some ⟨w.heap.size,0,none⟩))) w'):wpList Tryz.prog ops Q (o::rest) a w:=by
 obtain ⟨D,ho,hd⟩:=hown
 refine wpList_range_own w hg m t hop k e M.K M.ht RP b T.length D hm ho λw' h1 h2 h3=>hK w' ⟨D,_,by rw[<- hd.size];exact hd.size.symm ▸ h1,hd,?_⟩ h2 h3
 have:(T.filter λf => !Maps.has D (zE (g f))) = []:=by
  rw[List.filter_eq_nil_iff]
  intro f hf
  rw[hd.has hw (hw f hf)]
  simp
  exact ⟨_,_,_,_,hf,rfl⟩
 rw[this]
theorem zOr (hg:o.guard=none) (it:Operand) (hop:o.op=Op.next it false) {i cnt:Nat} {S:List Fd} (hit:a.eval it=.pointer (some ⟨i,0,none⟩)) (h1:RgS k g h w b i T S cnt) (hn:(T.map g).Nodup) (hw:GWf g T)
 (hDone:S.Perm T->wpList Tryz.prog ops Q rest (a.put o.dst (.tuple #[.bool false])) w)
 (hMore:∀(f:Fd) (w':World) (cnt':Nat),f∈T->RgS k g h w' b i T (f::S) cnt'->cnt'<cnt->w.grownBy w' (some i)->w'.heap.size=w.heap.size->(Instr.entry (.pointer (some ⟨i,0,none⟩))).run Tryz.prog w'=.ok (.tuple #[P2V (g f),P2V (h f)]) w' ->
  wpList Tryz.prog ops Q rest (a.put o.dst (.tuple #[.bool true,P2V (g f),P2V (h f)])) w'):wpList Tryz.prog ops Q (o::rest) a w:=by
 obtain ⟨D,left,h2,hd,hs⟩:=h1
 refine wpList_next_ranges w hg it hop k M.K RP P2V P2V (λkey kl hk=>by obtain ⟨x,rfl,_⟩:=M.inv key kl hk;exact ⟨x,rfl⟩) (λv y hv=>by obtain ⟨c,rfl,_⟩:=zWx hv;exact ⟨c,rfl⟩) b i T.length D left cnt hit h2 (λ_ hl=>hDone ?_) λx c kl y w' cnt' hkey hlk hv hat hrg hlt hgr hsz hen=>?_
 . have:(T.filter λf => !left (zE (g f)))=T:=by
    rw[List.filter_eq_self]
    intro f _
    simp[hl]
   rwa [this] at hs
 . obtain ⟨x',ex,hwx⟩:=M.inv _ _ hkey
   have ex2:x=x':=by simp at ex;exact Prod.ext ex.1 ex.2
   subst ex2
   have e2:=M.key x hwx
   rw[hkey] at e2
   cases e2
   have hh:=Maps.has_true_of_atKey hat
   rw[hd.has hw hwx,List.any_eq_true] at hh
   obtain ⟨f,hf,hfx⟩:=hh
   have hgx:g f=x:=by simpa using hfx
   subst hgx
   obtain ⟨c',ec,ey⟩:=zWx hv
   have ec2:c=c':=by simp at ec;exact Prod.ext ec.1 ec.2
   subst ec2
   have hcc:h f=c:=yAf (by rw[<- hd.at hn hw hf (dat (0,0)),hat,ey])
   subst hcc
   exact hMore f w' cnt' hf ⟨D,_,hrg,hd,(hs.cons f).trans (zWp hn hw hf hlk)⟩ hlt hgr hsz hen
end
end
section
open Go.RowKit Go.Maps Go.WideShapes
def MapOpt (k:TypeId) (g h:Fd->P2) (w:World) (o:Option Nat) (T:List Fd):Prop :=
 match o with
 | none=>T = []
 | some b=>MapAt k g h w b T
section
variable {k:TypeId} {g h:Fd->P2} {w w':World} {o:Option Nat} {T:List Fd}
theorem MapOpt.kept (m:MapOpt k g h w o T) (e:∀b,o=some b->w'.heap[b]? = w.heap[b]?):MapOpt k g h w' o T:=by
 cases o with
 | none=>exact m
 | some b=>exact MapAt.kept m (e b rfl)
theorem MapOpt.lt (m:MapOpt k g h w o T):∀b,o=some b->b<w.heap.size:=λb e=>by
 subst e
 exact MapAt.lt m
theorem MapOpt.below {n:Nat} (m:MapOpt k g h w o T) (hb:Below n w w') (hn:w.heap.size<=n):MapOpt k g h w' o T :=
 m.kept λb e=>hb.block b (Nat.lt_of_lt_of_le (m.lt b e) hn)
theorem MapOpt.old (m:MapOpt k g h w o T) (x:Obj):MapOpt k g h (w.alloc x) o T:=m.kept λb e=>qF _ _ (m.lt b e)
theorem MapOpt.drew (m:MapOpt k g h w o T):MapOpt k g h w.drew o T:=m.kept λ_ _=>rfl
variable {t e:TypeId} (M:MapTy t k e) {r:P2}
include M
theorem yx (m:MapOpt k g h w o T) (hn:(T.map g).Nodup) (hw:GWf g T) (hr:WfP r):(Instr.lookup t (.map o) (P2V r) true).run Tryz.prog w=.ok (.tuple #[P2V ((lk g h T r).getD (0,0)),.bool (lk g h T r).isSome]) w:=by
 cases o with
 | none =>
  obtain rfl:T = []:=m
  exact Maps.look_nil true M.K M.ht (M.hz w) (M.key r hr)
 | some b=>exact zPb M m hn hw hr
theorem zPc (ty:TypeId) (m:MapOpt k g h w o T):(Builtin.len_ #[t] ty #[.map o]).run Tryz.prog w=.ok (.int .i64 (T.length:Int)) w:=by
 cases o with
 | none =>
  obtain rfl:T = []:=m
  exact Maps.len_nil M.ht ty
 | some b=>exact run_len M ty m
end
structure Tab (w:World) (p:Nat) (x:Nat->Prop) (T:List Fd):Prop where
 wf:WfT T
 ints:TInts T
 maps:∃b c:Option Nat,w.heap[p]? = some (.cells #[.map b,.map c] 139 (0,0))/\MapOpt 33 Prod.fst Prod.snd w b T/\MapOpt 69 Prod.snd Prod.fst w c T/\b.isSome=c.isSome/\(∀n m,b=some n->c=some m->n≠m/\p≠n/\p≠m/\¬x n/\¬x m)/\¬x p
 there:∀b,x b->b<w.heap.size
section
variable {w w':World} {p:Nat} {x y:Nat->Prop} {T:List Fd}
theorem yAt {b c:Option Nat} (h:b.isSome=c.isSome):(b=none/\c=none)\/∃n m,b=some n/\c=some m:=by
 cases b<;>cases c<;>simp_all
theorem Tab.cases (h:Tab w p x T):(T = []/\w.heap[p]? = some (.cells #[.map none,.map none] 139 (0,0))/\¬x p)\/∃b c,w.heap[p]? = some (.cells #[.map (some b),.map (some c)] 139 (0,0))/\MapAt 33 Prod.fst Prod.snd w b T/\MapAt 69 Prod.snd Prod.fst w c T/\b≠c/\p≠b/\p≠c/\¬x p/\¬x b/\¬x c:=by
 obtain ⟨hw,hi,⟨b,c,h1,h2,h3,h4,h5,h6⟩,-⟩:=h
 rcases yAt h4 with ⟨rfl,rfl⟩ | ⟨n,m,rfl,rfl⟩
 . exact .inl ⟨h2,h1,h6⟩
 . obtain ⟨a1,a2,a3,a4,a5⟩:=h5 n m rfl rfl
   exact .inr ⟨n,m,h1,h2,h3,a1,a2,a3,h6,a4,a5⟩
theorem Tab.of_maps {b c:Nat} (hw:WfT T) (hi:TInts T) (h1:w.heap[p]? = some (.cells #[.map (some b),.map (some c)] 139 (0,0))) (h2:MapAt 33 Prod.fst Prod.snd w b T) (h3:MapAt 69 Prod.snd Prod.fst w c T) (h4:b≠c) (h5:p≠b) (h6:p≠c) (h7:¬x p) (h8:¬x b) (h9:¬x c) (hx:∀b,x b->b<w.heap.size):Tab w p x T :=
 ⟨hw,hi,⟨some b,some c,h1,h2,h3,rfl,λn m e1 e2=>by cases e1;cases e2;exact ⟨h4,h5,h6,h8,h9⟩,h7⟩,hx⟩
theorem Tab.of_nil (h1:w.heap[p]? = some (.cells #[.map none,.map none] 139 (0,0))) (h7:¬x p) (hx:∀b,x b->b<w.heap.size):Tab w p x [] :=
 ⟨⟨List.nodup_nil,List.nodup_nil,(λ_ hf=>nomatch hf)⟩,(λ_ hf=>nomatch hf),⟨none,none,h1,rfl,rfl,rfl,(λ_ _ e=>nomatch e),h7⟩,hx⟩
theorem Tab.gwf (h:Tab w p x T):GWf Prod.fst T/\GWf Prod.snd T:=⟨λf hf=>(h.ints f hf).1,λf hf=>(h.ints f hf).2⟩
theorem Tab.grow (h:Tab w p x T) (ht:Turned x w w'):Tab w' p (λb=>x b\/(w.heap.size<=b/\b<w'.heap.size)) T:=by
 have hx:∀b,(x b\/(w.heap.size<=b/\b<w'.heap.size))->b<w'.heap.size:=λb hb=>hb.elim (λk=>Nat.lt_of_lt_of_le (h.there b k) ht.size) λk=>k.2
 rcases h.cases with ⟨rfl,h1,h7⟩ | ⟨b,c,h1,h2,h3,h4,h5,h6,h7,h8,h9⟩
 . have l1:=qD h1
   refine Tab.of_nil ((ht.block _ l1 h7).trans h1) ?_ hx
   rintro (h | ⟨h,_⟩)
   . exact h7 h
   . omega
 have l1:=qD h1
 have l2:=h2.lt
 have l3:=h3.lt
 refine Tab.of_maps h.wf h.ints ((ht.block _ l1 h7).trans h1) (h2.kept (ht.block _ l2 h8)) (h3.kept (ht.block _ l3 h9)) h4 h5 h6 ?_ ?_ ?_ hx
 . rintro (h | ⟨h,_⟩)
   . exact h7 h
   . omega
 . rintro (h | ⟨h,_⟩)
   . exact h8 h
   . omega
 . rintro (h | ⟨h,_⟩)
   . exact h9 h
   . omega
theorem Tab.less (h:Tab w p x T) (hy:∀b,y b->x b):Tab w p y T:=by
 obtain ⟨hw,hi,⟨b,c,h1,h2,h3,h4,h5,h6⟩,hx⟩:=h
 exact ⟨hw,hi,⟨b,c,h1,h2,h3,h4,λn m e1 e2=>by
  obtain ⟨a1,a2,a3,a4,a5⟩:=h5 n m e1 e2
  exact ⟨a1,a2,a3,λk=>a4 (hy _ k),λk=>a5 (hy _ k)⟩,λk=>h6 (hy _ k)⟩,λk h=>hx k (hy k h)⟩
theorem Tab.turned (h:Tab w p x T) (ht:Turned x w w'):Tab w' p x T:=(h.grow ht).less λ_ k=>.inl k
theorem Tab.more (h:Tab w p x T) (hb:Below w.heap.size w w'):Tab w' p (λb=>x b\/(w.heap.size<=b/\b<w'.heap.size)) T:=h.grow (.of_below hb)
theorem Tab.below (h:Tab w p x T) (hb:Below w.heap.size w w'):Tab w' p x T:=h.turned (.of_below hb)
theorem Tab.perm {T':List Fd} (h:Tab w p x T) (hp:T.Perm T'):Tab w p x T':=by
 rcases h.cases with ⟨rfl,h1,h7⟩ | ⟨b,c,h1,h2,h3,h4,h5,h6,h7,h8,h9⟩
 . rw[List.perm_nil.1 hp.symm]
   exact Tab.of_nil h1 h7 h.there
 exact Tab.of_maps (h.wf.perm hp) (λf hf=>h.ints f (hp.mem_iff.2 hf)) h1 (h2.perm hp) (h3.perm hp) h4 h5 h6 h7 h8 h9 h.there
theorem qG {w:World} {g:Nat} {a b:Value} {t:TypeId} (h:w.heap[g]? = some (.cells #[a,b] t (0,0))):w.cell? ⟨g,0,none⟩=some a/\w.cell? ⟨g,1,none⟩=some b/\w.frozen? ⟨g,0,none⟩=false/\w.frozen? ⟨g,1,none⟩=false:=by
 simp[World.cell?,World.frozen?,h]
theorem vB {W:World} {g:Nat} {x y:Value} {t:TypeId} (h:W.heap[g]? = some (.cells #[x,y] t (0,0))) (a b:Value):((W.setCell ⟨g,0,none⟩ a).setCell ⟨g,1,none⟩ b).heap[g]? = some (.cells #[a,b] t (0,0)):=by
 rw[heap_setCell_same _ _ 1 _ _ _ (heap_setCell_same _ _ 0 _ _ _ h)];simp
theorem lk_at (T:List Fd) (r:P2):lk Prod.fst Prod.snd T r=atT T r:=rfl
theorem lk_on (T:List Fd) (s:P2):lk Prod.snd Prod.fst T s=onT T s:=rfl
theorem zAx (r:P2) (h:Tab w p x T) (_hl:T.length<=1000) (hr:WfP r):Calls Tryz.prog 92 #[.pointer (some ⟨p,0,none⟩),P2V r] w λe w'=>e=.returned (.tuple #[P2V ((atT T r).getD (0,0)),.bool (atT T r).isSome])/\Below w.heap.size w w':=by
 obtain ⟨hg1,hg2⟩:=h.gwf
 obtain ⟨hw,hi,⟨b,c,h1,h2,h3,h4,h5,h6⟩,-⟩:=h
 have hl1:=qD h1
 have HM:=hI h2
 have HN:=hI hw.refs
 have HG:=hI hg1
 have HR:=hI hr
 have H1:=hI h1
 clear h1 h2 h3 hg1 hg2 hw hi hr h4 h5 h6
 obtain ⟨W,hW⟩:∃W,(w.alloc (.cells #[.int .i64 r.1,.int .i64 r.2] 33)).alloc (.cells #[.int .i64 0,.int .i64 0] 69)=W:=⟨_,rfl⟩
 have HB:Hid (Below w.heap.size w W):=hI (by rw[<- hW];exact (bR.alloc nL _).alloc (by simp) _)
 have HW:Hid (W.heap[w.heap.size]? = some (.cells #[.int .i64 r.1,.int .i64 r.2] 33 (0,0))):=hI (by rw[<- hW];exact (qF _ _ (by simp)).trans (heap_alloc_new w _))
 have HW2:Hid (W.heap[w.heap.size+1]? = some (.cells #[.int .i64 0,.int .i64 0] 69 (0,0))):=hI (by rw[<- hW];have:=heap_alloc_new (w.alloc (.cells #[.int .i64 r.1,.int .i64 r.2] 33)) (.cells #[.int .i64 0,.int .i64 0] 69);simpa using this)
 have HP:=hI ((HB.out.block _ hl1).trans H1.out)
 have HM2:=hI (HM.out.below HB.out nL)
 obtain ⟨d0,d1,-,-⟩:=qG HP.out
 obtain ⟨e0,e1,-,-⟩:=qG HW.out
 obtain ⟨f0,f1,f2,f3⟩:=qG HW2.out
 have l0:=yx mt_spots (w:=W.drew) (r:=r) HM2.out.drew HN.out HG.out HR.out
 have l1:=yx mt_spots (w:=(W.alloc (.cells #[.int .i64 0,.int .i64 0] 69)).drew) (r:=r) (HM2.out.old _).drew HN.out HG.out HR.out
 rw[lk_at] at l0 l1
 have hz0:=qD HP.out
 have hz1:=qD HW.out
 have hz2:=qD HW2.out
 generalize hla:atT T r=q at *
 have HX:=hI (vB HW2.out (.int .i64 (q.getD (0,0)).1) (.int .i64 (q.getD (0,0)).2))
 obtain ⟨m0,m1,-,-⟩:=qG ((qF _ (.cells #[.int .i64 (q.getD (0,0)).1,.int .i64 (q.getD (0,0)).2] 69) (by simpa using hz2)).trans HX.out)
 have HQ:=hI hla
 clear hla
 go_enter Tryz.func92,Tryz.ntmps92
 go_upto_region 3 with fail
 clear hW
 go_region
 all_goals
  go_wp2_with fail
  try simp only[Exit.inBlock,Exit.then]
  refine bodyPost_ret (by simp[results,Tryz.results92,go_sem,m0,m1];try rfl) rfl ?_
  refine ⟨rfl,?_⟩
  exact (((HB.out.setCell (p:=⟨w.heap.size+1,0,none⟩) (by simp) _).setCell (p:=⟨w.heap.size+1,1,none⟩) (by simp) _).alloc (by simp;omega) _).drew
theorem zBv (r:P2) (h:Tab w p x T) (_hl:T.length<=1000) (hr:WfP r):Calls Tryz.prog 89 #[.pointer (some ⟨p,0,none⟩),P2V r] w λe w'=>e=.returned (.tuple #[P2V ((onT T r).getD (0,0)),.bool (onT T r).isSome])/\Below w.heap.size w w':=by
 obtain ⟨hg1,hg2⟩:=h.gwf
 obtain ⟨hw,hi,⟨b,c,h1,h2,h3,h4,h5,h6⟩,-⟩:=h
 have hl1:=qD h1
 have HM:=hI h3
 have HN:=hI hw.spots
 have HG:=hI hg2
 have HR:=hI hr
 have H1:=hI h1
 clear h1 h2 h3 hg1 hg2 hw hi hr h4 h5 h6
 obtain ⟨W,hW⟩:∃W,(w.alloc (.cells #[.int .i64 r.1,.int .i64 r.2] 69)).alloc (.cells #[.int .i64 0,.int .i64 0] 33)=W:=⟨_,rfl⟩
 have HB:Hid (Below w.heap.size w W):=hI (by rw[<- hW];exact (bR.alloc nL _).alloc (by simp) _)
 have HW:Hid (W.heap[w.heap.size]? = some (.cells #[.int .i64 r.1,.int .i64 r.2] 69 (0,0))):=hI (by rw[<- hW];exact (qF _ _ (by simp)).trans (heap_alloc_new w _))
 have HW2:Hid (W.heap[w.heap.size+1]? = some (.cells #[.int .i64 0,.int .i64 0] 33 (0,0))):=hI (by rw[<- hW];have:=heap_alloc_new (w.alloc (.cells #[.int .i64 r.1,.int .i64 r.2] 69)) (.cells #[.int .i64 0,.int .i64 0] 33);simpa using this)
 have HP:=hI ((HB.out.block _ hl1).trans H1.out)
 have HM2:=hI (HM.out.below HB.out nL)
 obtain ⟨d0,d1,-,-⟩:=qG HP.out
 obtain ⟨e0,e1,-,-⟩:=qG HW.out
 obtain ⟨f0,f1,f2,f3⟩:=qG HW2.out
 have l0:=yx mt_refs (w:=W.drew) (r:=r) HM2.out.drew HN.out HG.out HR.out
 have l1:=yx mt_refs (w:=(W.alloc (.cells #[.int .i64 0,.int .i64 0] 33)).drew) (r:=r) (HM2.out.old _).drew HN.out HG.out HR.out
 rw[lk_on] at l0 l1
 have hz0:=qD HP.out
 have hz1:=qD HW.out
 have hz2:=qD HW2.out
 generalize hla:onT T r=q at *
 have HX:=hI (vB HW2.out (.int .i64 (q.getD (0,0)).1) (.int .i64 (q.getD (0,0)).2))
 obtain ⟨m0,m1,-,-⟩:=qG ((qF _ (.cells #[.int .i64 (q.getD (0,0)).1,.int .i64 (q.getD (0,0)).2] 33) (by simpa using hz2)).trans HX.out)
 have HQ:=hI hla
 clear hla
 go_enter Tryz.func89,Tryz.ntmps89
 go_upto_region 3 with fail
 clear hW
 go_region
 all_goals
  go_wp2_with fail
  try simp only[Exit.inBlock,Exit.then]
  refine bodyPost_ret (by simp[results,Tryz.results89,go_sem,m0,m1];try rfl) rfl ?_
  refine ⟨rfl,?_⟩
  exact (((HB.out.setCell (p:=⟨w.heap.size+1,0,none⟩) (by simp) _).setCell (p:=⟨w.heap.size+1,1,none⟩) (by simp) _).alloc (by simp;omega) _).drew
end
end
section
open Go.RowKit Go.Maps Go.WideShapes Go.ChangeMaps
theorem kl_ref:WideMaps.KeyLaw Tryz.prog 33:=deep_law_laid laid (m:=2) (by decide) (by decide +kernel) (by kernel_rfl) (by kernel_rfl)
theorem zYz:WideMaps.KeyLaw Tryz.prog 69:=deep_law_laid laid (m:=2) (by decide) (by decide +kernel) (by kernel_rfl) (by kernel_rfl)
section
variable {t k e:TypeId} (M:MapTy t k e) (K:WideMaps.KeyLaw Tryz.prog k) {g h:Fd->P2} {T T':List Fd} {w:World} {b:Nat}
include M K
theorem zFk {f:Fd} (hown:MapAt k g h w b T) (hl:T.length<=1000000) (hw:GWf g T) (hr:WfP (g f)) (hp:T'.Perm (f::T.filter λf'=>g f' != g f)) :
 ∃(v0:Value) (st:Nat) (o:Obj),(Instr.mapEntry t (.map (some b)) (P2V (g f))).run Tryz.prog w=.ok (.tuple #[v0,goInt st]) (setBlock w b o) /\
  ∀w2:World,w2.heap[b]? = some o->∃o',(Instr.entryStore t (.map (some b)) (goInt st) (P2V (h f))).run Tryz.prog w2=.ok () (setBlock w2 b o')/\MapAt k g h (setBlock w2 b o') b T':=by
 obtain ⟨w',hrun,hm,-⟩:=zWs M hown hl hw hr hp
 obtain ⟨D,⟨es,clock,hb,F,-,-⟩,-⟩:=hown
 obtain ⟨v0,st,es1,clock1,h1,-,h3⟩:=WideElems.entry_then_store K M.ht (λu=>M.hz u) hb F (M.key _ hr)
 refine ⟨v0,st,_,h1,λw2 h2=>?_⟩
 obtain ⟨es',clock',h4,h5⟩:=h3 w2 (P2V (h f)) h2
 refine ⟨_,h4,?_⟩
 rw[hrun] at h5
 cases h5
 exact hm.kept (by rw[heap_setBlock_same h2,heap_setBlock_same hb])
end
end
section
open Go.RowKit Go.Maps Go.WideShapes
section
variable {w w':World} {p:Nat} {x y:Nat->Prop} {T:List Fd}
theorem zEp (w:World):Calls Tryz.prog 43 #[] w λe w'=>∃p,e=.returned (.pointer (some ⟨p,0,none⟩))/\Tab w' p (λb=>b<w.heap.size) []/\Below w.heap.size w w':=by
 go_enter Tryz.func43,Tryz.ntmps43
 go_wp2_with fail
 go_ret
 exact ⟨w.heap.size,rfl,Tab.of_nil (heap_alloc_new w _) (by omega) (λb hb=>Nat.lt_of_lt_of_le hb (by simp)),bR.alloc nL _⟩
theorem zEr (h:Tab w p x T) (_hl:T.length<=1000):Calls Tryz.prog 54 #[.pointer (some ⟨p,0,none⟩)] w λe w'=>e=.returned (.int .i64 (T.length:Int))/\Below w.heap.size w w':=by
 obtain ⟨hw,hi,⟨b,c,h1,h2,h3,h4⟩,-⟩:=h
 obtain ⟨c0,c1,-,-⟩:=qG h1
 have l0:=λty=>zPc mt_spots ty h2
 clear h1 h2 h3 h4 hw hi
 go_enter Tryz.func54,Tryz.ntmps54
 go_wp2_with fail
 go_ret
 exact ⟨rfl,bR⟩
theorem yt {w w':World} {b i:Nat} (h:w.mapTurned w' b) (hi:i<w.heap.size) (hne:i≠b):w'.heap[i]? = w.heap[i]? := h.grown.block i hi (by simpa using hne)
theorem zFc {w w':World} {b:Nat} {x:Nat->Prop} (h:w.mapTurned w' b) (hx:¬x b):Safe x w w' :=
 ⟨h.grown.os,h.grown.tape,h.grown.output,h.grown.size,λ_ hi hn=>yt h hi λe=>hn (e ▸ hx)⟩
theorem yAg (T:List Fd) (r:P2):(zOe T r).length<=T.length:=List.length_filter_le _ _
theorem nel_self (a:P2) (w:World):Sem.run Tryz.prog (binOp BinOp.neq 33 (P2V a) (P2V a)) w=.ok (.bool false) w:=by simp[go_sem]
theorem nel_not {r s:P2} (h:r≠s) (w:World):Sem.run Tryz.prog (binOp BinOp.neq 33 (P2V r) (P2V s)) w=.ok (.bool true) w:=by
 have e:(r=s)↔(r.1=s.1/\r.2=s.2):=Prod.ext_iff
 by_cases h1:r.1=s.1<;>by_cases h2:r.2=s.2<;>simp[go_sem,h1,h2]
 exact h (e.2 ⟨h1,h2⟩)
theorem zRd {w w':World} {x:Nat->Prop} (h:Safe x w.drew w'):Safe x w w':=⟨h.os,h.tape,h.output,h.size,λi hi hx=>Turned.block h i hi hx⟩
theorem zSx (r:P2) (h:Tab w p x T) (hl:T.length<=1000) (hr:WfP r):Calls Tryz.prog 90 #[.pointer (some ⟨p,0,none⟩),P2V r] w λe w'=>e=.returned (.bool (hasR T r))/\Tab w' p x (zOe T r)/\Safe x w w':=by
 have HH:=hI h
 have HR:=hI hr
 clear h hr
 obtain ⟨W,hW⟩:∃W,w.alloc (.cells #[.int .i64 r.1,.int .i64 r.2] 33)=W:=⟨_,rfl⟩
 have HB:Hid (Below w.heap.size w W):=hI (by rw[<- hW];exact bR.alloc nL _)
 have HW:Hid (W.heap[w.heap.size]? = some (.cells #[.int .i64 r.1,.int .i64 r.2] 33 (0,0))):=hI (by rw[<- hW];exact heap_alloc_new w _)
 obtain ⟨e0,e1,-,-⟩:=qG HW.out
 cases hq:atT T r with
 | none =>
  have HQ:=hI hq
  clear hq
  go_enter Tryz.func90,Tryz.ntmps90
  go_wp2_with (go_at_call 92;refine (zAx r (HH.out.below HB.out) hl HR.out).mono ?_;rintro e w2 ⟨rfl,hb2⟩;rw[HQ.out])
  go_ret
  have hb3:Below w.heap.size w (w2.alloc (.cells #[.int .i64 0,.int .i64 0] 69)):=(HB.out.trans (hb2.mono HB.out.size)).alloc (Nat.le_trans HB.out.size hb2.size) _
  exact ⟨ret_bool (by rw[zNw,HQ.out];rfl),by rw[zSw HQ.out];exact HH.out.below hb3,qC hb3⟩
 | some s =>
  have HQ:=hI hq
  clear hq
  go_enter Tryz.func90,Tryz.ntmps90
  go_wp2_with (go_at_call 92;refine (zAx r (HH.out.below HB.out) hl HR.out).mono ?_;rintro e w2 ⟨rfl,hb2⟩;rw[HQ.out])
  have HB2:=hI hb2
  clear hb2
  obtain ⟨W3,hW3⟩:∃W3,w2.alloc (.cells #[.int .i64 s.1,.int .i64 s.2] 69)=W3:=⟨_,rfl⟩
  rw[hW3]
  have hBW:Below W.heap.size W W3:=by rw[<- hW3];exact HB2.out.alloc HB2.out.size _
  have HB3:=hI (HB.out.trans (hBW.mono HB.out.size))
  have HS3:Hid (W3.heap[w2.heap.size]? = some (.cells #[.int .i64 s.1,.int .i64 s.2] 69 (0,0))):=hI (by rw[<- hW3];exact heap_alloc_new w2 _)
  have HR3:=hI ((hBW.block _ (qD HW.out)).trans HW.out)
  have hlt2:w.heap.size<=w2.heap.size:=Nat.le_trans HB.out.size HB2.out.size
  obtain ⟨hg1,hg2⟩:=HH.out.gwf
  have HG1:=hI hg1
  have HG2:=hI hg2
  have HI:=hI HH.out.ints
  have HWf:=hI HH.out.wf
  have hcs:=(HH.out.below HB3.out).cases
  rcases hcs with ⟨rfl,-,-⟩ | ⟨b,c,h1,h2,h3,h4,h5,h6,h7,h8,h9⟩
  . exact absurd HQ.out (by simp[atT])
  rcases HH.out.cases with ⟨rfl,-,-⟩ | ⟨b',c',k1,k2,k3,-,-,-,-,-,-⟩
  . exact absurd HQ.out (by simp[atT])
  have hbc:=((HB3.out.block _ (qD k1)).trans k1).symm.trans h1
  obtain ⟨rfl,rfl⟩:b'=b/\c'=c:=by simpa using hbc
  have HLb:=hI k2.lt
  have HLc:=hI k3.lt
  have HLp:=hI (qD k1)
  have HX:=hI (And.intro h7 (And.intro h8 h9))
  have HP3:=hI h1
  have HM3:=hI h2
  have HN3:=hI h3
  clear hW3 hBW hW hg1 hg2 h1 h2 h3 h7 h8 h9 k1 k2 k3 hbc e0 e1
  obtain ⟨u0,u1,-,-⟩:=qG HP3.out
  obtain ⟨v0,v1,-,-⟩:=qG HR3.out
  go_still_tail 5,(by kernel_rfl)
  change wpList _ _ _ _ _ W3.drew
  refine zKr mt_spots rfl (.tmp 17) (.tmp 18) rfl rfl rfl (HM3.out.kept rfl) HG1.out HR.out λw6 hM6 ht6=>?_
  have HM6:=hI hM6
  have HT6:=hI ht6
  clear hM6 ht6
  clear u0 u1 v0 v1
  have HP6:=hI ((yt (w:=W3.drew) HT6.out (qD HP3.out) h5).trans HP3.out)
  have HS6:=hI ((yt (w:=W3.drew) HT6.out (qD HS3.out) (by have:=HLb.out;omega)).trans HS3.out)
  have HN6:=hI (HN3.out.kept (yt (w:=W3.drew) HT6.out HN3.out.lt h4.symm))
  obtain ⟨u0,u1,-,-⟩:=qG HP6.out
  obtain ⟨v0,v1,-,-⟩:=qG HS6.out
  have HWs:Hid (WfP s):=hI (HI.out _ (zCz HQ.out)).2
  go_wp2_with fail
  go_still_tail 5,(by kernel_rfl)
  change wpList _ _ _ _ _ w6.drew
  refine zKr mt_refs rfl (.tmp 22) (.tmp 23) rfl rfl rfl (HN6.out.kept rfl) HG2.out HWs.out λw7 hN7 ht7=>?_
  have HN7:=hI hN7
  have HT7:=hI ht7
  clear hN7 ht7
  go_wp2_with fail
  go_ret
  have hp7:=(yt (w:=w6.drew) HT7.out (qD HP6.out) h6).trans HP6.out
  have hm7:MapAt 33 Prod.fst Prod.snd w7 b' (zOe T r):=HM6.out.kept (yt (w:=w6.drew) HT7.out HM6.out.lt h4)
  have hn7:MapAt 69 Prod.snd Prod.fst w7 c' (zOe T r):=by rw[<- zQn HWf.out HQ.out];exact HN7.out
  have hs:Safe x w w7:=((qC HB3.out).then (zRd (zFc HT6.out HX.out.2.1))).then (zRd (zFc HT7.out HX.out.2.2))
  exact ⟨ret_bool (by rw[zNw,HQ.out];rfl),Tab.of_maps (zKu HWf.out _) (zQb HI.out _) hp7 hm7 hn7 h4 h5 h6 HX.out.1 HX.out.2.1 HX.out.2.2 (λb hb=>Nat.lt_of_lt_of_le (HH.out.there b hb) hs.size),hs⟩
end
end
section
open Go.RowKit Go.Maps Go.WideShapes Go.ChangeMaps
theorem zGe (o:Option Nat) (w:World):Sem.run Tryz.prog (binOp BinOp.eql 136 (.map o) (.map none)) w=.ok (.bool o.isNone) w:=by
 simp only[binOp]
 simp[run_equal_map_nil (P:=Tryz.prog) w 136 _ _ o mt_spots.ht]
theorem zHg {w:World} {b:Nat} {o:Obj} (h:w.heap[b]? = some o) (o':Obj):(setBlock w b o').heap[b]? = some o':=by
 simp[setBlock,qD h]
theorem yW (w:World) {b i:Nat} (o:Obj) (h:i≠b):(setBlock w b o).heap[i]? = w.heap[i]? :=by
 simp[setBlock,Ne.symm h]
theorem zMc (w:World) (b:Nat) (o:Obj):(setBlock w b o).heap.size=w.heap.size:=by simp[setBlock]
structure Steps (t k:TypeId) (b:Nat) (x y:P2) (V V1 V2:World) (v:Value) (st:Nat):Prop where
 made:(Instr.mapEntry t (.map (some b)) (P2V x)).run Tryz.prog V=.ok (.tuple #[v,.int .i64 (st:Int)]) V1
 filled:(Instr.entryStore t (.map (some b)) (.int .i64 (st:Int)) (P2V y)).run Tryz.prog V1=.ok () V2
 safe:Turned (λi=>i=b) V V2
 size:V1.heap.size=V.heap.size/\V2.heap.size=V.heap.size
 mid:∀i,i≠b->V1.heap[i]? = V.heap[i]?
theorem zCi {t k e:TypeId} (M:MapTy t k e) (K:WideMaps.KeyLaw Tryz.prog k) {g h:Fd->P2} {T T':List Fd} {V:World} {b:Nat} {f:Fd} (hown:MapAt k g h V b T) (hl:T.length<=1000000) (hw:GWf g T) (hr:WfP (g f)) (hp:T'.Perm (f::T.filter λf'=>g f' != g f)) :
 ∃V1 V2 v st,Steps t k b (g f) (h f) V V1 V2 v st/\MapAt k g h V2 b T':=by
 obtain ⟨v0,st,o,q1,q2⟩:=zFk M K hown hl hw hr hp
 obtain ⟨D,⟨es,clock,hb,-⟩,-⟩:=hown
 obtain ⟨o',q3,q4⟩:=q2 (setBlock V b o) (zHg hb o)
 refine ⟨_,_,v0,st,⟨q1,q3,⟨rfl,rfl,rfl,by simp[zMc],λi _ hi=>?_⟩,⟨zMc _ _ _,by simp[zMc]⟩,λi hi=>yW _ _ hi⟩,q4⟩
 rw[yW _ _ hi,yW _ _ hi]
section
variable {w w':World} {p:Nat} {x y:Nat->Prop} {T:List Fd}
theorem zMu (r s:P2) (h:Tab w p x T) (hl:T.length<=1000) (hr:WfP r) (hs:WfP s) (e1:(T.filter λf=>f.1 != r)=T) (e2:(T.filter λf=>f.2 != s)=T) (hw':WfT ((r,s)::T)) :
 Calls Tryz.prog 91 #[.pointer (some ⟨p,0,none⟩),P2V r,P2V s] w λe w'=>e=.returned (.tuple #[])/\Tab w' p x ((r,s)::T)/\Safe x w w':=by
 have HH:=hI h
 have HR:=hI hr
 have HS:=hI hs
 have HE1:=hI e1
 have HE2:=hI e2
 have HWf':=hI hw'
 clear h hr hs e1 e2 hw'
 obtain ⟨W,hW⟩:∃W,(w.alloc (.cells #[.int .i64 r.1,.int .i64 r.2] 33)).alloc (.cells #[.int .i64 s.1,.int .i64 s.2] 69)=W:=⟨_,rfl⟩
 have HB:Hid (Below w.heap.size w W):=hI (by rw[<- hW];exact (bR.alloc nL _).alloc (by simp) _)
 have HW:Hid (W.heap[w.heap.size]? = some (.cells #[.int .i64 r.1,.int .i64 r.2] 33 (0,0))):=hI (by rw[<- hW];exact (qF _ _ (by simp)).trans (heap_alloc_new w _))
 have HW2:Hid (W.heap[w.heap.size+1]? = some (.cells #[.int .i64 s.1,.int .i64 s.2] 69 (0,0))):=hI (by rw[<- hW];have:=heap_alloc_new (w.alloc (.cells #[.int .i64 r.1,.int .i64 r.2] 33)) (.cells #[.int .i64 s.1,.int .i64 s.2] 69);simpa using this)
 obtain ⟨e0,e1,-,-⟩:=qG HW.out
 obtain ⟨f0,f1,-,-⟩:=qG HW2.out
 have HG:=hI HH.out.gwf
 rcases HH.out.cases with ⟨rfl,h1,h7⟩ | ⟨b,c,h1,h2,h3,h4,h5,h6,h7,h8,h9⟩
 . have HP3:=hI ((HB.out.block _ (qD h1)).trans h1)
   have HLp:=hI (qD h1)
   have h7':=hI h7
   clear h1 h7
   have hz:=qD HP3.out
   have hzW:W.heap.size=w.heap.size+1+1:=by rw[<- hW];simp
   obtain ⟨d0,d1,-,-⟩:=qG HP3.out
   obtain ⟨Y,hY⟩:∃Y,(W.alloc (.map #[] 0)).alloc (.map #[] 0)=Y:=⟨_,rfl⟩
   have HPY:Hid (Y.heap[p]? = some (.cells #[.map none,.map none] 139 (0,0))):=hI (by rw[<- hY,qF _ _ (by simp;omega),qF _ _ hz];exact HP3.out)
   obtain ⟨y0,y1,y2,y3⟩:=qG HPY.out
   have hnil:=zGe none
   have hmm := @run_makeMap Tryz.prog
   go_enter Tryz.func91,Tryz.ntmps91
   go_wp2_with fail
   have hzp:=HLp.out
   obtain ⟨b,hb⟩:∃b,w.heap.size+1+1=b:=⟨_,rfl⟩
   obtain ⟨c,hc⟩:∃c,w.heap.size+1+1+1=c:=⟨_,rfl⟩
   rw[hc,hb]
   obtain ⟨X,hX⟩:∃X,(Y.setCell ⟨p,0,none⟩ (.map (some b))).setCell ⟨p,1,none⟩ (.map (some c))=X:=⟨_,rfl⟩
   rw[hX]
   have hYs:Y.heap.size=w.heap.size+1+1+1+1:=by rw[<- hY];simp[hzW]
   have hXs:X.heap.size=Y.heap.size:=by rw[<- hX];simp
   have HP4:Hid (X.heap[p]? = some (.cells #[.map (some b),.map (some c)] 139 (0,0))):=hI (by rw[<- hX];exact vB HPY.out _ _)
   have hXo:∀i,i≠p->X.heap[i]? = Y.heap[i]? := λi hi=>by
    rw[<- hX]
    exact (Below.heap_setCell _ _ _ i hi).trans (Below.heap_setCell _ _ _ i hi)
   have hYo:∀i,i<W.heap.size->Y.heap[i]? = W.heap[i]? := λi hi=>by
    rw[<- hY]
    exact (qF _ _ (by simp;omega)).trans (qF _ _ hi)
   have HX1:=hI (((hXo w.heap.size (by omega)).trans (hYo _ (by omega))).trans HW.out)
   have HX2:=hI (((hXo (w.heap.size+1) (by omega)).trans (hYo _ (by omega))).trans HW2.out)
   have ho:=World.ownsMap_made (H:=Unit) W Tryz.prog 33 RP
   have ho2:=World.ownsMap_made (H:=Unit) (W.alloc (.map #[] 0)) Tryz.prog 69 RP
   have m1:MapAt 33 Prod.fst Prod.snd (W.alloc (.map #[] 0)) b []:=by
    rw[<- hb,<- hzW]
    exact zCq ho zRr
   have m2:MapAt 69 Prod.snd Prod.fst Y c []:=by
    rw[<- hc,<- hzW,<- hY]
    simpa using zCq ho2 (zRr (g:=Prod.snd) (h:=Prod.fst))
   have HM4:Hid (MapAt 33 Prod.fst Prod.snd X b []):=hI (m1.kept ((hXo b (by omega)).trans (by rw[<- hY];exact qF _ _ (by simp;omega))))
   have HN4':Hid (MapAt 69 Prod.snd Prod.fst X c []):=hI (m2.kept (hXo c (by omega)))
   have hne:p≠b/\p≠c/\w.heap.size≠b/\w.heap.size≠c/\w.heap.size+1≠b/\w.heap.size+1≠c/\True:=⟨by omega,by omega,by omega,by omega,by omega,by omega,trivial⟩
   have hbc:b≠c:=by omega
   have hxx:¬x p/\¬x b/\¬x c:=⟨h7'.out,λk=>by have:=HH.out.there b k;omega,λk=>by have:=HH.out.there c k;omega⟩
   have HBX:Hid (w.heap.size<=X.heap.size):=hI (by omega)
   have HSX:Hid (Safe x w X):=hI (by
    rw[<- hX,<- hY]
    exact ((((qC HB.out).alloc _).alloc _).setCell (λ_=>hxx.1) _).setCell (λ_=>hxx.1) _)
   clear hX hXs hXo hYo hYs hY ho ho2 m1 m2 y0 y1 y2 y3 d0 d1 e0 e1 f0 f1 hW hz hzW hzp hb hc HP3 HPY
   have HT1:((r,s)::([]:List Fd)).Perm ((r,s)::([]:List Fd).filter λf'=>f'.1 != r):=List.Perm.of_eq (by rw[HE1.out])
   have HT2:((r,s)::([]:List Fd)).Perm ((r,s)::([]:List Fd).filter λf'=>f'.2 != s):=List.Perm.of_eq (by rw[HE2.out])
   obtain ⟨V0,hV0⟩:∃V0,X.drew=V0:=⟨_,rfl⟩
   obtain ⟨V1,V2,v,st,S1,hm2⟩:=zCi mt_spots kl_ref (V:=V0) (f:=(r,s)) (HM4.out.kept (by rw[<- hV0];rfl)) (by omega) HG.out.1 HR.out HT1
   have hn2:MapAt 69 Prod.snd Prod.fst V2 c ([]:List Fd):=HN4'.out.kept ((S1.safe.block _ (by rw[<- hV0];exact HN4'.out.lt) hbc.symm).trans (by rw[<- hV0];rfl))
   obtain ⟨V3,V4,v',st',S2,hn4⟩:=zCi mt_refs zYz (V:=V2) (f:=(r,s)) hn2 (by omega) HG.out.2 HS.out HT2
   have a1:=S1.made
   have a2:=S1.filled
   have a3:=S2.made
   have a4:=S2.filled
   have keep:∀V:World,(∀i,i≠b->i≠c->V.heap[i]? = X.heap[i]?)->V.cell? ⟨p,0,none⟩=some (.map (some b))/\V.cell? ⟨p,1,none⟩=some (.map (some c))/\V.cell? ⟨w.heap.size,0,none⟩=some (.int .i64 r.1)/\V.cell? ⟨w.heap.size,1,none⟩=some (.int .i64 r.2)/\V.cell? ⟨w.heap.size+1,0,none⟩=some (.int .i64 s.1)/\V.cell? ⟨w.heap.size+1,1,none⟩=some (.int .i64 s.2):=λV hV=>by
    have g1:=qG ((hV p hne.1 hne.2.1).trans HP4.out)
    have g2:=qG ((hV w.heap.size hne.2.2.1 hne.2.2.2.1).trans HX1.out)
    have g3:=qG ((hV (w.heap.size+1) hne.2.2.2.2.1 hne.2.2.2.2.2.1).trans HX2.out)
    exact ⟨g1.1,g1.2.1,g2.1,g2.2.1,g3.1,g3.2.1⟩
   have z0:∀i,i<X.heap.size->i≠b->V2.heap[i]? = X.heap[i]? := λi hi hb=>(S1.safe.block i (by rw[<- hV0];exact hi) hb).trans (by rw[<- hV0];rfl)
   have k0:=hI (keep V0 λi _ _=>by rw[<- hV0];rfl)
   have k1:=hI (keep V1 λi hb _=>(S1.mid i hb).trans (by rw[<- hV0];rfl))
   have k2:=hI (keep V2 λi hb _=>by
    by_cases hi:i<X.heap.size
    . exact z0 i hi hb
    . rw[Array.getElem?_eq_none (by rw[S1.size.2,<- hV0];exact Nat.le_of_not_lt hi),Array.getElem?_eq_none (Nat.le_of_not_lt hi)])
   have k3:=hI (keep V3 λi hb hc=>(S2.mid i hc).trans (by
    by_cases hi:i<X.heap.size
    . exact z0 i hi hb
    . rw[Array.getElem?_eq_none (by rw[S1.size.2,<- hV0];exact Nat.le_of_not_lt hi),Array.getElem?_eq_none (Nat.le_of_not_lt hi)]))
   have k4:=hI (keep V4 λi hb hc=>by
    by_cases hi:i<X.heap.size
    . exact (S2.safe.block i (by rw[S1.size.2,<- hV0];exact hi) hc).trans (z0 i hi hb)
    . rw[Array.getElem?_eq_none (by rw[S2.size.2,S1.size.2,<- hV0];exact Nat.le_of_not_lt hi),Array.getElem?_eq_none (Nat.le_of_not_lt hi)])
   have HS1:=hI S1
   have HS2:=hI S2
   have HM2:=hI hm2
   have HN4:=hI hn4
   subst hV0
   clear S1 S2 hm2 hn4 hn2 keep z0 HT1 HT2
   go_region_held3 (λV=>V.cell? ⟨p,0,none⟩=some (.map (some b))/\V.cell? ⟨p,1,none⟩=some (.map (some c))/\V.cell? ⟨w.heap.size,0,none⟩=some (.int .i64 r.1)/\V.cell? ⟨w.heap.size,1,none⟩=some (.int .i64 r.2)/\V.cell? ⟨w.heap.size+1,0,none⟩=some (.int .i64 s.1)/\V.cell? ⟨w.heap.size+1,1,none⟩=some (.int .i64 s.2))
    (first | exact k0.out | exact k1.out | exact k2.out | exact k3.out | exact k4.out)
    (fail)
   refine bodyPost_end (by simp[results,Tryz.results91,go_sem];try rfl) rfl ?_
   have b2:∀i,i<X.heap.size->i≠b->V2.heap[i]? = X.heap[i]? := λi hi hb=>HS1.out.safe.block i hi hb
   have b4:∀i,i<X.heap.size->i≠c->V4.heap[i]? = V2.heap[i]? := λi hi hc=>HS2.out.safe.block i (by rw[HS1.out.size.2];exact hi) hc
   have lp:=qD HP4.out
   have lb:=HM4.out.lt
   have hp4:=((b4 p lp hne.2.1).trans (b2 p lp hne.1)).trans HP4.out
   have hm4:MapAt 33 Prod.fst Prod.snd V4 b ((r,s)::([]:List Fd)):=HM2.out.kept (b4 b lb hbc)
   have s1:Safe x X V2:=zRd ((Turned.refl _ X.drew).trans HS1.out.safe λi _ hi=>by rw[hi];exact hxx.2.1)
   have s2:Safe x V2 V4:=(Turned.refl _ V2).trans HS2.out.safe λi _ hi=>by rw[hi];exact hxx.2.2
   have hsf:Safe x w V4:=(HSX.out.then s1).then s2
   exact ⟨rfl,Tab.of_maps HWf'.out (λf hf=>by
    rcases List.mem_cons.1 hf with rfl | hf
    . exact ⟨HR.out,HS.out⟩
    . exact HH.out.ints f hf) hp4 hm4 HN4.out hbc hne.1 hne.2.1 hxx.1 hxx.2.1 hxx.2.2 (λb hb=>Nat.lt_of_lt_of_le (HH.out.there b hb) hsf.size),hsf⟩
 . have HLb:=hI h2.lt
   have HLc:=hI h3.lt
   have HP4:=hI ((HB.out.block _ (qD h1)).trans h1)
   have HM4:=hI (h2.kept (HB.out.block _ HLb.out))
   have HN4':=hI (h3.kept (HB.out.block _ HLc.out))
   have hne:p≠b/\p≠c/\w.heap.size≠b/\w.heap.size≠c/\w.heap.size+1≠b/\w.heap.size+1≠c/\True:=⟨h5,h6,by have:=HLb.out;omega,by have:=HLc.out;omega,by have:=HLb.out;omega,by have:=HLc.out;omega,trivial⟩
   have hbc:b≠c:=h4
   have hxx:¬x p/\¬x b/\¬x c:=⟨h7,h8,h9⟩
   obtain ⟨d0,d1,-,-⟩:=qG HP4.out
   have hnil:=zGe (some b)
   clear h1 h2 h3 h4 h5 h6 h7 h8 h9
   go_enter Tryz.func91,Tryz.ntmps91
   go_wp2_with fail
   clear d0 d1 e0 e1 f0 f1 hW
   have HSX:Hid (Safe x w W):=hI (qC HB.out)
   have HX1:=HW
   have HX2:=HW2
   have HT1:((r,s)::T).Perm ((r,s)::T.filter λf'=>f'.1 != r):=List.Perm.of_eq (by rw[HE1.out])
   have HT2:((r,s)::T).Perm ((r,s)::T.filter λf'=>f'.2 != s):=List.Perm.of_eq (by rw[HE2.out])
   obtain ⟨V0,hV0⟩:∃V0,W.drew=V0:=⟨_,rfl⟩
   obtain ⟨V1,V2,v,st,S1,hm2⟩:=zCi mt_spots kl_ref (V:=V0) (f:=(r,s)) (HM4.out.kept (by rw[<- hV0];rfl)) (by omega) HG.out.1 HR.out HT1
   have hn2:MapAt 69 Prod.snd Prod.fst V2 c T:=HN4'.out.kept ((S1.safe.block _ (by rw[<- hV0];exact HN4'.out.lt) hbc.symm).trans (by rw[<- hV0];rfl))
   obtain ⟨V3,V4,v',st',S2,hn4⟩:=zCi mt_refs zYz (V:=V2) (f:=(r,s)) hn2 (by omega) HG.out.2 HS.out HT2
   have a1:=S1.made
   have a2:=S1.filled
   have a3:=S2.made
   have a4:=S2.filled
   have keep:∀V:World,(∀i,i≠b->i≠c->V.heap[i]? = W.heap[i]?)->V.cell? ⟨p,0,none⟩=some (.map (some b))/\V.cell? ⟨p,1,none⟩=some (.map (some c))/\V.cell? ⟨w.heap.size,0,none⟩=some (.int .i64 r.1)/\V.cell? ⟨w.heap.size,1,none⟩=some (.int .i64 r.2)/\V.cell? ⟨w.heap.size+1,0,none⟩=some (.int .i64 s.1)/\V.cell? ⟨w.heap.size+1,1,none⟩=some (.int .i64 s.2):=λV hV=>by
    have g1:=qG ((hV p hne.1 hne.2.1).trans HP4.out)
    have g2:=qG ((hV w.heap.size hne.2.2.1 hne.2.2.2.1).trans HX1.out)
    have g3:=qG ((hV (w.heap.size+1) hne.2.2.2.2.1 hne.2.2.2.2.2.1).trans HX2.out)
    exact ⟨g1.1,g1.2.1,g2.1,g2.2.1,g3.1,g3.2.1⟩
   have z0:∀i,i<W.heap.size->i≠b->V2.heap[i]? = W.heap[i]? := λi hi hb=>(S1.safe.block i (by rw[<- hV0];exact hi) hb).trans (by rw[<- hV0];rfl)
   have k0:=hI (keep V0 λi _ _=>by rw[<- hV0];rfl)
   have k1:=hI (keep V1 λi hb _=>(S1.mid i hb).trans (by rw[<- hV0];rfl))
   have k2:=hI (keep V2 λi hb _=>by
    by_cases hi:i<W.heap.size
    . exact z0 i hi hb
    . rw[Array.getElem?_eq_none (by rw[S1.size.2,<- hV0];exact Nat.le_of_not_lt hi),Array.getElem?_eq_none (Nat.le_of_not_lt hi)])
   have k3:=hI (keep V3 λi hb hc=>(S2.mid i hc).trans (by
    by_cases hi:i<W.heap.size
    . exact z0 i hi hb
    . rw[Array.getElem?_eq_none (by rw[S1.size.2,<- hV0];exact Nat.le_of_not_lt hi),Array.getElem?_eq_none (Nat.le_of_not_lt hi)]))
   have k4:=hI (keep V4 λi hb hc=>by
    by_cases hi:i<W.heap.size
    . exact (S2.safe.block i (by rw[S1.size.2,<- hV0];exact hi) hc).trans (z0 i hi hb)
    . rw[Array.getElem?_eq_none (by rw[S2.size.2,S1.size.2,<- hV0];exact Nat.le_of_not_lt hi),Array.getElem?_eq_none (Nat.le_of_not_lt hi)])
   have HS1:=hI S1
   have HS2:=hI S2
   have HM2:=hI hm2
   have HN4:=hI hn4
   subst hV0
   clear S1 S2 hm2 hn4 hn2 keep z0 HT1 HT2
   go_region_held3 (λV=>V.cell? ⟨p,0,none⟩=some (.map (some b))/\V.cell? ⟨p,1,none⟩=some (.map (some c))/\V.cell? ⟨w.heap.size,0,none⟩=some (.int .i64 r.1)/\V.cell? ⟨w.heap.size,1,none⟩=some (.int .i64 r.2)/\V.cell? ⟨w.heap.size+1,0,none⟩=some (.int .i64 s.1)/\V.cell? ⟨w.heap.size+1,1,none⟩=some (.int .i64 s.2))
    (first | exact k0.out | exact k1.out | exact k2.out | exact k3.out | exact k4.out)
    (fail)
   refine bodyPost_end (by simp[results,Tryz.results91,go_sem];try rfl) rfl ?_
   have b2:∀i,i<W.heap.size->i≠b->V2.heap[i]? = W.heap[i]? := λi hi hb=>HS1.out.safe.block i hi hb
   have b4:∀i,i<W.heap.size->i≠c->V4.heap[i]? = V2.heap[i]? := λi hi hc=>HS2.out.safe.block i (by rw[HS1.out.size.2];exact hi) hc
   have lp:=qD HP4.out
   have lb:=HM4.out.lt
   have hp4:=((b4 p lp hne.2.1).trans (b2 p lp hne.1)).trans HP4.out
   have hm4:MapAt 33 Prod.fst Prod.snd V4 b ((r,s)::T):=HM2.out.kept (b4 b lb hbc)
   have s1:Safe x W V2:=zRd ((Turned.refl _ W.drew).trans HS1.out.safe λi _ hi=>by rw[hi];exact hxx.2.1)
   have s2:Safe x V2 V4:=(Turned.refl _ V2).trans HS2.out.safe λi _ hi=>by rw[hi];exact hxx.2.2
   have hsf:Safe x w V4:=(HSX.out.then s1).then s2
   exact ⟨rfl,Tab.of_maps HWf'.out (λf hf=>by
    rcases List.mem_cons.1 hf with rfl | hf
    . exact ⟨HR.out,HS.out⟩
    . exact HH.out.ints f hf) hp4 hm4 HN4.out hbc hne.1 hne.2.1 hxx.1 hxx.2.1 hxx.2.2 (λb hb=>Nat.lt_of_lt_of_le (HH.out.there b hb) hsf.size),hsf⟩
end
end
section
open Go.RowKit Go.Maps Go.WideShapes
section
variable {w w':World} {p:Nat} {x y:Nat->Prop} {T:List Fd}
theorem zCn (r s:P2) (h:Tab w p x T) (hl:T.length<=1000) (hr:WfP r) (hs:WfP s):Calls Tryz.prog 56 #[.pointer (some ⟨p,0,none⟩),P2V r,P2V s] w λe w'=>e=.returned (.bool (zGr T r s))/\Tab w' p x (zD T r s)/\Safe x w w':=by
 have HH:=hI h
 have HR:=hI hr
 have HS:=hI hs
 have hcan:=can_on h.wf r s
 clear h hr hs
 obtain ⟨W,hW⟩:∃W,(w.alloc (.cells #[.int .i64 r.1,.int .i64 r.2] 33)).alloc (.cells #[.int .i64 s.1,.int .i64 s.2] 69)=W:=⟨_,rfl⟩
 have HB:Hid (Below w.heap.size w W):=hI (by rw[<- hW];exact (bR.alloc nL _).alloc (by simp) _)
 have HW:Hid (W.heap[w.heap.size]? = some (.cells #[.int .i64 r.1,.int .i64 r.2] 33 (0,0))):=hI (by rw[<- hW];exact (qF _ _ (by simp)).trans (heap_alloc_new w _))
 have HW2:Hid (W.heap[w.heap.size+1]? = some (.cells #[.int .i64 s.1,.int .i64 s.2] 69 (0,0))):=hI (by rw[<- hW];have:=heap_alloc_new (w.alloc (.cells #[.int .i64 r.1,.int .i64 r.2] 33)) (.cells #[.int .i64 s.1,.int .i64 s.2] 69);simpa using this)
 obtain ⟨e0,e1,-,-⟩:=qG HW.out
 obtain ⟨f0,f1,-,-⟩:=qG HW2.out
 have HTW:Hid (Tab W p (λb=>x b\/(w.heap.size<=b/\b<W.heap.size)) T):=hI (HH.out.more HB.out)
 by_cases hs1:0<=s.1
 case neg =>
  have hc:zGr T r s=false:=by rw[hcan];simp[hs1]
  rw[hc]
  have HC:=hI hc
  clear hcan hc
  go_enter Tryz.func56,Tryz.ntmps56
  go_wp2_with fail
  go_ret
  exact ⟨rfl,by unfold zD;rw[HC.out];exact HH.out.below HB.out,qC HB.out⟩
 by_cases hs2:0<=s.2
 case neg =>
  have hc:zGr T r s=false:=by rw[hcan];simp[hs2]
  rw[hc]
  have HC:=hI hc
  clear hcan hc
  go_enter Tryz.func56,Tryz.ntmps56
  go_wp2_with fail
  go_ret
  exact ⟨rfl,by unfold zD;rw[HC.out];exact HH.out.below HB.out,qC HB.out⟩
 have hz0:=qD HW.out
 have hz1:=qD HW2.out
 cases ho:onT T s with
 | none =>
  have HO:=hI ho
  rw[ho] at hcan
  have HC:Hid (zGr T r s=true):=hI (by rw[hcan];simp[hs1,hs2])
  clear hcan ho
  have HVr:Hid (∀V:World,Below W.heap.size W V->(V.alloc (.cells #[.int .i64 0,.int .i64 0] 33)).heap[w.heap.size]? = some (.cells #[.int .i64 r.1,.int .i64 r.2] 33 (0,0))):=hI λV hV=>(qF V _ (Nat.lt_of_lt_of_le hz0 hV.size)).trans ((hV.block _ hz0).trans HW.out)
  have HVs:Hid (∀V:World,Below W.heap.size W V->(V.alloc (.cells #[.int .i64 0,.int .i64 0] 33)).heap[w.heap.size+1]? = some (.cells #[.int .i64 s.1,.int .i64 s.2] 69 (0,0))):=hI λV hV=>(qF V _ (Nat.lt_of_lt_of_le hz1 hV.size)).trans ((hV.block _ hz1).trans HW2.out)
  go_enter Tryz.func56,Tryz.ntmps56
  go_wp2_with (go_at_call 89;(refine (zBv s HTW.out hl HS.out).mono ?_;rintro e w2 ⟨rfl,hb2⟩;rw[HO.out];have HB2:=hI hb2;clear hb2;obtain ⟨i0,i1,-,-⟩:=qG (HVr.out w2 HB2.out);obtain ⟨j0,j1,-,-⟩:=qG (HVs.out w2 HB2.out)))
  obtain ⟨V,hV⟩:∃V,w2.alloc (.cells #[.int .i64 0,.int .i64 0] 33)=V:=⟨_,rfl⟩
  have HR3:=hI (HVr.out w2 HB2.out)
  have HS3:=hI (HVs.out w2 HB2.out)
  rw[hV] at HR3 HS3 i0 i1 j0 j1
  rw[hV]
  have hBV:Below W.heap.size W V:=by rw[<- hV];exact HB2.out.alloc HB2.out.size _
  have HB3:=hI (HB.out.trans (hBV.mono HB.out.size))
  have HTV:=hI (HTW.out.below hBV)
  clear hV hBV i0 i1 j0 j1
  refine (zSx r HTV.out hl HR.out).mono ?_
  rintro e w6 ⟨rfl,ht6,hs6⟩
  have HR6:=hI ((hs6.block (qD HR3.out) (.inr ⟨by omega,hz0⟩)).trans HR3.out)
  have HS6:=hI ((hs6.block (qD HS3.out) (.inr ⟨by omega,hz1⟩)).trans HS3.out)
  have HSf:=hI hs6
  have HT6:=hI ht6
  have hcl:=yAg T r
  clear ht6 hs6
  obtain ⟨e0,e1,-,-⟩:=qG HR6.out
  obtain ⟨f0,f1,-,-⟩:=qG HS6.out
  go_wp2_with fail
  refine (zMu r s HT6.out (by omega) HR.out HS.out (yAh T r) (zSv HC.out) (zWa HH.out.wf HC.out)).mono ?_
  rintro e w8 ⟨rfl,ht8,hs8⟩
  have HT8:=hI ht8
  have HSg:=hI hs8
  clear ht8 hs8 e0 e1 f0 f1
  go_wp2_with fail
  go_ret
  have hs3:Safe x w w6:=(qC HB3.out).then' HSf.out λi hi k=>.inl k
  exact ⟨ret_bool HC.out.symm,(HT8.out.less λ_ k=>.inl k).perm (zRk HH.out.wf HC.out).symm,hs3.then' HSg.out λi hi k=>.inl k⟩
 | some q =>
  have HO:=hI ho
  rw[ho] at hcan
  clear ho
  by_cases hqr:q=r
  . obtain rfl:r=q:=hqr.symm
    have HC:Hid (zGr T r s=true):=hI (by rw[hcan];simp[hs1,hs2])
    have e9:=λw:World=>(nel_self r w)
    clear hcan
    have HVr:Hid (∀V:World,Below W.heap.size W V->(V.alloc (.cells #[.int .i64 r.1,.int .i64 r.2] 33)).heap[w.heap.size]? = some (.cells #[.int .i64 r.1,.int .i64 r.2] 33 (0,0))):=hI λV hV=>(qF V _ (Nat.lt_of_lt_of_le hz0 hV.size)).trans ((hV.block _ hz0).trans HW.out)
    have HVs:Hid (∀V:World,Below W.heap.size W V->(V.alloc (.cells #[.int .i64 r.1,.int .i64 r.2] 33)).heap[w.heap.size+1]? = some (.cells #[.int .i64 s.1,.int .i64 s.2] 69 (0,0))):=hI λV hV=>(qF V _ (Nat.lt_of_lt_of_le hz1 hV.size)).trans ((hV.block _ hz1).trans HW2.out)
    go_enter Tryz.func56,Tryz.ntmps56
    go_wp2_with (go_at_call 89;(refine (zBv s HTW.out hl HS.out).mono ?_;rintro e w2 ⟨rfl,hb2⟩;rw[HO.out];have HB2:=hI hb2;clear hb2;obtain ⟨i0,i1,-,-⟩:=qG (HVr.out w2 HB2.out);obtain ⟨j0,j1,-,-⟩:=qG (HVs.out w2 HB2.out)))
    obtain ⟨V,hV⟩:∃V,w2.alloc (.cells #[.int .i64 r.1,.int .i64 r.2] 33)=V:=⟨_,rfl⟩
    have HR3:=hI (HVr.out w2 HB2.out)
    have HS3:=hI (HVs.out w2 HB2.out)
    rw[hV] at HR3 HS3 i0 i1 j0 j1
    rw[hV]
    have hBV:Below W.heap.size W V:=by rw[<- hV];exact HB2.out.alloc HB2.out.size _
    have HB3:=hI (HB.out.trans (hBV.mono HB.out.size))
    have HTV:=hI (HTW.out.below hBV)
    clear hV hBV i0 i1 j0 j1
    refine (zSx r HTV.out hl HR.out).mono ?_
    rintro e w6 ⟨rfl,ht6,hs6⟩
    have HR6:=hI ((hs6.block (qD HR3.out) (.inr ⟨by omega,hz0⟩)).trans HR3.out)
    have HS6:=hI ((hs6.block (qD HS3.out) (.inr ⟨by omega,hz1⟩)).trans HS3.out)
    have HSf:=hI hs6
    have HT6:=hI ht6
    have hcl:=yAg T r
    clear ht6 hs6
    obtain ⟨e0,e1,-,-⟩:=qG HR6.out
    obtain ⟨f0,f1,-,-⟩:=qG HS6.out
    go_wp2_with fail
    refine (zMu r s HT6.out (by omega) HR.out HS.out (yAh T r) (zSv HC.out) (zWa HH.out.wf HC.out)).mono ?_
    rintro e w8 ⟨rfl,ht8,hs8⟩
    have HT8:=hI ht8
    have HSg:=hI hs8
    clear ht8 hs8 e0 e1 f0 f1
    go_wp2_with fail
    go_ret
    have hs3:Safe x w w6:=(qC HB3.out).then' HSf.out λi hi k=>.inl k
    exact ⟨ret_bool HC.out.symm,(HT8.out.less λ_ k=>.inl k).perm (zRk HH.out.wf HC.out).symm,hs3.then' HSg.out λi hi k=>.inl k⟩
  . have hc:zGr T r s=false:=by rw[hcan];simp[hqr]
    rw[hc]
    have HC:=hI hc
    have e9:=λw:World=>(nel_not (r:=q) (s:=r) hqr w)
    clear hcan hc
    have HVr:Hid (∀V:World,Below W.heap.size W V->(V.alloc (.cells #[.int .i64 q.1,.int .i64 q.2] 33)).heap[w.heap.size]? = some (.cells #[.int .i64 r.1,.int .i64 r.2] 33 (0,0))):=hI λV hV=>(qF V _ (Nat.lt_of_lt_of_le hz0 hV.size)).trans ((hV.block _ hz0).trans HW.out)
    have HVs:Hid (∀V:World,Below W.heap.size W V->(V.alloc (.cells #[.int .i64 q.1,.int .i64 q.2] 33)).heap[w.heap.size+1]? = some (.cells #[.int .i64 s.1,.int .i64 s.2] 69 (0,0))):=hI λV hV=>(qF V _ (Nat.lt_of_lt_of_le hz1 hV.size)).trans ((hV.block _ hz1).trans HW2.out)
    go_enter Tryz.func56,Tryz.ntmps56
    go_wp2_with (go_at_call 89;(refine (zBv s HTW.out hl HS.out).mono ?_;rintro e w2 ⟨rfl,hb2⟩;rw[HO.out];have HB2:=hI hb2;clear hb2;obtain ⟨i0,i1,-,-⟩:=qG (HVr.out w2 HB2.out);obtain ⟨j0,j1,-,-⟩:=qG (HVs.out w2 HB2.out)))
    go_ret
    have hb1:Below w.heap.size w (w2.alloc (.cells #[.int .i64 q.1,.int .i64 q.2] 33)):=(HB.out.trans (HB2.out.mono HB.out.size)).alloc (Nat.le_trans HB.out.size HB2.out.size) _
    exact ⟨rfl,by unfold zD;rw[HC.out];exact HH.out.below hb1,qC hb1⟩
end
end
section
open Go.RowKit Go.Maps Go.WideShapes
section
variable {w w':World} {p:Nat} {x y:Nat->Prop} {T:List Fd}
theorem zNk (b:Int) (h:Tab w p x T) (hl:T.length<=1000) (_hb:(Lit.int .i64 b).wf=true):Calls Tryz.prog 180 #[.pointer (some ⟨p,0,none⟩),.int .i64 b] w λe w'=>e=.returned (.int .i64 (vU T b:Int))/\Below w.heap.size w w':=by
 have HG:=hI h.gwf.2
 have HN:=hI h.wf.spots
 rcases h.cases with ⟨rfl,h1,-⟩ | ⟨bb,c,h1,h2,h3,h4,h5,h6,h7,h8,h9⟩
 . obtain ⟨d0,d1,-,-⟩:=qG h1
   have hr:=λw:World=>run_range_nilMap (P:=Tryz.prog) w 137 _ _ mt_refs.ht
   have hn:=λw:World=>run_next_nilMap (P:=Tryz.prog) w
   clear h h1 HG HN hl
   go_enter Tryz.func180,Tryz.ntmps180
   go_wp2_with fail
   refine wp_loop_rounds 1 ?_
   repeat any_goals (rw[rounds_succ];go_wp2_with fail)
   go_ret
   exact ⟨rfl,bR.alloc nL _⟩
 obtain ⟨d0,d1,-,-⟩:=qG h1
 have HM:=hI h3
 have hcl:=h3.lt
 clear h h1 h2 h3 h4 h5 h6 h7 h8 h9 _hb
 go_enter Tryz.func180,Tryz.ntmps180
 go_wp2_with (at_range;refine zJc mt_refs rfl _ rfl rfl HM.out HG.out ?_;intro w1 hr1 hg1 hs1)
 go_frame
 have hb1:Below w.heap.size w w1:=⟨hg1.os,hg1.tape,hg1.output,hg1.size,λi hi=>hg1.block i hi (by simp)⟩
 have HB1:=hI hb1
 have HR1:=hI hr1
 clear hb1 hr1 hg1 hs1
 go_loopw [5] (λv5 wr=>∃(S:List Fd) (cnt:Nat),RgS 69 Prod.snd Prod.fst wr c w.heap.size T S cnt/\v5=.int .i64 (vU S b:Int)/\Below w.heap.size w wr ) (λ_ wr=>wr.rangeLeft c w.heap.size)
 case atStart=>exact ⟨[],_,HR1.out,rfl,HB1.out⟩
 case round =>
  obtain ⟨S,cnt,hr,rfl,hB⟩:=hrel
  have HR:=hI hr
  have HB:=hI hB
  have hsz:=hB.size
  clear hr hB
  have hS2:vU S b<=1000:=Nat.le_trans List.countP_le_length (Nat.le_trans HR.out.len hl)
  go_wp2_with (at_next;refine zOr mt_refs rfl _ rfl rfl HR.out HN.out HG.out (λhp=>?_) (λf w2 cnt2 hf hr2 hlt hg2 hs2 hen=>?_))
  . go_ret
    exact ⟨ret_int (by rw[show vU S b=vU T b from hp.countP_eq _]),HB.out⟩
  all_goals
   have hb2:Below w.heap.size wr w2:=⟨hg2.os,hg2.tape,hg2.output,hg2.size,λi hi=>hg2.block i (by omega) (by simp;omega)⟩
   have hr3:=hr2.kept (World.grownBy_alloc w2 (.cells #[.int .i64 f.2.1,.int .i64 f.2.2] 69) none) (by simp) (by simp)
   refine ⟨⟨f::S,cnt2,hr3,?_,(HB.out.trans hb2).alloc (by omega) _⟩,by rw[hr3.left,HR.out.left];exact hlt⟩
   unfold vU at hS2 ⊢
   rw[List.countP_cons]
   simp[*]
end
end
end Go.Proofs.YtinkkmlbhkfmnaaGreat
