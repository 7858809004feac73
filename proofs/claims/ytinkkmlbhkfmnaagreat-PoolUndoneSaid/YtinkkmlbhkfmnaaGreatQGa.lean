/- A part of what the last text proves: Ga. -/
import Derived.Lib.BitFns
import Derived.WalkKit
import Derived.WalkSpells
import Derived.WalkLawsBesides
import Derived.IntWalk
import Derived.Lib.Hide
import Derived.Outline
import Derived.Deep.QuietTactic
import Derived.BigQuiet
import Derived.Below
import Derived.OneCell
import Derived.OwnWalk
import Derived.Laws.OwnMore
import Derived.Laws.BytesArg
import Derived.Lib.AppendZeros
import Derived.Lib.EndianBits
import Derived.Maps.AppendAt
import Derived.Deep.AppendLies
import Derived.Deep.Draws
import Derived.Test.YtinkkmlbhkfmnaaGreatProg
import Derived.Laws.Rows
import Derived.Deep.RegionLaw
import Derived.Laws.CopyOwn
import Derived.Deep.OwnRows
import Derived.Deep.RegionWith
import Derived.Deep.Cut
import Derived.Deep.CutBlock
import Derived.Deep.CutRange
set_option maxRecDepth 100000
set_option maxHeartbeats 8000000
namespace Go.Proofs.YtinkkmlbhkfmnaaGreat
theorem hI {p : Prop} (h : p) : RowKit.Hid p := h
theorem bR {n : Nat} {w : World} : RowKit.Below n w w := RowKit.Below.refl n w
theorem nL {n : Nat} : n <= n := Nat.le_refl n
theorem fC {α : Type} {p : α -> Prop} {a : α} {l : List α} (h : p a /\ ∀x ∈ l, p x) : ∀x ∈ a :: l, p x := List.forall_mem_cons.2 h
theorem og {a : Array Value} {n : Nat} {v : Value} (h : a.getD n undef = v) : a[n]?.getD undef = v := by rw [<- Array.getD_eq_getD_getElem?]; exact h
section
def qX (n:Nat):UInt8:=UInt8.ofNat n
theorem vA (n:Nat) (h:n<256):(qX n).toNat=n:=by
 unfold qX;rw[UInt8.toNat_ofNat'];omega
def hiL (n:Nat):List UInt8:=if _h:n=0 then [] else hiL (n / 128)++[qX (n % 128+128)]
termination_by n
decreasing_by omega
def qg (n:Nat):List UInt8:=hiL (n / 128)++[qX (n % 128)]
theorem vx:hiL 0 = []:=by rw[hiL];simp
theorem zAg (n:Nat) (h:n≠0):hiL n=hiL (n / 128)++[qX (n % 128+128)]:=by rw[hiL];simp[h]
theorem zZk (k:Nat):∀n,n<128 ^ k->(hiL n).length<=k:=by
 induction k with
 | zero =>
  intro n h;obtain rfl:n=0:=by simpa using h
  rw[vx];simp
 | succ k ih =>
  intro n h
  by_cases h0:n=0
  . subst h0;rw[vx];simp
  . rw[zAg n h0]
    have:=ih (n / 128) (by rw[Nat.pow_succ] at h;omega)
    simp;omega
theorem zIm (k:Nat):∀n,128 ^ k<=n->k+1<=(hiL n).length:=by
 induction k with
 | zero =>
  intro n h
  rw[zAg n (by simp at h;omega)];simp
 | succ k ih =>
  intro n h
  have h1:128 ^ k<=n / 128:=by rw[Nat.pow_succ] at h;omega
  have h2:0<128 ^ k:=Nat.pow_pos (by decide)
  rw[zAg n (by omega)]
  have:=ih _ h1
  simp;omega
theorem qn (n:Nat) (h:n<4398046511104):1<=(qg n).length/\(qg n).length<=6:=by
 have:=zZk 5 (n / 128) (by simp;omega)
 unfold qg;simp;omega
theorem numL_cnt (n:Nat) (h:n<4398046511104):(qg n).length=max 1 ((Lib.bitLen n+6) / 7):=by
 have key:∀j,j<=5->128 ^ j<=n->n<128 ^ (j+1)->(qg n).length=max 1 ((Lib.bitLen n+6) / 7):=by
  intro j hj h1 h2
  have e1:(hiL (n / 128)).length=j:=by
   have a:=zZk j (n / 128) (by rw[Nat.pow_succ] at h2;omega)
   cases j with
   | zero=>omega
   | succ j=>have b:=zIm j (n / 128) (by rw[Nat.pow_succ] at h1;omega);omega
  have e2:=Lib.bitLen_shift (7 * j) n (by rw[Nat.pow_mul];exact h1) (by omega)
  have e3:=Lib.bitLen_le (n / 2 ^ (7 * j)) 7 (by omega) (by
   rw[Nat.pow_mul,Nat.div_lt_iff_lt_mul (Nat.pow_pos (by decide))]
   rw[Nat.pow_succ] at h2;simp at h2 ⊢;omega)
  have e4:1<=Lib.bitLen (n / 2 ^ (7 * j)):=by
   have hp:n / 2 ^ (7 * j)≠0:=by
    rw[Nat.pow_mul]
    have:0<n / (2 ^ 7) ^ j:=Nat.div_pos (by simpa using h1) (Nat.pow_pos (by decide))
    omega
   have:=Lib.bitLen_half (n / 2 ^ (7 * j)) hp (Nat.lt_of_le_of_lt (Nat.div_le_self _ _) (by omega))
   omega
  unfold qg
  simp[e1]
  omega
 by_cases h0:n=0
 . subst h0;unfold qg;rw[Nat.zero_div,vx];rfl
 . by_cases h1:n<128
   . exact key 0 (by omega) (by simp;omega) (by simpa using h1)
   . by_cases h2:n<16384
     . exact key 1 (by omega) (by omega) (by omega)
     . by_cases h3:n<2097152
       . exact key 2 (by omega) (by omega) (by omega)
       . by_cases h4:n<268435456
         . exact key 3 (by omega) (by omega) (by omega)
         . by_cases h5:n<34359738368
           . exact key 4 (by omega) (by omega) (by omega)
           . exact key 5 (by omega) (by omega) (by omega)
theorem hiL_at (i:Nat):∀n,i<(hiL n).length->(hiL n)[i]? = some (qX (n / 128 ^ ((hiL n).length - 1 - i) % 128+128)):=by
 intro n
 induction n using Nat.strongRecOn with
 | ind n ih =>
  intro h
  by_cases h0:n=0
  . subst h0;rw[vx] at h;simp at h
  . rw[zAg n h0] at h ⊢
    simp at h
    by_cases h1:i<(hiL (n / 128)).length
    . rw[List.getElem?_append_left h1,ih (n / 128) (by omega) h1]
      have e:(hiL (n / 128)++[qX (n % 128+128)]).length - 1 - i=((hiL (n / 128)).length - 1 - i)+1:=by simp;omega
      rw[e,Nat.pow_succ,Nat.mul_comm,<- Nat.div_div_eq_div_mul]
    . have e:i=(hiL (n / 128)).length:=by omega
      subst e
      simp
theorem numL_at (n i:Nat) (h:i<(qg n).length):(qg n)[i]? = some (qX (n / 128 ^ ((qg n).length - 1 - i) % 128+if i+1<(qg n).length then 128 else 0)):=by
 unfold qg at h ⊢
 simp at h
 by_cases h1:i<(hiL (n / 128)).length
 . rw[List.getElem?_append_left h1,hiL_at i (n / 128) h1,if_pos (by simp;omega)]
   have e:(hiL (n / 128)++[qX (n % 128)]).length - 1 - i=((hiL (n / 128)).length - 1 - i)+1:=by simp;omega
   rw[e,Nat.pow_succ,Nat.mul_comm,<- Nat.div_div_eq_div_mul]
 . have e:i=(hiL (n / 128)).length:=by omega
   subst e
   simp
def zG (most:Int):Nat->Nat->List UInt8->Option (Nat × Nat)
 | _,_,[]=>none
 | acc,i,d::t=>if most<((acc * 128+d.toNat % 128:Nat):Int) then none else if d.toNat<128 then some (acc * 128+d.toNat % 128,i+1) else zG most (acc * 128+d.toNat % 128) (i+1) t
def zBu (l:List UInt8) (most:Int):Option (Nat × Nat):=if l[0]? = some 128 then none else zG most 0 0 (l.take 6)
theorem scan_hi (most:Int):∀(n:Nat) (t:List UInt8),(n:Int)<=most->zG most 0 0 (hiL n++t)=zG most n (hiL n).length t:=by
 intro n
 induction n using Nat.strongRecOn with
 | ind n ih =>
  intro t h
  by_cases h0:n=0
  . subst h0;simp[vx]
  . rw[zAg n h0,List.append_assoc,ih (n / 128) (by omega) _ (by omega)]
    have e:n / 128 * 128+(qX (n % 128+128)).toNat % 128=n:=by rw[vA _ (by omega)];omega
    rw[List.cons_append,List.nil_append,zG]
    simp only[e]
    rw[if_neg (by omega),if_neg (by rw[vA _ (by omega)];omega)]
    simp
theorem hiL_head (n:Nat) (h:n≠0):∃d t,hiL n=d::t/\d≠128:=by
 induction n using Nat.strongRecOn with
 | ind n ih =>
  rw[zAg n h]
  by_cases h0:n / 128=0
  . rw[h0,vx]
    refine ⟨_,[],rfl,λe=>?_⟩
    have:=congrArg UInt8.toNat e
    rw[vA _ (by omega)] at this
    have h128:(128:UInt8).toNat=128:=rfl
    omega
  . obtain ⟨d,t,e,hd⟩:=ih (n / 128) (by omega) h0
    exact ⟨d,t++[qX (n % 128+128)],by rw[e];rfl,hd⟩
theorem zYk (n:Nat):∃d t,qg n=d::t/\d≠128:=by
 unfold qg
 by_cases h:n / 128=0
 . rw[h,vx]
   refine ⟨_,[],rfl,λe=>?_⟩
   have:=congrArg UInt8.toNat e
   rw[vA _ (by omega)] at this
   have h128:(128:UInt8).toNat=128:=rfl
   omega
 . obtain ⟨d,t,e,hd⟩:=hiL_head (n / 128) h
   exact ⟨d,t++[qX (n % 128)],by rw[e];rfl,hd⟩
theorem zRh (n:Nat) (t:List UInt8) (most:Int) (h:n<4398046511104) (hm:(n:Int)<=most):zBu (qg n++t) most=some (n,(qg n).length):=by
 have hl:=qn n h
 obtain ⟨d,r,e,hd⟩:=zYk n
 unfold zBu
 rw[if_neg (by rw[e];simpa using hd),List.take_append,List.take_of_length_le hl.2]
 show zG most 0 0 (qg n++_)=_
 unfold qg
 rw[List.append_assoc,scan_hi most (n / 128) _ (by omega),List.cons_append,zG]
 have e1:n / 128 * 128+(qX (n % 128)).toNat % 128=n:=by rw[vA _ (by omega)];omega
 simp only[e1]
 rw[if_neg (by omega),if_pos (by rw[vA _ (by omega)];omega)]
 simp
theorem zWr (most:Int):∀(t:List UInt8) (acc i a k:Nat),(acc≠0\/t[0]? ≠ some 128)->zG most acc i t=some (a,k)->i<k/\k<=i+t.length/\hiL acc++t.take (k - i)=qg a/\(a:Int)<=most:=by
 intro t
 induction t with
 | nil=>intro acc i a k _ h;simp[zG] at h
 | cons d t ih =>
  intro acc i a k hne h
  rw[zG] at h
  split at h
  . simp at h
  . rename_i hm
    split at h
    . rename_i hd
      obtain ⟨rfl,rfl⟩:acc * 128+d.toNat % 128=a/\i+1=k:=by simpa using h
      refine ⟨by omega,by simp,?_,by omega⟩
      unfold qg
      have e1:(acc * 128+d.toNat % 128) / 128=acc:=by omega
      have e2:qX ((acc * 128+d.toNat % 128) % 128)=d:=by
       have:(acc * 128+d.toNat % 128) % 128=d.toNat:=by omega
       rw[this];unfold qX;simp
      rw[e1,e2]
      simp
    . rename_i hd
      have hacc:acc * 128+d.toNat % 128≠0:=by
       rcases hne with h0 | h0
       . omega
       . intro e
         refine h0 ?_
         have hd2:d.toNat<256:=d.toNat_lt
         have:d=128:=by apply UInt8.toNat.inj;show d.toNat=128;omega
         simp[this]
      obtain ⟨h1,h2,h3,h4⟩:=ih _ _ _ _ (.inl hacc) h
      refine ⟨by omega,by simp;omega,?_,h4⟩
      rw[zAg _ hacc] at h3
      have e1:(acc * 128+d.toNat % 128) / 128=acc:=by omega
      have e2:qX ((acc * 128+d.toNat % 128) % 128+128)=d:=by
       have hd2:d.toNat<256:=d.toNat_lt
       have:(acc * 128+d.toNat % 128) % 128+128=d.toNat:=by omega
       rw[this];unfold qX;simp
      rw[e1,e2] at h3
      have e3:k - i=(k - (i+1))+1:=by omega
      rw[e3,List.take_succ_cons,<- h3]
      simp
theorem zCk (l:List UInt8) (most:Int) (a k:Nat) (h:zBu l most=some (a,k)):1<=k/\k<=6/\k<=l.length/\l.take k=qg a/\(a:Int)<=most/\a<4398046511104:=by
 unfold zBu at h
 split at h
 . simp at h
 . rename_i h0
   have hh:(l.take 6)[0]? ≠ some 128:=by rw[List.getElem?_take];simpa using h0
   obtain ⟨h1,h2,h3,h4⟩:=zWr most (l.take 6) 0 0 a k (.inr hh) h
   simp[vx] at h3 h2
   have hk:k<=6:=by omega
   rw[List.take_take,Nat.min_eq_left hk] at h3
   refine ⟨by omega,hk,by omega,h3,h4,?_⟩
   have hl:(qg a).length<=6:=by rw[<- h3];simp;omega
   refine Nat.lt_of_not_le λhc=>?_
   have:=zIm 5 (a / 128) (by simp;omega)
   unfold qg at hl
   simp at hl;omega
def qc (n:Int):Nat:=if n<0 then 0 else if n > 1099511627776 then 1099511627776 else n.toNat
theorem vn (n:Int):qc n<=1099511627776:=by unfold qc;split;omega;split<;>omega
theorem heldW_in (n:Int) (h0:0<=n) (h1:n<=1099511627776):(qc n:Int)=n:=by unfold qc;rw[if_neg (by omega),if_neg (by omega)];omega
end
section
open Go.RowKit
theorem ret_int {k:IntKind} {a b:Int} (h:a=b):Ending.returned (.int k a)=.returned (.int k b):=by rw[h]
theorem ret_bool {a b:Bool} (h:a=b):Ending.returned (.bool a)=.returned (.bool b):=by rw[h]
def ub (c:UInt8):Value:=.int .u8 c.toNat
theorem zEn (n:Nat) (h:n<256):ub (qX n)=.int .u8 n:=by unfold ub;rw[vA n h]
theorem vH (a:Addr) (n:Nat):(a.add n).block=a.block:=by unfold Addr.add;split<;>rfl
theorem add_add (a:Addr) (i j:Nat):(a.add i).add j=a.add (i+j):=by
 unfold Addr.add
 by_cases hi:i=0<;>by_cases hj:j=0<;>simp[hi,hj,Nat.add_assoc]
theorem qD {w:World} {p:Nat} {o:Obj} (h:w.heap[p]? = some o):p<w.heap.size:=(Array.getElem?_eq_some_iff.1 h).1
def RB (w:World) (B:Nat) (A:Option Addr) (l:List UInt8):Prop :=
 0<l.length->∃ad,A=some ad/\ad.block<B/\∀j (h:j<l.length),w.cell? (ad.add j)=some (ub l[j])
section
variable {w w':World} {B B':Nat} {A:Option Addr} {l:List UInt8}
theorem RB.nil:RB w B A []:=λh=>absurd h (by simp)
theorem RB.keep (h:RB w B A l) (hk:∀b,b<B->w'.heap[b]? = w.heap[b]?):RB w' B A l:=λhn=>by
 obtain ⟨ad,e,hb,hc⟩:=h hn
 exact ⟨ad,e,hb,λj hj=>(World.cell?_of_block (hk _ (by rw[vH];exact hb))).trans (hc j hj)⟩
theorem RB.mono (h:RB w B A l) (hB:B<=B'):RB w B' A l:=λhn=>by
 obtain ⟨ad,e,hb,hc⟩:=h hn
 exact ⟨ad,e,by omega,hc⟩
theorem RB.below (h:RB w B A l) (hb:Below B' w w') (hB:B<=B'):RB w' B A l:=h.keep λb hlt=>hb.block b (by omega)
theorem RB.drew (h:RB w B A l):RB w.drew B A l:=h
theorem RB.alloc (h:RB w B A l) (hB:B<=w.heap.size) (o:Obj):RB (w.alloc o) B A l:=h.keep λb hb=>Below.heap_alloc w o b (by omega)
theorem RB.setCell (h:RB w B A l) {p:Addr} (hB:B<=p.block) (u:Value):RB (w.setCell p u) B A l:=h.keep λb hb=>Below.heap_setCell w p u b (by omega)
theorem RB.setFar (h:RB w B A l) {p j:Nat} (hp:∀ad,A=some ad->0<l.length->ad.block≠p) (u:Value):RB (w.setCell ⟨p,j,none⟩ u) B A l:=λhn=>by
 obtain ⟨ad,e,hb,hc⟩:=h hn
 exact ⟨ad,e,hb,λi hi=>(World.cell?_of_block (Below.heap_setCell w ⟨p,j,none⟩ u _ (by rw[vH];exact hp ad e hn))).trans (hc i hi)⟩
theorem RB.grown (h:RB w B A l) {row:Option Nat} (hg:w.grownBy w' row) (hB:B<=w.heap.size) (hr:∀g,row=some g->B<=g):RB w' B A l :=
 h.keep λb hb=>hg.block b (by omega) (λe=>by have:=hr _ e.symm;omega)
theorem RB.drop (h:RB w B A l) {k cap:Nat} (hk:k<=l.length) (hc:l.length<=cap):RB w B (if cap=k then A else A.map (·.add k)) (l.drop k):=λhn=>by
 rw[List.length_drop] at hn
 obtain ⟨ad,rfl,hb,hcell⟩:=h (by omega)
 rw[if_neg (by omega)]
 refine ⟨ad.add k,rfl,by rw[vH];exact hb,λj hj=>?_⟩
 rw[List.length_drop] at hj
 rw[add_add,hcell (k+j) (by omega),List.getElem_drop]
theorem RB.take (h:RB w B A l) (k:Nat):RB w B A (l.take k):=λhn=>by
 rw[List.length_take] at hn
 obtain ⟨ad,rfl,hb,hcell⟩:=h (by omega)
 refine ⟨ad,rfl,hb,λj hj=>?_⟩
 rw[List.length_take] at hj
 rw[hcell j (by omega),List.getElem_take]
theorem RB.of_own {base n c:Nat} {e:TypeId} (h:w.ownsRow base e 1 (.slice A n c) n (l.map ub)):RB w w.heap.size A l:=λhn=>by
 have hl:l.length=n:=by have:=h.1;simpa using this
 obtain ⟨g,cap,hv,_,hlt⟩:=h.form (by omega)
 have hA:A=some ⟨g,0,none⟩:=by injection hv
 subst hA
 exact ⟨_,rfl,hlt,λj hj=>h.cells (g:=g) rfl j _ (by simp[hj])⟩
theorem RB.news (h:RB w B A l):∀ad,A=some ad->∀j u,(l.map ub)[j]? = some u->w.cell? (ad.add j)=some u:=λad e j u hu=>by
 have hj:j<l.length:=by
  rcases Nat.lt_or_ge j l.length with h1 | h1
  . exact h1
  . rw[List.getElem?_eq_none (by simpa using h1)] at hu;cases hu
 obtain ⟨ad',e',_,hc⟩:=h (by omega)
 rw[e] at e';cases e'
 rw[hc j hj]
 simp[hj] at hu
 rw[hu]
end
theorem ones_ub (l:List UInt8):∀u∈l.map ub,u.oneCell'=true:=λu hu=>by
 obtain ⟨c,_,rfl⟩:=List.mem_map.1 hu
 rfl
def Fresh (w:World) (l:List UInt8) (e:Ending) (w':World):Prop :=
 ∃(A:Option Addr) (c:Nat) (L:List UInt8),e=.returned (.slice A L.length c)/\Hid (L=l)/\L.length<=c/\RB w' w'.heap.size A L/\(∀ad,A=some ad->w.heap.size<=ad.block)/\Below w.heap.size w w'
theorem qN {W:World} {b:Nat} {e:TypeId} {size:Nat} {v:Value} {k:Nat} {xs:List Value} (h:W.ownsRow b e size v k xs):∃p cap,v=.slice p k cap/\k<=cap:=by
 rcases h.2 with ⟨rfl,rfl⟩ | ⟨g,cap,cur,rfl,_,_,h1,_⟩
 . exact ⟨_,_,rfl,Nat.le_refl _⟩
 . exact ⟨_,_,rfl,h1⟩
theorem Fresh.of {w w':World} {base n c:Nat} {e:TypeId} {A:Option Addr} {l:List UInt8} (h:w'.ownsRow base e 1 (.slice A n c) n (l.map ub)) (hbase:w.heap.size<=base) (hb:Below w.heap.size w w'):Fresh w l (.returned (.slice A n c)) w':=by
 have hl:l.length=n:=by have:=h.1;simpa using this
 have h2:n<=c:=by
  obtain ⟨p,cap,e,h1⟩:=qN h
  cases e;exact h1
 exact ⟨A,c,l,by rw[hl],rfl,by omega,.of_own h,λad e=>Nat.le_trans hbase (h.lt ad.block (by rw[e];rfl)).1,hb⟩
theorem zH {P:Program} (w:World) (base:Nat) (t ty e:TypeId) (i:TypeInfo) (size:Nat) (ht:P.underlying t=some (.slice e)) (hi:P.info? e=some i)
 (v:Value) (n:Nat) (xs:List Value) (hown:w.ownsRow base e size v n xs) (c:Nat):(Builtin.append_ #[t,t] ty #[v,.slice none 0 c]).run P w=.ok v w:=by
 rcases hown.2 with ⟨rfl,rfl⟩ | ⟨g,cap,cur,rfl,_,_,hnc,_⟩
 . simp[Builtin.append_,run_underlying ht,sizeOf,typeInfo,hi,Builtin.lenOf,Builtin.firstCells]
 . simp[Builtin.append_,run_underlying ht,sizeOf,typeInfo,hi,Builtin.lenOf,Builtin.firstCells,hnc,storeCells]
theorem yD {P:Program} (w:World) (base:Nat) (t ty e:TypeId) (i:TypeInfo) (z:Value) (ht:P.underlying t=some (.slice e)) (hi:P.info? e=some i) (hz:i.zero=some z)
 (hsize:i.size=1) (hby:i.bytes=1) (hzs:z.cells.size=1)
 (v:Value) (xs:List UInt8) (hown:w.ownsRow base e 1 v xs.length (xs.map ub)) (B:Nat) (A:Option Addr) (c:Nat) (l:List UInt8) (hr:RB w B A l)
 (hbig:xs.length+l.length<=140737488355328) (hbase:base<=w.heap.size) :
 ∃p cap w',(Builtin.append_ #[t,t] ty #[v,.slice A l.length c]).run P w=.ok (.slice p (xs++l).length cap) w'/\w'.ownsRow base e 1 (.slice p (xs++l).length cap) (xs++l).length ((xs++l).map ub)/\w.grownBy w' v.ownBlock/\((Value.slice p (xs++l).length cap).ownBlock=v.ownBlock\/(Value.slice p (xs++l).length cap).ownBlock=some w.heap.size):=by
 have e1:(xs++l).map ub=xs.map ub++l.map ub:=List.map_append
 have e2:(xs++l).length=xs.length+l.length:=List.length_append
 rw[e1,e2]
 rcases A with _ | ad
 . have hl:l = []:=by
    rcases Nat.eq_zero_or_pos l.length with h0 | h0
    . exact List.eq_nil_of_length_eq_zero h0
    . obtain ⟨ad,h,_⟩:=hr h0
      cases h
   subst hl
   obtain ⟨p,cap,rfl,_⟩:=qN hown
   exact ⟨p,cap,w,by simpa using zH w base t ty e i 1 ht hi _ _ _ hown c,by simpa using hown,World.grownBy.refl w _,.inl (by cases p<;>rfl)⟩
 . obtain ⟨v',w',hrun,h2,h3,_,h5⟩:=run_append_own_at (P:=P) w base t ty e i z 1 1 ht hi hz hsize hby hzs (by decide) v xs.length (xs.map ub) hown ad l.length c (l.map ub) (by simp) (hr.news ad rfl) (ones_ub l)
    (by unfold maxLen;omega) (by omega) hbase
   obtain ⟨p,cap,rfl,_⟩:=qN h2
   exact ⟨p,cap,w',hrun,h2,h3,h5⟩
theorem qu {P:Program} (w:World) {ops:Array Oper} {rest:List Oper} {o:Oper} {a:Act} {Q:Exit->Act->World->Prop} (hgd:o.guard=none) (s x:Operand) (t:TypeId)
 (ho:o.op=.call { callee:=.builtin .append,args:=#[s,x],argTypes:=#[t,t] })
 (base:Nat) (e:TypeId) (i:TypeInfo) (z:Value) (ht:P.underlying t=some (.slice e)) (hi:P.info? e=some i) (hz:i.zero=some z)
 (hsize:i.size=1) (hby:i.bytes=1) (hzs:z.cells.size=1)
 (v:Value) (xs:List UInt8) (hs:a.eval s=v) (hown:w.ownsRow base e 1 v xs.length (xs.map ub)) (B:Nat) (A:Option Addr) (c:Nat) (l:List UInt8) (hx:a.eval x=.slice A l.length c) (hr:RB w B A l)
 (hbig:xs.length+l.length<=140737488355328) (hbase:base<=w.heap.size)
 (h:∀p cap w',w'.ownsRow base e 1 (.slice p (xs++l).length cap) (xs++l).length ((xs++l).map ub)->w.grownBy w' v.ownBlock->((Value.slice p (xs++l).length cap).ownBlock=v.ownBlock\/(Value.slice p (xs++l).length cap).ownBlock=some w.heap.size)->wpList P ops Q rest (a.put o.dst (.slice p (xs++l).length cap)) w'):wpList P ops Q (o::rest) a w:=by
 refine wpList_plain hgd λK hK=>?_
 obtain ⟨p,cap,w',hrun,h2,h3,h5⟩:=yD (P:=P) w base t o.type e i z ht hi hz hsize hby hzs v xs hown B A c l hr hbig hbase
 unfold Oper.wp execOp
 simp only[ho,resolve,invoke,builtin,Sem.run_bind,Sem.run_pure,Result.andThen_ok,List.map_toArray,List.map_cons,List.map_nil,hs,hx,hrun]
 exact hK _ _ (h p cap w' h2 h3 h5)
theorem vS {w w':World} {base n:Nat} {e:TypeId} {size:Nat} {v:Value} {xs:List Value} (h:w.ownsRow base e size v n xs) (hk:∀g,v.ownBlock=some g->w'.heap[g]? = w.heap[g]?):w'.ownsRow base e size v n xs:=by
 refine ⟨h.1,?_⟩
 rcases h.2 with h0 | ⟨g,cap,cur,hv,hb,hg,h1⟩
 . exact .inl h0
 . exact .inr ⟨g,cap,cur,hv,hb,(hk g (by rw[hv];rfl)).trans hg,h1⟩
def strOf (l:List UInt8):ByteArray:=⟨l.toArray⟩
theorem zPa {w:World} {B:Nat} {A:Option Addr} {l:List UInt8} (h:RB w B A l) (c:Nat):(convert 34 9 (.slice A l.length c)).run Tryz.prog w=.ok (.string (strOf l)) w:=by
 rw[run_convert_bytes_string w 34 9 5 A l.length c Tryz.underlying34 Tryz.underlying5 Tryz.underlying9]
 rcases A with _ | ad
 . have hl:l = []:=by
    rcases Nat.eq_zero_or_pos l.length with h0 | h0
    . exact List.eq_nil_of_length_eq_zero h0
    . obtain ⟨ad,h,_⟩:=h h0
      cases h
   subst hl
   simp[Conv.bytesToString,strOf]
   rfl
 . have hc:=run_loadCells_list (P:=Tryz.prog) w ad (l.map ub) (h.news ad rfl)
   have e:l.map ub=(l.map λc=>(c.toNat:Int)).map (Value.int .u8):=by simp[ub]
   rw[e,List.length_map,List.length_map] at hc
   rw[run_bytesToString w ad l.length c (l.map λc=>(c.toNat:Int)) hc,foldl_push_bytes]
   have e3:∀l:List UInt8,(l.map λc=>(c.toNat:Int)).map (λn=>UInt8.ofNat n.toNat)=l:=λl=>by
    induction l with
    | nil=>rfl
    | cons c l ih=>simp only[List.map_cons,ih];simp
   rw[e3]
   simp[strOf]
theorem vP:(Tryz.prog.info? 5).map (λi=>(i.zero,i.size,i.bytes))=some (some (.int .u8 0),1,1):=by kernel_rfl
theorem zYg:∀n:Fin 256,bits .or .u8 (n.val:Int) 128=((n.val % 128+128:Nat):Int):=by decide +kernel
theorem or128 (x:Int) (h0:0<=x) (h1:x<256):bits .or .u8 x 128=x % 128+128:=by
 have:=zYg ⟨x.toNat,by omega⟩
 simp only at this
 rw[show ((x.toNat:Nat):Int)=x by omega] at this
 rw[this];omega
theorem zUi:∀n:Fin 256,bits .andNot .u8 (n.val:Int) 128=((n.val % 128:Nat):Int):=by decide +kernel
theorem not128 (x:Int) (h0:0<=x) (h1:x<256):bits .andNot .u8 x 128=x % 128:=by
 have:=zUi ⟨x.toNat,by omega⟩
 simp only at this
 rw[show ((x.toNat:Nat):Int)=x by omega] at this
 rw[this];omega
theorem zVo:∀n:Fin 256,(bits .and .u8 (n.val:Int) 128==0)=decide (n.val<128):=by decide +kernel
theorem and128 (x:Int) (h0:0<=x) (h1:x<256):(bits .and .u8 x 128==0)=decide (x<128):=by
 have:=zVo ⟨x.toNat,by omega⟩
 simp only at this
 rw[show ((x.toNat:Nat):Int)=x by omega] at this
 rw[this,Bool.eq_iff_iff];simp
 try omega
theorem and127 (x:Int) (h0:0<=x) (h1:x<9223372036854775808):bits .and .i64 x 127=x % 128:=by
 have:=bits_mask .i64 63 (by decide) (λn h0 h1=>by rw[IntKind.wrap_i64];omega) 7 (by decide) x h0 h1
 simpa using this
theorem or7 (acc x:Nat) (h:acc<34359738368) (hx:x<128):bits .or .i64 ((acc:Int) * 128) (x:Int)=((acc * 128+x:Nat):Int):=by
 have e:bits .or .i64 ((acc:Int) * 128) (x:Int)=bits .or .i64 (x:Int) ((acc:Int) * 128):=by simp only[bits,BitVec.or_comm]
 rw[e,bits_join_low .i64 63 (by decide) (λn h0 h1=>by rw[IntKind.wrap_i64];omega) 7 (x:Int) ((acc:Int) * 128) (by omega) (by omega) (by omega) (by omega) (by omega) (by omega)]
 omega
end
section
open Go.RowKit
theorem qS {B:Nat} {w w':World} (h:Below B w w') (n:Nat):Below B w (w'.drewN n):=⟨h.os,h.tape,h.output,h.size,h.block⟩
structure Bk where
 bad:Bool
 next:Int
 count:Int
 pages:List (List UInt8)
structure CS where
 bl:List Bk
 np:Nat
 fails:Int
 worns:Int
 cuts:Int
 keep:Int
 dark:Bool
 rd:Int
 pr:Int
 er:Int
structure Turned (F:Nat->Prop) (w w':World):Prop where
 os:w'.os=w.os
 tape:w'.tape=w.tape
 output:w'.output=w.output
 size:w.heap.size<=w'.heap.size
 block:∀i,i<w.heap.size->¬F i->w'.heap[i]? = w.heap[i]?
theorem Turned.refl (F:Nat->Prop) (w:World):Turned F w w:=⟨rfl,rfl,rfl,Nat.le_refl _,λ_ _ _=>rfl⟩
theorem Turned.of_below {F:Nat->Prop} {w w':World} (h:Below w.heap.size w w'):Turned F w w':=⟨h.os,h.tape,h.output,h.size,λi hi _=>h.block i hi⟩
theorem Turned.trans {F G:Nat->Prop} {a b c:World} (h:Turned F a b) (k:Turned G b c) (hG:∀i,i<a.heap.size->G i->F i):Turned F a c :=
 ⟨k.os.trans h.os,k.tape.trans h.tape,k.output.trans h.output,Nat.le_trans h.size k.size,λi hi hF=>(k.block i (Nat.lt_of_lt_of_le hi h.size) λg=>hF (hG i hi g)).trans (h.block i hi hF)⟩
theorem Turned.setCell {F:Nat->Prop} {a b:World} (h:Turned F a b) {p:Addr} (hp:p.block<a.heap.size->F p.block) (u:Value):Turned F a (b.setCell p u) :=
 ⟨h.os,h.tape,h.output,by simpa using h.size,λi hi hF=>(Below.heap_setCell b p u i (λe=>hF (by subst e;exact hp hi))).trans (h.block i hi hF)⟩
theorem Turned.alloc {F:Nat->Prop} {a b:World} (h:Turned F a b) (o:Obj):Turned F a (b.alloc o) :=
 h.trans (G:=F) (.of_below (bR.alloc nL o)) λ_ _ g=>g
theorem Turned.drew {F:Nat->Prop} {a b:World} (h:Turned F a b):Turned F a b.drew:=h.trans (G:=F) (.of_below bR.drew) λ_ _ g=>g
def CB (w:World) (C:Nat->Prop) (A:Option Addr) (l:List UInt8):Prop :=
 0<l.length->∃ad,A=some ad/\C ad.block/\∀j (h:j<l.length),w.cell? (ad.add j)=some (ub l[j])
section
variable {w w':World} {C D:Nat->Prop} {A:Option Addr} {l:List UInt8}
theorem CB.nil:CB w C A []:=λh=>absurd h (by simp)
theorem CB.keep (h:CB w C A l) (hk:∀b,C b->w'.heap[b]? = w.heap[b]?) (hD:∀b,C b->D b):CB w' D A l:=λhn=>by
 obtain ⟨ad,e,hb,hc⟩:=h hn
 exact ⟨ad,e,hD _ hb,λj hj=>(World.cell?_of_block (hk _ (by rw[vH];exact hb))).trans (hc j hj)⟩
theorem CB.rb (h:CB w C A l) {B:Nat} (hB:∀b,C b->b<B):RB w B A l:=λhn=>by
 obtain ⟨ad,e,hb,hc⟩:=h hn
 exact ⟨ad,e,hB _ hb,hc⟩
end
def CS.cells (S:CS) (q cap:Nat):Array Value :=
 #[.slice (some ⟨q,0,none⟩) S.bl.length cap,.int .i64 S.np,.int .i64 S.fails,.int .i64 S.worns,.int .i64 S.cuts,.int .i64 S.keep,.bool S.dark,.int .i64 S.rd,.int .i64 S.pr,.int .i64 S.er]
def PageAt (w:World) (C:Nat->Prop) (a:Addr) (l:List UInt8):Prop:=∃A c,w.cell? a=some (.slice A l.length c)/\l.length<=c/\l.length<=2000/\CB w C A l
structure BkAt (w:World) (C:Nat->Prop) (q i g np:Nat) (b:Bk):Prop where
 bad:w.cell? ⟨q,i * 4,none⟩=some (.bool b.bad)
 next:w.cell? ⟨q,i * 4+1,none⟩=some (.int .i64 b.next)
 count:w.cell? ⟨q,i * 4+2,none⟩=some (.int .i64 b.count)
 row:w.cell? ⟨q,i * 4+3,none⟩=some (.slice (some ⟨g,0,none⟩) np np)
 len:b.pages.length=np
 plain:∃cs t,w.heap[g]? = some (.cells cs t (0,0))
 pages:∀j (h:j<b.pages.length),PageAt w C ⟨g,j,none⟩ b.pages[j]
 nextIn:0<=b.next/\b.next<=np
def Own (p q:Nat) (g:Nat->Nat) (C:Nat->Prop) (n:Nat) (b:Nat):Prop:=b=p\/b=q\/(∃i,i<n/\b=g i)\/C b
section
variable {w w':World} {p q cap:Nat} {g:Nat->Nat} {C:Nat->Prop} {S S':CS}
theorem PageAt.kept {a:Addr} {l:List UInt8} (h:PageAt w C a l) (ha:w'.heap[a.block]? = w.heap[a.block]?) (hC:∀b,C b->w'.heap[b]? = w.heap[b]?):PageAt w' C a l:=by
 obtain ⟨A,c,h1,h2,h4,h3⟩:=h
 exact ⟨A,c,(World.cell?_of_block ha).trans h1,h2,h4,h3.keep hC λ_ h=>h⟩
theorem BkAt.kept {i k np:Nat} {b:Bk} (h:BkAt w C q i k np b) (hq:w'.heap[q]? = w.heap[q]?) (hk:w'.heap[k]? = w.heap[k]?) (hC:∀b,C b->w'.heap[b]? = w.heap[b]?):BkAt w' C q i k np b where
 bad:=(World.cell?_of_block hq).trans h.bad
 next:=(World.cell?_of_block hq).trans h.next
 count:=(World.cell?_of_block hq).trans h.count
 row:=(World.cell?_of_block hq).trans h.row
 len:=h.len
 plain:=by obtain ⟨cs,t,e⟩:=h.plain;exact ⟨cs,t,hk.trans e⟩
 pages:=λj hj=>(h.pages j hj).kept hk hC
 nextIn:=h.nextIn
end
end
section
open Go.RowKit
theorem qO {w:World} {p:Nat} {cs:Array Value} {t:TypeId} (h:w.heap[p]? = some (.cells cs t (0,0))) (j:Nat):w.frozen? ⟨p,j,none⟩=false:=by
 simp[World.frozen?,h]
section
variable {p q cap:Nat} {g:Nat->Nat} {C:Nat->Prop} {S:CS} {w:World}
end
def leftS (n:Int):Int:=if n=0 then 0 else n - 1
end
section
open Go.RowKit
structure Tm where
 set:Bool
 left:Int
structure LS where
 bl:List Bk
 np:Nat
 rd:Int
 pr:Int
 er:Int
 dark:Bool
 f:Tm
 w:Tm
 c:Tm
 keep:Int
def LS.cells (S:LS) (q cap:Nat):Array Value :=
 #[.slice (some ⟨q,0,none⟩) S.bl.length cap,.int .i64 S.np,.int .i64 S.rd,.int .i64 S.pr,.int .i64 S.er,.bool S.dark,.bool S.f.set,.int .i64 S.f.left,.bool S.w.set,.int .i64 S.w.left,.bool S.c.set,.int .i64 S.c.left,.int .i64 S.keep]
structure LAt (w:World) (p q cap:Nat) (g:Nat->Nat) (C:Nat->Prop) (S:LS):Prop where
 self:w.heap[p]? = some (.cells (S.cells q cap) 97 (0,0))
 plain:∃cs t,w.heap[q]? = some (.cells cs t (0,0))
 blocks:∀i (h:i<S.bl.length),BkAt w C q i (g i) S.np S.bl[i]
 ne:p≠q
 gp:∀i,i<S.bl.length->g i≠p/\g i≠q
 gg:∀i j,i<S.bl.length->j<S.bl.length->g i=g j->i=j
 cp:∀b,C b->b≠p/\b≠q/\∀i,i<S.bl.length->b≠g i
 cl:∀b,C b->b<w.heap.size
 cap:S.bl.length<=cap
 small:S.bl.length<=64/\1<=S.np/\S.np<=32
 ints:0<=S.f.left/\S.f.left<=9223372036854775807/\0<=S.w.left/\S.w.left<=9223372036854775807/\0<=S.c.left/\S.c.left<=9223372036854775807/\0<=S.keep
section
variable {w w':World} {p q cap:Nat} {g:Nat->Nat} {C:Nat->Prop} {S S':LS}
theorem LAt.lt (h:LAt w p q cap g C S):∀b,Own p q g C S.bl.length b->b<w.heap.size:=λb hb=>by
 rcases hb with rfl | rfl | ⟨i,hi,rfl⟩ | hb
 . exact qD h.self
 . obtain ⟨cs,t,e⟩:=h.plain;exact qD e
 . obtain ⟨cs,t,e⟩:=(h.blocks i hi).plain;exact qD e
 . exact h.cl b hb
theorem LAt.kept (h:LAt w p q cap g C S) (hs:w.heap.size<=w'.heap.size) (hk:∀b,Own p q g C S.bl.length b->w'.heap[b]? = w.heap[b]?):LAt w' p q cap g C S :=
 { h with
   self:=(hk p (.inl rfl)).trans h.self
   plain:=by obtain ⟨cs,t,e⟩:=h.plain;exact ⟨cs,t,(hk q (.inr (.inl rfl))).trans e⟩
   blocks:=λi hi=>(h.blocks i hi).kept (hk q (.inr (.inl rfl))) (hk _ (.inr (.inr (.inl ⟨i,hi,rfl⟩)))) λb hb=>hk b (.inr (.inr (.inr hb)))
   cl:=λb hb=>Nat.lt_of_lt_of_le (h.cl b hb) hs }
theorem LAt.turned {F:Nat->Prop} (h:LAt w p q cap g C S) (ht:Turned F w w') (hF:∀b,Own p q g C S.bl.length b->¬F b):LAt w' p q cap g C S :=
 h.kept ht.size λb hb=>ht.block b (h.lt b hb) (hF b hb)
theorem LAt.below (h:LAt w p q cap g C S) (hb:Below w.heap.size w w'):LAt w' p q cap g C S:=h.kept hb.size λb ho=>hb.block b (h.lt b ho)
theorem LAt.drew (h:LAt w p q cap g C S):LAt w.drew p q cap g C S:=h.below bR.drew
theorem LAt.alloc (h:LAt w p q cap g C S) (o:Obj):LAt (w.alloc o) p q cap g C S:=h.below (bR.alloc nL o)
theorem LAt.self_set (h:LAt w p q cap g C S) {j:Nat} {u:Value} (hb:S'.bl=S.bl) (hn:S'.np=S.np) (hc:(S.cells q cap).setIfInBounds j u=S'.cells q cap) (hi:0<=S'.f.left/\S'.f.left<=9223372036854775807/\0<=S'.w.left/\S'.w.left<=9223372036854775807/\0<=S'.c.left/\S'.c.left<=9223372036854775807/\0<=S'.keep) :
 LAt (w.setCell ⟨p,j,none⟩ u) p q cap g C S':=by
 have far:∀b,b≠p->(w.setCell ⟨p,j,none⟩ u).heap[b]? = w.heap[b]? := λb hb=>Below.heap_setCell w ⟨p,j,none⟩ u b hb
 have hq:=far q h.ne.symm
 obtain ⟨bl,np,r1,r2,r3,dk,f1,f2,f3,f4⟩:=S'
 obtain rfl:bl=S.bl:=hb
 obtain rfl:np=S.np:=hn
 exact { h with
  self:=by rw[heap_setCell_same w p j _ _ u h.self,hc]
  plain:=by obtain ⟨cs,t,e⟩:=h.plain;exact ⟨cs,t,hq.trans e⟩
  blocks:=λi hi=>(h.blocks i hi).kept hq (far _ (h.gp i hi).1) λb hb=>far _ (h.cp b hb).1
  cl:=λb hb=>by simpa using h.cl b hb
  ints:=hi }
end
theorem qw {w:World} {p:Nat} {a b c d e f g h i j k l m:Value} {t:TypeId} (hh:w.heap[p]? = some (.cells #[a,b,c,d,e,f,g,h,i,j,k,l,m] t (0,0))) :
 w.cell? ⟨p,0,none⟩=some a/\w.cell? ⟨p,1,none⟩=some b/\w.cell? ⟨p,2,none⟩=some c/\w.cell? ⟨p,3,none⟩=some d/\w.cell? ⟨p,4,none⟩=some e/\w.cell? ⟨p,5,none⟩=some f/\w.cell? ⟨p,6,none⟩=some g/\w.cell? ⟨p,7,none⟩=some h/\w.cell? ⟨p,8,none⟩=some i/\w.cell? ⟨p,9,none⟩=some j/\w.cell? ⟨p,10,none⟩=some k/\w.cell? ⟨p,11,none⟩=some l/\w.cell? ⟨p,12,none⟩=some m:=by
 simp[World.cell?,hh]
theorem LAt.drewN {w:World} {p q cap:Nat} {g:Nat->Nat} {C:Nat->Prop} {S:LS} (h:LAt w p q cap g C S) (n:Nat):LAt (w.drewN n) p q cap g C S:=h.below (qS bR n)
end
section
open Go.RowKit
section
variable {p q cap:Nat} {g:Nat->Nat} {C D:Nat->Prop} {S:LS} {w w':World}
theorem LAt.blk (h:LAt w p q cap g C S) {i:Nat} {b:Bk} (hp:w'.heap[p]? = w.heap[p]?) (hq:∃cs t,w'.heap[q]? = some (.cells cs t (0,0)))
 (hfar:∀k,k≠i->∀m,m<4->w'.cell? ⟨q,k * 4+m,none⟩=w.cell? ⟨q,k * 4+m,none⟩) (hg:∀k,k<S.bl.length->k≠i->w'.heap[g k]? = w.heap[g k]?)
 (hC:∀b,C b->w'.heap[b]? = w.heap[b]?) (hCD:∀b,C b->D b) (hD:∀b,D b->(b≠p/\b≠q/\∀k,k<S.bl.length->b≠g k)/\b<w'.heap.size) (hb:BkAt w' D q i (g i) S.np b) :
 LAt w' p q cap g D { S with bl:=S.bl.set i b } where
 self:=by rw[hp,h.self];simp[LS.cells]
 plain:=hq
 blocks:=λk hk=>by
  have hk':k<S.bl.length:=by simpa using hk
  show BkAt w' D q k (g k) S.np ((S.bl.set i b)[k])
  rw[List.getElem_set]
  split
  . next e=>subst e;exact hb
  . next e =>
    have ne:k≠i:=λe'=>e e'.symm
    have o:=h.blocks k hk'
    exact {
     bad:=by have:=hfar k ne 0 (by omega);rw[Nat.add_zero] at this;exact this.trans o.bad
     next:=(hfar k ne 1 (by omega)).trans o.next
     count:=(hfar k ne 2 (by omega)).trans o.count
     row:=(hfar k ne 3 (by omega)).trans o.row
     len:=o.len
     plain:=by obtain ⟨cs,t,e⟩:=o.plain;exact ⟨cs,t,(hg k hk' ne).trans e⟩
     pages:=λj hj=>by
      obtain ⟨A,c,h1,h2,h4,h3⟩:=o.pages j hj
      exact ⟨A,c,(World.cell?_of_block (a:=⟨g k,j,none⟩) (hg k hk' ne)).trans h1,h2,h4,h3.keep hC hCD⟩
     nextIn:=o.nextIn }
 ne:=h.ne
 gp:=λk hk=>h.gp k (by simpa using hk)
 gg:=λk m hk hm=>h.gg k m (by simpa using hk) (by simpa using hm)
 cp:=λb hb=>⟨(hD b hb).1.1,(hD b hb).1.2.1,λk hk=>(hD b hb).1.2.2 k (by simpa using hk)⟩
 cl:=λb hb=>(hD b hb).2
 cap:=by simpa using h.cap
 small:=by simpa using h.small
 ints:=h.ints
theorem LAt.row_set (h:LAt w p q cap g C S) {i m:Nat} {b:Bk} {u:Value} (hi:i<S.bl.length) (hm:m<3) (hpg:b.pages=S.bl[i].pages) (hn:0<=b.next/\b.next<=S.np)
 (h0:if m=0 then u=.bool b.bad else b.bad=S.bl[i].bad) (h1:if m=1 then u=.int .i64 b.next else b.next=S.bl[i].next) (h2:if m=2 then u=.int .i64 b.count else b.count=S.bl[i].count) :
 LAt (w.setCell ⟨q,i * 4+m,none⟩ u) p q cap g C { S with bl:=S.bl.set i b } :=by
 have o:=h.blocks i hi
 have far:∀k,k≠q->(w.setCell ⟨q,i * 4+m,none⟩ u).heap[k]? = w.heap[k]? := λk hk=>Below.heap_setCell w ⟨q,i * 4+m,none⟩ u k hk
 have oth:∀x,x≠i * 4+m->(w.setCell ⟨q,i * 4+m,none⟩ u).cell? ⟨q,x,none⟩=w.cell? ⟨q,x,none⟩:=λx hx=>World.cell?_setCell_other _ _ _ _ (λe=>hx (by simpa using e.symm))
 refine h.blk (far p h.ne) ?_ (λk hk x hx=>oth _ (by omega)) (λk hk _=>far _ (h.gp k hk).2) (λb hb=>far b (h.cp b hb).2.1) (λ_ h=>h) (λb hb=>⟨h.cp b hb,by simpa using h.cl b hb⟩) ?_
 . obtain ⟨cs,t,e⟩:=h.plain
   exact ⟨_,t,heap_setCell_same w q _ cs t u e⟩
 . exact {
    bad:=by
     by_cases e:m=0
     . subst e;rw[if_pos rfl] at h0;subst h0;exact World.cell?_setCell_same _ ⟨q,i * 4+0,none⟩ _ o.bad
     . rw[if_neg e] at h0;rw[h0,oth _ (by omega)];exact o.bad
    next:=by
     by_cases e:m=1
     . subst e;rw[if_pos rfl] at h1;subst h1;exact World.cell?_setCell_same _ _ _ o.next
     . rw[if_neg e] at h1;rw[h1,oth _ (by omega)];exact o.next
    count:=by
     by_cases e:m=2
     . subst e;rw[if_pos rfl] at h2;subst h2;exact World.cell?_setCell_same _ _ _ o.count
     . rw[if_neg e] at h2;rw[h2,oth _ (by omega)];exact o.count
    row:=by rw[oth _ (by omega)];exact o.row
    len:=by rw[hpg];exact o.len
    plain:=by obtain ⟨cs,t,e⟩:=o.plain;exact ⟨cs,t,(far _ (h.gp i hi).2).trans e⟩
    pages:=λj hj=>by
     have hj':j<S.bl[i].pages.length:=by rw[<- hpg];exact hj
     have:=(o.pages j hj').kept (w':=w.setCell ⟨q,i * 4+m,none⟩ u) (far _ (h.gp i hi).2) (λb hb=>far b (h.cp b hb).2.1)
     simpa[hpg] using this
    nextIn:=hn }
theorem LAt.page_set (h:LAt w p q cap g C S) {i j c:Nat} {A:Option Addr} {l:List UInt8} (hi:i<S.bl.length) (hc:l.length<=c) (hl:l.length<=2000)
 (hCD:∀b,C b->D b) (hD:∀b,D b->(b≠p/\b≠q/\∀k,k<S.bl.length->b≠g k)/\b<w.heap.size) (hb:CB w D A l) :
 LAt (w.setCell ⟨g i,j,none⟩ (.slice A l.length c)) p q cap g D { S with bl:=S.bl.set i { S.bl[i] with pages:=S.bl[i].pages.set j l } } :=by
 have o:=h.blocks i hi
 have far:∀k,k≠g i->(w.setCell ⟨g i,j,none⟩ (.slice A l.length c)).heap[k]? = w.heap[k]? := λk hk=>Below.heap_setCell w ⟨g i,j,none⟩ _ k hk
 have hq:=far q (h.gp i hi).2.symm
 have hDk:∀b,D b->(w.setCell ⟨g i,j,none⟩ (.slice A l.length c)).heap[b]? = w.heap[b]? := λb hb=>far b ((hD b hb).1.2.2 i hi)
 refine h.blk (far p (h.gp i hi).1.symm) ?_ (λk _ x _=>World.cell?_of_block (a:=⟨q,k * 4+x,none⟩) hq) (λk hk hne=>far _ λe=>hne (h.gg k i hk hi e)) (λb hb=>hDk b (hCD b hb)) hCD (λb hb=>⟨(hD b hb).1,by simpa using (hD b hb).2⟩) ?_
 . obtain ⟨cs,t,e⟩:=h.plain
   exact ⟨cs,t,hq.trans e⟩
 . exact {
    bad:=(World.cell?_of_block (a:=⟨q,i * 4,none⟩) hq).trans o.bad
    next:=(World.cell?_of_block (a:=⟨q,i * 4+1,none⟩) hq).trans o.next
    count:=(World.cell?_of_block (a:=⟨q,i * 4+2,none⟩) hq).trans o.count
    row:=(World.cell?_of_block (a:=⟨q,i * 4+3,none⟩) hq).trans o.row
    len:=by simpa using o.len
    plain:=by
     obtain ⟨cs,t,e⟩:=o.plain
     exact ⟨_,t,heap_setCell_same w (g i) j cs t _ e⟩
    pages:=λk hk=>by
     have hk':k<S.bl[i].pages.length:=by simpa using hk
     show PageAt _ D ⟨g i,k,none⟩ ((S.bl[i].pages.set j l)[k])
     rw[List.getElem_set]
     split
     . next e =>
       subst e
       obtain ⟨A0,c0,h1,_⟩:=o.pages j hk'
       exact ⟨A,c,World.cell?_setCell_same _ _ _ h1,hc,hl,hb.keep hDk λ_ h=>h⟩
     . next e =>
       obtain ⟨A0,c0,h1,h2,h4,h3⟩:=o.pages k hk'
       exact ⟨A0,c0,(World.cell?_setCell_other _ _ _ _ (λe'=>by injection e' with _ h2 _;exact e h2)).trans h1,h2,h4,h3.keep (λb hb=>hDk b (hCD b hb)) hCD⟩
    nextIn:=o.nextIn }
end
end
section
open Go.RowKit
theorem yI (x n:Int) (w:World) :
 Calls Tryz.prog 70 #[.int .i64 x,.int .i64 n] w λe w'=>e=.returned (.bool (decide (1<=x/\x<=n)))/\w=w':=by
 go_enter Tryz.func70,Tryz.ntmps70
 go_wp2
 . have h:1<=x:=by assumption
   go_ret
   exact ⟨ret_bool (by simp[h]),rfl⟩
 . have h:x<1:=by assumption
   go_ret
   exact ⟨ret_bool (by simp;omega),rfl⟩
def vY (n:Int):Tm:=if n<0 then ⟨false,0⟩ else ⟨true,n⟩
theorem zIz {n:Int} (h:n<=9223372036854775807):0<=(vY n).left/\(vY n).left<=9223372036854775807:=by unfold vY;split<;>simp<;>omega
theorem zIy (n:Int) (w:World):Calls Tryz.prog 44 #[.int .i64 n] w λe w'=>e=.returned (.agg #[.bool (vY n).set,.int .i64 (vY n).left])/\Below w.heap.size w w':=by
 go_enter Tryz.func44,Tryz.ntmps44
 go_wp2
 all_goals refine bodyPost_ret (results_cell_row rfl _ _ w.heap.size _ _ _ _ rfl (heap_alloc_new _ _) Tryz.underlying94 rfl (by kernel_rfl)) rfl ?_
 all_goals refine ⟨?_,bR.alloc nL _⟩
 all_goals unfold vY
 . rw[if_pos (by assumption)]
 . rw[if_neg (by omega)]
section
variable {p q cap:Nat} {g:Nat->Nat} {C:Nat->Prop} {S:LS} {w:World}
def LPost (p q cap:Nat) (g:Nat->Nat) (C:Nat->Prop) (n:Nat) (v:Value) (S':LS) (w:World) (e:Ending) (w':World):Prop :=
 e=.returned v/\LAt w' p q cap g C S'/\Turned (Own p q g C n) w w'
theorem fail_any (n:Int) (hn:n<=9223372036854775807) (h:LAt w p q cap g C S):Calls Tryz.prog 13 #[.pointer (some ⟨p,0,none⟩),.int .i64 n] w (LPost p q cap g C S.bl.length (.tuple #[]) { S with f:=vY n } w):=by
 have hb:=zIz hn
 obtain ⟨b,hbb⟩:∃b,vY n=b:=⟨_,rfl⟩
 rw[hbb] at hb
 go_enter Tryz.func13,Tryz.ntmps13
 go_wp2_with (go_at_call 44;refine (zIy _ _).mono ?_;rintro e w' ⟨rfl,hbw⟩;rw[hbb];have h1:=h.below hbw;obtain ⟨c0,c1,c2,c3,c4,c5,c6,c7,c8,c9,c10,c11,c12⟩:=qw h1.self;have f2:=qO h1.self 6;have f3:=qO h1.self 7)
 go_end0
 rw[hbb]
 exact ⟨rfl,LAt.self_set (S := { S with f:=⟨b.set,S.f.left⟩ }) (h1.self_set rfl rfl rfl h.ints) rfl rfl rfl ⟨hb.1,hb.2,h.ints.2.2⟩,((Turned.of_below hbw).setCell (λ_=>.inl rfl) _).setCell (λ_=>.inl rfl) _⟩
theorem worn_any (n:Int) (hn:n<=9223372036854775807) (h:LAt w p q cap g C S):Calls Tryz.prog 14 #[.pointer (some ⟨p,0,none⟩),.int .i64 n] w (LPost p q cap g C S.bl.length (.tuple #[]) { S with w:=vY n } w):=by
 have hb:=zIz hn
 obtain ⟨b,hbb⟩:∃b,vY n=b:=⟨_,rfl⟩
 rw[hbb] at hb
 go_enter Tryz.func14,Tryz.ntmps14
 go_wp2_with (go_at_call 44;refine (zIy _ _).mono ?_;rintro e w' ⟨rfl,hbw⟩;rw[hbb];have h1:=h.below hbw;obtain ⟨c0,c1,c2,c3,c4,c5,c6,c7,c8,c9,c10,c11,c12⟩:=qw h1.self;have f2:=qO h1.self 8;have f3:=qO h1.self 9)
 go_end0
 rw[hbb]
 exact ⟨rfl,LAt.self_set (S := { S with w:=⟨b.set,S.w.left⟩ }) (h1.self_set rfl rfl rfl h.ints) rfl rfl rfl ⟨h.ints.1,h.ints.2.1,hb.1,hb.2,h.ints.2.2.2.2⟩,((Turned.of_below hbw).setCell (λ_=>.inl rfl) _).setCell (λ_=>.inl rfl) _⟩
theorem down_any (h:LAt w p q cap g C S):Calls Tryz.prog 18 #[.pointer (some ⟨p,0,none⟩)] w (λe w'=>e=.returned (.bool S.dark)/\w'=w):=by
 obtain ⟨c0,c1,c2,c3,c4,c5,c6,c7,c8,c9,c10,c11,c12⟩:=qw h.self
 go_enter Tryz.func18,Tryz.ntmps18
 go_wp2
 go_ret
 exact ⟨rfl,rfl⟩
theorem bill_any (h:LAt w p q cap g C S):Calls Tryz.prog 40 #[.pointer (some ⟨p,0,none⟩)] w (λe w'=>e=.returned (.agg #[.int .i64 S.rd,.int .i64 S.pr,.int .i64 S.er])/\Below w.heap.size w w'):=by
 have hp:=h.lt p (.inl rfl)
 obtain ⟨c0,c1,c2,c3,c4,c5,c6,c7,c8,c9,c10,c11,c12⟩:=qw h.self
 go_enter Tryz.func40,Tryz.ntmps40
 go_wp2
 refine bodyPost_ret (results_cell_row rfl _ _ w.heap.size _ _ _ _ rfl (heap_alloc_new _ _) Tryz.underlying85 rfl (by kernel_rfl)) rfl ?_
 exact ⟨rfl,bR.alloc nL _⟩
end
def Tm.hit (t:Tm):Bool:=t.set&&decide (t.left<=0)
def Tm.tick (t:Tm):Tm:=if t.set=true then (if 0<t.left then ⟨true,t.left - 1⟩ else ⟨false,0⟩) else t
theorem zWd {p o:Nat} {t:Tm} {w:World} (h0:w.cell? ⟨p,o,none⟩=some (.bool t.set)) (ht:t.set=false):Calls Tryz.prog 150 #[.pointer (some ⟨p,o,none⟩)] w λe w'=>e=.returned (.bool false)/\w'=w:=by
 rw[ht] at h0
 go_enter Tryz.func150,Tryz.ntmps150
 go_wp2
 go_ret
 exact ⟨rfl,rfl⟩
theorem zOw {p o:Nat} {t:Tm} {w:World} (h0:w.cell? ⟨p,o,none⟩=some (.bool t.set)) (h1:w.cell? ⟨p,o+1,none⟩=some (.int .i64 t.left)) (hf:w.frozen? ⟨p,o+1,none⟩=false) (ht:t.set=true) (hl:0<t.left) (hl2:t.left<=9223372036854775807):Calls Tryz.prog 150 #[.pointer (some ⟨p,o,none⟩)] w λe w'=>e=.returned (.bool false)/\w'=w.setCell ⟨p,o+1,none⟩ (.int .i64 (t.left - 1)):=by
 rw[ht] at h0
 go_enter Tryz.func150,Tryz.ntmps150
 go_wp2
 go_ret
 exact ⟨rfl,rfl⟩
theorem zWc {p o:Nat} {t:Tm} {w:World} (h0:w.cell? ⟨p,o,none⟩=some (.bool t.set)) (h1:w.cell? ⟨p,o+1,none⟩=some (.int .i64 t.left)) (hg:w.frozen? ⟨p,o,none⟩=false) (hf:w.frozen? ⟨p,o+1,none⟩=false) (ht:t.set=true) (hl:t.left<=0):Calls Tryz.prog 150 #[.pointer (some ⟨p,o,none⟩)] w λe w'=>e=.returned (.bool true)/\w'=(w.setCell ⟨p,o,none⟩ (.bool false)).setCell ⟨p,o+1,none⟩ (.int .i64 0):=by
 rw[ht] at h0
 go_enter Tryz.func150,Tryz.ntmps150
 go_wp2
 go_ret
 exact ⟨rfl,rfl⟩
section
variable {p q cap:Nat} {g:Nat->Nat} {C:Nat->Prop} {S:LS} {w:World}
theorem yAm (h:LAt w p q cap g C S):Calls Tryz.prog 150 #[.pointer (some ⟨p,6,none⟩)] w λe w'=>e=.returned (.bool S.f.hit)/\LAt w' p q cap g C { S with f:=S.f.tick } /\ Turned (λb=>b=p) w w':=by
 obtain ⟨c0,c1,c2,c3,c4,c5,c6,c7,c8,c9,c10,c11,c12⟩:=qw h.self
 have hin:=h.ints
 cases hs:S.f.set with
 | false =>
  refine (zWd (t:=S.f) c6 hs).mono ?_
  rintro e w' ⟨rfl,rfl⟩
  have e1:S.f.tick=S.f:=by unfold Tm.tick;rw[hs];rfl
  rw[e1]
  exact ⟨by unfold Tm.hit;rw[hs];rfl,h,.refl _ _⟩
 | true =>
  by_cases hl:0<S.f.left
  . refine (zOw (t:=S.f) c6 c7 (qO h.self 7) hs hl (by omega)).mono ?_
    rintro e w' ⟨rfl,rfl⟩
    have e1:S.f.tick=⟨S.f.set,S.f.left - 1⟩:=by unfold Tm.tick;rw[if_pos hs,if_pos hl,hs]
    have e2:S.f.hit=false:=by unfold Tm.hit;rw[hs];simp;omega
    rw[e1,e2]
    exact ⟨rfl,h.self_set rfl rfl rfl (by refine ⟨?_,?_,?_,?_,?_,?_,?_⟩<;>dsimp only<;>omega),(Turned.refl (λb=>b=p) w).setCell (p:=⟨p,_,none⟩) (λ_=>rfl) _⟩
  . refine (zWc (t:=S.f) c6 c7 (qO h.self 6) (qO h.self 7) hs (by omega)).mono ?_
    rintro e w' ⟨rfl,rfl⟩
    have e1:S.f.tick=⟨false,0⟩:=by unfold Tm.tick;rw[if_pos hs,if_neg hl]
    have e2:S.f.hit=true:=by unfold Tm.hit;rw[hs];simp;omega
    rw[e1,e2]
    exact ⟨rfl,LAt.self_set (S := { S with f:=⟨false,S.f.left⟩ }) (h.self_set rfl rfl rfl h.ints) rfl rfl rfl (by refine ⟨?_,?_,?_,?_,?_,?_,?_⟩<;>dsimp only<;>omega),((Turned.refl (λb=>b=p) w).setCell (p:=⟨p,_,none⟩) (λ_=>rfl) _).setCell (p:=⟨p,_,none⟩) (λ_=>rfl) _⟩
theorem yAk (h:LAt w p q cap g C S):Calls Tryz.prog 150 #[.pointer (some ⟨p,8,none⟩)] w λe w'=>e=.returned (.bool S.w.hit)/\LAt w' p q cap g C { S with w:=S.w.tick } /\ Turned (λb=>b=p) w w':=by
 obtain ⟨c0,c1,c2,c3,c4,c5,c6,c7,c8,c9,c10,c11,c12⟩:=qw h.self
 have hin:=h.ints
 cases hs:S.w.set with
 | false =>
  refine (zWd (t:=S.w) c8 hs).mono ?_
  rintro e w' ⟨rfl,rfl⟩
  have e1:S.w.tick=S.w:=by unfold Tm.tick;rw[hs];rfl
  rw[e1]
  exact ⟨by unfold Tm.hit;rw[hs];rfl,h,.refl _ _⟩
 | true =>
  by_cases hl:0<S.w.left
  . refine (zOw (t:=S.w) c8 c9 (qO h.self 9) hs hl (by omega)).mono ?_
    rintro e w' ⟨rfl,rfl⟩
    have e1:S.w.tick=⟨S.w.set,S.w.left - 1⟩:=by unfold Tm.tick;rw[if_pos hs,if_pos hl,hs]
    have e2:S.w.hit=false:=by unfold Tm.hit;rw[hs];simp;omega
    rw[e1,e2]
    exact ⟨rfl,h.self_set rfl rfl rfl (by refine ⟨?_,?_,?_,?_,?_,?_,?_⟩<;>dsimp only<;>omega),(Turned.refl (λb=>b=p) w).setCell (p:=⟨p,_,none⟩) (λ_=>rfl) _⟩
  . refine (zWc (t:=S.w) c8 c9 (qO h.self 8) (qO h.self 9) hs (by omega)).mono ?_
    rintro e w' ⟨rfl,rfl⟩
    have e1:S.w.tick=⟨false,0⟩:=by unfold Tm.tick;rw[if_pos hs,if_neg hl]
    have e2:S.w.hit=true:=by unfold Tm.hit;rw[hs];simp;omega
    rw[e1,e2]
    exact ⟨rfl,LAt.self_set (S := { S with w:=⟨false,S.w.left⟩ }) (h.self_set rfl rfl rfl h.ints) rfl rfl rfl (by refine ⟨?_,?_,?_,?_,?_,?_,?_⟩<;>dsimp only<;>omega),((Turned.refl (λb=>b=p) w).setCell (p:=⟨p,_,none⟩) (λ_=>rfl) _).setCell (p:=⟨p,_,none⟩) (λ_=>rfl) _⟩
theorem zKg (h:LAt w p q cap g C S):Calls Tryz.prog 150 #[.pointer (some ⟨p,10,none⟩)] w λe w'=>e=.returned (.bool S.c.hit)/\LAt w' p q cap g C { S with c:=S.c.tick } /\ Turned (λb=>b=p) w w':=by
 obtain ⟨c0,c1,c2,c3,c4,c5,c6,c7,c8,c9,c10,c11,c12⟩:=qw h.self
 have hin:=h.ints
 cases hs:S.c.set with
 | false =>
  refine (zWd (t:=S.c) c10 hs).mono ?_
  rintro e w' ⟨rfl,rfl⟩
  have e1:S.c.tick=S.c:=by unfold Tm.tick;rw[hs];rfl
  rw[e1]
  exact ⟨by unfold Tm.hit;rw[hs];rfl,h,.refl _ _⟩
 | true =>
  by_cases hl:0<S.c.left
  . refine (zOw (t:=S.c) c10 c11 (qO h.self 11) hs hl (by omega)).mono ?_
    rintro e w' ⟨rfl,rfl⟩
    have e1:S.c.tick=⟨S.c.set,S.c.left - 1⟩:=by unfold Tm.tick;rw[if_pos hs,if_pos hl,hs]
    have e2:S.c.hit=false:=by unfold Tm.hit;rw[hs];simp;omega
    rw[e1,e2]
    exact ⟨rfl,h.self_set rfl rfl rfl (by refine ⟨?_,?_,?_,?_,?_,?_,?_⟩<;>dsimp only<;>omega),(Turned.refl (λb=>b=p) w).setCell (p:=⟨p,_,none⟩) (λ_=>rfl) _⟩
  . refine (zWc (t:=S.c) c10 c11 (qO h.self 10) (qO h.self 11) hs (by omega)).mono ?_
    rintro e w' ⟨rfl,rfl⟩
    have e1:S.c.tick=⟨false,0⟩:=by unfold Tm.tick;rw[if_pos hs,if_neg hl]
    have e2:S.c.hit=true:=by unfold Tm.hit;rw[hs];simp;omega
    rw[e1,e2]
    exact ⟨rfl,LAt.self_set (S := { S with c:=⟨false,S.c.left⟩ }) (h.self_set rfl rfl rfl h.ints) rfl rfl rfl (by refine ⟨?_,?_,?_,?_,?_,?_,?_⟩<;>dsimp only<;>omega),((Turned.refl (λb=>b=p) w).setCell (p:=⟨p,_,none⟩) (λ_=>rfl) _).setCell (p:=⟨p,_,none⟩) (λ_=>rfl) _⟩
end
end
section
open Go.RowKit
section
variable {p q cap:Nat} {g:Nat->Nat} {C:Nat->Prop} {S:CS} {w:World}
end
end
section
open Go.RowKit
def NewB (w w':World) (A:Option Addr) (l:List UInt8):Prop:=CB w' (λk=>w.heap.size<=k/\k<w'.heap.size) A l/\Below w.heap.size w w'
theorem box2 {w w':World} {x y:Value} {t:TypeId} (h:Below (w.alloc (.cells #[x,y] t)).heap.size (w.alloc (.cells #[x,y] t)) w'):w'.heap[w.heap.size]? = some (.cells #[x,y] t (0,0)):=by
 rw[h.block _ (by simp),heap_alloc_new]
theorem zEd {w:World} {p:Nat} {a b:Value} {t:TypeId} (h:w.heap[p]? = some (.cells #[a,b] t (0,0))):w.cell? ⟨p,0,none⟩=some a/\w.cell? ⟨p,1,none⟩=some b/\w.frozen? ⟨p,0,none⟩=false/\w.frozen? ⟨p,1,none⟩=false:=by
 simp[World.cell?,World.frozen?,h]
section
variable {p q cap:Nat} {g:Nat->Nat} {C:Nat->Prop} {S:CS} {w:World}
end
end
section
open Go.RowKit
def isL (S:LS) (b:Int):Bool:=decide (0<=b/\b<(S.bl.length:Int))
def zIo (S:LS) (b pg:Int):Bool:=decide (0<=b/\b<(S.bl.length:Int)/\0<=pg/\pg<(S.np:Int))
def zDd (S:LS) (b:Int):Bk:=S.bl.getD b.toNat ⟨false,0,0,[]⟩
def zBj (S:LS) (b:Int):Int:=if isL S b=false then 1 else if S.dark=true then 2 else if (zDd S b).bad=true then 3 else 0
def zCf (S:LS) (b pg:Int) (n:Nat):Int:=if zIo S b pg=false\/n<1\/2000<n then 1 else if zBj S b≠0 then zBj S b else if pg≠(zDd S b).next then 4 else 0
theorem vi {S:LS} {i:Nat} (hi:i<S.bl.length):zDd S i=S.bl[i]:=by simp[zDd,hi]
theorem zCu {S:LS} {b pg:Int} (h:zIo S b pg=true):∃i j:Nat,b=i/\pg=j/\i<S.bl.length/\j<S.np:=by
 simp[zIo] at h
 exact ⟨b.toNat,pg.toNat,by omega,by omega,by omega,by omega⟩
theorem zAd {S:LS} {b:Int} (h:isL S b=true):∃i:Nat,b=i/\i<S.bl.length:=by
 simp[isL] at h
 exact ⟨b.toNat,by omega,by omega⟩
theorem zZq {S:LS} {b pg:Int} (h:zIo S b pg=true):isL S b=true:=by
 simp[zIo] at h;simp[isL];omega
section
variable {p q cap:Nat} {g:Nat->Nat} {C:Nat->Prop} {S:LS} {w:World}
theorem zBp (b:Int) (h:LAt w p q cap g C S):Calls Tryz.prog 71 #[.pointer (some ⟨p,0,none⟩),.int .i64 b] w λe w'=>e=.returned (.bool (isL S b))/\w'=w:=by
 obtain ⟨c0,c1,c2,c3,c4,c5,c6,c7,c8,c9,c10,c11,c12⟩:=qw h.self
 clear h c1 c2 c3 c4 c5 c6 c7 c8 c9 c10 c11 c12
 by_cases h1:0<=b
 . by_cases h2:b<(S.bl.length:Int)
   . go_enter Tryz.func71,Tryz.ntmps71
     go_wp2
     all_goals go_ret
     all_goals exact ⟨ret_bool (by simp[isL,h1,h2]),rfl⟩
   . go_enter Tryz.func71,Tryz.ntmps71
     go_wp2
     all_goals go_ret
     all_goals exact ⟨ret_bool (by simp[isL];omega),rfl⟩
 . go_enter Tryz.func71,Tryz.ntmps71
   go_wp2
   all_goals go_ret
   all_goals exact ⟨ret_bool (by simp[isL];omega),rfl⟩
theorem yd (b pg:Int) (h:LAt w p q cap g C S):Calls Tryz.prog 93 #[.pointer (some ⟨p,0,none⟩),.agg #[.int .i64 b,.int .i64 pg]] w λe w'=>e=.returned (.bool (zIo S b pg))/\Below w.heap.size w w':=by
 have h0:=h.alloc (.cells #[.int .i64 b,.int .i64 pg] 69)
 have hp:p<w.heap.size:=qD h.self
 obtain ⟨c0,c1,c2,c3,c4,c5,c6,c7,c8,c9,c10,c11,c12⟩:=qw h.self
 clear c0 c2 c3 c4 c5 c6 c7 c8 c9 c10 c11 c12
 have hk:=λn=>zBp b (h0.drewN n)
 cases h1:isL S b with
 | false =>
  have hh:zIo S b pg=false:=by
   cases e:zIo S b pg with
   | false=>rfl
   | true=>have:=zZq e;rw[h1] at this;cases this
  rw[hh]
  simp only[h1] at hk
  clear hh h h0
  go_enter Tryz.func93,Tryz.ntmps93
  go_wp2
  go_quiet (first | (go_at_call 71;refine Calls.quiet_of_same (hk _)))
  go_wp2
  go_ret
  exact ⟨rfl,qS (bR.alloc nL _) _⟩
 | true =>
  have hs:isL S b=true:=h1
  obtain ⟨i,rfl,hi⟩:=zAd h1
  simp only[h1] at hk
  clear h h0 h1 hs
  by_cases h3:0<=pg
  . have d3:decide ((0:Int)<=pg)=true:=by simpa using h3
    go_enter Tryz.func93,Tryz.ntmps93
    go_wp2
    go_quiet (first | (go_at_call 71;refine Calls.quiet_of_same (hk _)))
    go_wp2
    go_ret
    exact ⟨ret_bool (by simp[zIo,hi,h3]),qS (bR.alloc nL _) _⟩
  . have d3:decide ((0:Int)<=pg)=false:=by simpa using h3
    go_enter Tryz.func93,Tryz.ntmps93
    go_wp2
    go_quiet (first | (go_at_call 71;refine Calls.quiet_of_same (hk _)))
    go_wp2
    go_ret
    exact ⟨ret_bool (by simp[zIo];omega),qS (bR.alloc nL _) _⟩
theorem yj (b:Int) (h:LAt w p q cap g C S):Calls Tryz.prog 168 #[.pointer (some ⟨p,0,none⟩),.int .i64 b] w λe w'=>e=.returned (.int .i64 (zBj S b))/\w'=w:=by
 obtain ⟨c0,c1,c2,c3,c4,c5,c6,c7,c8,c9,c10,c11,c12⟩:=qw h.self
 clear c1 c2 c3 c4 c6 c7 c8 c9 c10 c11 c12
 have hk:=zBp b h
 cases h1:isL S b with
 | false =>
  rw[h1] at hk
  have e1:zBj S b=1:=by simp[zBj,h1]
  rw[e1]
  go_enter Tryz.func168,Tryz.ntmps168
  go_wp2_with (go_at_call 71;refine hk.mono ?_;rintro e w' ⟨rfl,rfl⟩)
  go_ret
  exact ⟨rfl,rfl⟩
 | true =>
  rw[h1] at hk
  obtain ⟨i,rfl,hi⟩:=zAd h1
  have r0:=(h.blocks i hi).bad
  cases hd:S.dark with
  | true =>
   rw[hd] at c5
   have e1:zBj S i=2:=by simp[zBj,h1,hd]
   rw[e1]
   go_enter Tryz.func168,Tryz.ntmps168
   go_wp2_with (go_at_call 71;refine hk.mono ?_;rintro e w' ⟨rfl,rfl⟩)
   go_ret
   exact ⟨rfl,rfl⟩
  | false =>
   rw[hd] at c5
   cases hb:S.bl[i].bad with
   | true =>
    rw[hb] at r0
    have e1:zBj S i=3:=by simp[zBj,h1,hd,vi hi,hb]
    rw[e1]
    go_enter Tryz.func168,Tryz.ntmps168
    go_wp2_with (go_at_call 71;refine hk.mono ?_;rintro e w' ⟨rfl,rfl⟩)
    go_ret
    exact ⟨rfl,rfl⟩
   | false =>
    rw[hb] at r0
    have e1:zBj S i=0:=by simp[zBj,h1,hd,vi hi,hb]
    rw[e1]
    go_enter Tryz.func168,Tryz.ntmps168
    go_wp2_with (go_at_call 71;refine hk.mono ?_;rintro e w' ⟨rfl,rfl⟩)
    go_ret
    exact ⟨rfl,rfl⟩
theorem bad3 {n:Nat} (h1:¬n<1) (h2:¬2000<n):¬(true=false\/n<1\/2000<n):=by
 rintro (e | e | e)
 . cases e
 . exact h1 e
 . exact h2 e
theorem zFo (b pg:Int) (A:Option Addr) (n c:Nat) (h:LAt w p q cap g C S):Calls Tryz.prog 149 #[.pointer (some ⟨p,0,none⟩),.agg #[.int .i64 b,.int .i64 pg],.slice A n c] w λe w'=>e=.returned (.int .i64 (zCf S b pg n))/\Below w.heap.size w w':=by
 have H0:=hI (h.alloc (.cells #[.int .i64 b,.int .i64 pg] 69))
 have hp:p<w.heap.size:=qD h.self
 have hbb:∀{w1:World},Below (w.alloc (.cells #[.int .i64 b,.int .i64 pg] 69)).heap.size (w.alloc (.cells #[.int .i64 b,.int .i64 pg] 69)) w1->Below w.heap.size w w1:=λhb=>(bR.alloc nL _).trans (hb.mono (by simp))
 cases hh:zIo S b pg with
 | false =>
  have e1:zCf S b pg n=1:=by simp[zCf,hh]
  rw[e1]
  go_enter Tryz.func149,Tryz.ntmps149
  go_wp2_with (go_at_call 93;refine (yd b pg H0.out).mono ?_;rintro e w' ⟨rfl,hb⟩;rw[hh])
  go_ret
  exact ⟨rfl,hbb hb⟩
 | true =>
  by_cases h1:n<1
  . have e1:zCf S b pg n=1:=by simp[zCf,h1]
    rw[e1]
    have d1:decide ((1:Int)<=(n:Int)/\(n:Int)<=2000)=false:=by simp;omega
    go_enter Tryz.func149,Tryz.ntmps149
    go_wp2_with (first
     | (go_at_call 93;refine (yd b pg H0.out).mono ?_;rintro e w' ⟨rfl,hb⟩;rw[hh])
     | (go_at_call 70;refine (yI _ _ _).mono ?_;rintro e w'' ⟨rfl,rfl⟩;rw[d1]))
    go_ret
    exact ⟨rfl,hbb hb⟩
  . by_cases h2:2000<n
    . have e1:zCf S b pg n=1:=by simp[zCf,h2]
      rw[e1]
      have d1:decide ((1:Int)<=(n:Int)/\(n:Int)<=2000)=false:=by simp;omega
      go_enter Tryz.func149,Tryz.ntmps149
      go_wp2_with (first
       | (go_at_call 93;refine (yd b pg H0.out).mono ?_;rintro e w' ⟨rfl,hb⟩;rw[hh])
       | (go_at_call 70;refine (yI _ _ _).mono ?_;rintro e w'' ⟨rfl,rfl⟩;rw[d1]))
      go_ret
      exact ⟨rfl,hbb hb⟩
    . have d1:decide ((1:Int)<=(n:Int)/\(n:Int)<=2000)=true:=by simp;omega
      obtain ⟨i,j,rfl,rfl,hi,hj⟩:=zCu hh
      cases hz:(zBj S i != 0) with
      | true =>
       have hz':zBj S i≠0:=by simpa using hz
       have e1:zCf S i j n=zBj S i:=by
        unfold zCf
        rw[if_neg (by rw[hh];exact bad3 h1 h2),if_pos hz']
       rw[e1]
       go_enter Tryz.func149,Tryz.ntmps149
       go_wp2_with (first
        | (go_at_call 93;refine (yd i j H0.out).mono ?_;rintro e w1 ⟨rfl,hb⟩;rw[hh];obtain ⟨d0,d1',_,_⟩:=zEd (box2 hb))
        | (go_at_call 70;refine (yI _ _ _).mono ?_;rintro e w'' ⟨rfl,rfl⟩;rw[d1])
        | (go_at_call 168;refine (yj i (H0.out.below hb)).mono ?_;rintro e w'' ⟨rfl,rfl⟩))
       all_goals go_ret
       all_goals exact ⟨rfl,hbb hb⟩
      | false =>
       have hz':zBj S i=0:=by simpa using hz
       by_cases hx:(j:Int)=S.bl[i].next
       . have e1:zCf S i j n=0:=by
          unfold zCf
          rw[if_neg (by rw[hh];exact bad3 h1 h2),if_neg (by omega),vi hi,if_neg (by omega)]
         rw[e1]
         have hne:((j:Int) != S.bl[i].next)=false:=by simpa using hx
         clear hx e1
         go_enter Tryz.func149,Tryz.ntmps149
         go_wp2_with (first
          | (go_at_call 93;refine (yd i j H0.out).mono ?_;rintro e w1 ⟨rfl,hb⟩;rw[hh];obtain ⟨d0,d1',_,_⟩:=zEd (box2 hb);obtain ⟨c0,_,_,_,_,_,_,_,_,_,_,_,_⟩:=qw (H0.out.below hb).self;have r1:=((H0.out.below hb).blocks i hi).next)
          | (go_at_call 70;refine (yI _ _ _).mono ?_;rintro e w'' ⟨rfl,rfl⟩;rw[d1])
          | (go_at_call 168;refine (yj i (H0.out.below hb)).mono ?_;rintro e w'' ⟨rfl,rfl⟩;rw[hz']))
         go_quiet (fail)
         go_wp2
         all_goals go_ret
         all_goals exact ⟨rfl,qS (hbb hb) _⟩
       . have e1:zCf S i j n=4:=by
          unfold zCf
          rw[if_neg (by rw[hh];exact bad3 h1 h2),if_neg (by omega),vi hi,if_pos (by omega)]
         rw[e1]
         have hne:((j:Int) != S.bl[i].next)=true:=by simpa using hx
         clear hx e1
         go_enter Tryz.func149,Tryz.ntmps149
         go_wp2_with (first
          | (go_at_call 93;refine (yd i j H0.out).mono ?_;rintro e w1 ⟨rfl,hb⟩;rw[hh];obtain ⟨d0,d1',_,_⟩:=zEd (box2 hb);obtain ⟨c0,_,_,_,_,_,_,_,_,_,_,_,_⟩:=qw (H0.out.below hb).self;have r1:=((H0.out.below hb).blocks i hi).next)
          | (go_at_call 70;refine (yI _ _ _).mono ?_;rintro e w'' ⟨rfl,rfl⟩;rw[d1])
          | (go_at_call 168;refine (yj i (H0.out.below hb)).mono ?_;rintro e w'' ⟨rfl,rfl⟩;rw[hz']))
         go_quiet (fail)
         go_wp2
         all_goals go_ret
         all_goals exact ⟨rfl,qS (hbb hb) _⟩
end
end
section
open Go.RowKit
def zTg (l:List UInt8) (n:Nat) (w:World) (e:Ending) (w':World):Prop:=∃A2 L,e=.returned (.slice A2 L.length L.length)/\Hid (L=l.take n)/\NewB w w' A2 L
theorem zNb (w:World):NewB w w none []:=⟨.nil,.refl _ _⟩
theorem zRq {w w':World} {l:List UInt8} {t:TypeId} (hb:Below w.heap.size w w') (h:w'.heap[w.heap.size]? = some (.cells (l.map ub).toArray t (0,0))):NewB w w' (some ⟨w.heap.size,0,none⟩) l:=by
 refine ⟨λ_=>⟨_,rfl,⟨Nat.le_refl _,qD h⟩,λj hj=>?_⟩,hb⟩
 have e:(⟨w.heap.size,0,none⟩:Addr).add j=⟨w.heap.size,j,none⟩:=by
  unfold Addr.add
  split
  . next e=>subst e;rfl
  . simp
 rw[e]
 simp[World.cell?,h,hj]
theorem zIc (n:Nat):madeCells #[Value.int .u8 0] n=(List.replicate n (Value.int .u8 0)).toArray:=by
 apply Array.ext
 . simp[madeCells]
 . intro i h1 h2
   simp[madeCells,Nat.mod_one]
theorem zHm {xs ys:List Value} (h:xs.length=ys.length):splice xs 0 ys=ys:=by simp[splice,<- h]
theorem zXw (A:Option Addr) (c m:Nat) (l:List UInt8) (n:Nat) (w:World) (B:Nat) (hr:RB w B A l) (hB:B<=w.heap.size) (hm:m=min n l.length) (hm0:1<=m) (hm1:l.length<=140737488355328) (v:Value) (hv:v=.int .i64 n) :
 Calls Tryz.prog 86 #[.slice A l.length c,v] w (zTg l n w):=by
 subst hv
 obtain ⟨i0,hi,hz0,hz1,hz2⟩:=info_parts vP
 have hsz:(Tryz.prog.info? 5).map (·.size)=some 1:=by rw[hi];simp[hz1]
 obtain ⟨l2,hl2⟩:∃l2,l2=l.take n:=⟨_,rfl⟩
 have hlen:l2.length=m:=by rw[hl2,List.length_take];omega
 have hr2:=hr.take n
 rw[<- hl2] at hr2
 obtain ⟨ad,rfl,hab,hcell⟩:=hr2 (by omega)
 obtain ⟨xs,hxs⟩:∃xs,xs=l2.map ub:=⟨_,rfl⟩
 have hxl:xs.length=m:=by rw[hxs,List.length_map,hlen]
 have hsrc:∀j v,xs[j]? = some v->w.cell? (ad.add j)=some v:=λj v h=>by
  subst hxs
  rw[List.getElem?_map] at h
  obtain ⟨b,hb,rfl⟩:=Option.map_eq_some_iff.1 h
  obtain ⟨hj,rfl⟩:=List.getElem?_eq_some_iff.1 hb
  exact hcell j hj
 have hsrc2:∀o j v,xs[j]? = some v->(w.alloc o).cell? (ad.add j)=some v:=λo j v h =>
  (World.cell?_of_block (heap_alloc_old _ _ (by rw[vH];exact Nat.lt_of_lt_of_le hab hB))).trans (hsrc j v h)
 have h1c:∀v∈xs,v.oneCell'=true:=λv hv=>by
  subst hxs
  obtain ⟨b,_,rfl⟩:=List.mem_map.1 hv
  rfl
 have hmz:m≠0:=by omega
 have HM:=hI hm
 have H2:=hI hl2
 have HL:=hI hlen
 have HX:=hI hxs
 clear hr hr2 hl2 hcell hlen hxs
 by_cases hle:n<=l.length
 . obtain rfl:m=n:=by omega
   clear hm
   go_enter Tryz.func86,Tryz.ntmps86
   go_wp2_with (first
    | (at_make;go_loud (refine wpList_make_row _ rfl _ _ 34 rfl 5 i0 (.int .u8 0) Tryz.underlying34 hi hz0 hz1 rfl .i64 .i64 m rfl rfl (by rw[hz2];omega) (by omega) ?_;rw[zIc]))
    | (refine wpList_copy_splice rfl _ _ 34 34 rfl 5 Tryz.underlying34 hsz _ _ _ _ _ _ rfl rfl w.heap.size 0 (List.replicate m (.int .u8 0)) 5 (by rw[heap_alloc_new];simp) xs (by rw[hxl];show m=min l.length m;omega) (λ_=>⟨rfl,ad,rfl,hsrc2 _⟩) (by rw[hxl];simp) h1c w.heap.size w (bR.alloc nL _) nL ?_;intro w2 hw2 hb2))
   go_ret
   refine ⟨some ⟨w.heap.size,0,none⟩,l2,by rw[HL.out];rfl,H2.out,zRq (t:=5) hb2 ?_⟩
   rw[hw2.out,zHm (by simp[hxl]),HX.out]
 . obtain rfl:m=l.length:=by omega
   clear hm
   go_enter Tryz.func86,Tryz.ntmps86
   go_wp2_with (first
    | (at_make;go_loud (refine wpList_make_row _ rfl _ _ 34 rfl 5 i0 (.int .u8 0) Tryz.underlying34 hi hz0 hz1 rfl .i64 .i64 l.length rfl rfl (by rw[hz2];omega) (by omega) ?_;rw[zIc]))
    | (refine wpList_copy_splice rfl _ _ 34 34 rfl 5 Tryz.underlying34 hsz _ _ _ _ _ _ rfl rfl w.heap.size 0 (List.replicate l.length (.int .u8 0)) 5 (by rw[heap_alloc_new];simp) xs (by rw[hxl];show l.length=min l.length l.length;omega) (λ_=>⟨rfl,ad,rfl,hsrc2 _⟩) (by rw[hxl];simp) h1c w.heap.size w (bR.alloc nL _) nL ?_;intro w2 hw2 hb2))
   go_ret
   refine ⟨some ⟨w.heap.size,0,none⟩,l2,by rw[HL.out];rfl,H2.out,zRq (t:=5) hb2 ?_⟩
   rw[hw2.out,zHm (by simp[hxl]),HX.out]
theorem zCo (A:Option Addr) (c:Nat) (l:List UInt8) (n:Nat) (w:World) (B:Nat) (hr:RB w B A l) (hB:B<=w.heap.size) (hm1:l.length<=140737488355328) (v:Value) (hv:v=.int .i64 n) :
 Calls Tryz.prog 86 #[.slice A l.length c,v] w (zTg l n w):=by
 by_cases h0:1<=min n l.length
 . exact zXw A c _ l n w B hr hB rfl h0 hm1 v hv
 . subst hv
   have e1:l.take n = []:=by
    apply List.eq_nil_of_length_eq_zero
    rw[List.length_take];omega
   by_cases hn:n=0
   . subst hn
     go_enter Tryz.func86,Tryz.ntmps86
     go_wp2
     go_ret
     exact ⟨none,[],rfl,e1.symm,zNb w⟩
   . have hl:l.length=0:=by omega
     go_enter Tryz.func86,Tryz.ntmps86
     go_wp2
     go_ret
     exact ⟨none,[],rfl,e1.symm,zNb w⟩
end
section
open Go.RowKit
def zHd (S:LS) (b pg:Int):List UInt8:=match S.bl[b.toNat]? with
 | none=>[]
 | some x=>x.pages.getD pg.toNat []
def rdL (S:LS) (b pg:Int):List UInt8 × Int × LS :=
 if zIo S b pg=false then ([],1,S) else if S.dark=true then ([],2,S) else (zHd S b pg,0,{ S with rd:=wrap64 (S.rd+1) })
def zDb (p q cap:Nat) (g:Nat->Nat) (C:Nat->Prop) (S:LS) (b pg:Int) (w:World) (e:Ending) (w':World):Prop :=
 ∃A L,e=.returned (.tuple #[.slice A L.length L.length,.int .i64 (rdL S b pg).2.1])/\Hid (L=(rdL S b pg).1)/\CB w' (λk=>w.heap.size<=k/\k<w'.heap.size) A L/\LAt w' p q cap g C (rdL S b pg).2.2/\Turned (Own p q g C S.bl.length) w w'
section
variable {p q cap:Nat} {g:Nat->Nat} {C:Nat->Prop} {S:LS} {w:World}
theorem read_any (b pg:Int) (h:LAt w p q cap g C S):Calls Tryz.prog 59 #[.pointer (some ⟨p,0,none⟩),.agg #[.int .i64 b,.int .i64 pg]] w (zDb p q cap g C S b pg w):=by
 cases hh:zIo S b pg with
 | false =>
  have e1:rdL S b pg=([],1,S):=by simp[rdL,hh]
  have H1:=hI e1
  clear e1
  go_enter Tryz.func59,Tryz.ntmps59
  go_wp2_with (go_at_call 93;refine (yd b pg (h.alloc _)).mono ?_;rintro e w1 ⟨rfl,hb1⟩;rw[hh])
  go_ret2
  unfold zDb
  rw[H1.out]
  exact ⟨none,[],rfl,rfl,.nil,(h.alloc _).below hb1,.of_below ((bR.alloc nL _).trans (hb1.mono (by simp)))⟩
 | true =>
  obtain ⟨i,j,rfl,rfl,hi,hj⟩:=zCu hh
  cases hd:S.dark with
  | true =>
   have e1:rdL S i j=([],2,S):=by simp[rdL,hh,hd]
   have H1:=hI e1
   clear e1
   go_enter Tryz.func59,Tryz.ntmps59
   go_wp2_with (go_at_call 93;refine (yd i j (h.alloc _)).mono ?_;rintro e w1 ⟨rfl,hb1⟩;rw[hh];obtain ⟨c0,c1,c2,c3,c4,c5,c6,c7,c8,c9,c10,c11,c12⟩:=qw ((h.alloc _).below hb1).self;rw[hd] at c5)
   go_ret2
   unfold zDb
   rw[H1.out]
   exact ⟨none,[],rfl,rfl,.nil,(h.alloc _).below hb1,.of_below ((bR.alloc nL _).trans (hb1.mono (by simp)))⟩
  | false =>
   have e1:rdL S i j=(zHd S i j,0,{ S with rd:=wrap64 (S.rd+1) }):=by simp[rdL,hh,hd]
   have H1:=hI e1
   clear e1
   have hne:=h.ne
   have hgp:=h.gp i hi
   have hlt:=h.lt
   go_enter Tryz.func59,Tryz.ntmps59
   go_wp2_with (go_at_call 93;refine (yd i j (h.alloc _)).mono ?_;rintro e w1 ⟨rfl,hb1⟩;rw[hh];have h1:=(h.alloc _).below hb1;obtain ⟨c0,c1,c2,c3,c4,c5,c6,c7,c8,c9,c10,c11,c12⟩:=qw h1.self;rw[hd] at c5;have f2:=qO h1.self 2)
   have hsz:w.heap.size<w1.heap.size:=Nat.lt_of_lt_of_le (by simp) hb1.size
   have h2:LAt (w1.setCell ⟨p,2,none⟩ (.int .i64 (wrap64 (S.rd+1)))) p q cap g C { S with rd:=wrap64 (S.rd+1) } := h1.self_set rfl rfl rfl h.ints
   have d:=(Below.heap_setCell w1 ⟨p,2,none⟩ (.int .i64 (wrap64 (S.rd+1))) w.heap.size (λe=>by have:=hlt p (.inl rfl);have:w.heap.size=p:=e;omega)).trans (box2 hb1)
   have hb2:Turned (Own p q g C S.bl.length) w (w1.setCell ⟨p,2,none⟩ (.int .i64 (wrap64 (S.rd+1)))):=(Turned.of_below ((bR.alloc nL _).trans (hb1.mono (by simp)))).setCell (λ_=>.inl rfl) _
   have H2:=hI h2
   have HB:=hI hb2
   obtain ⟨w2,hw2⟩:∃w2,w2=w1.setCell ⟨p,2,none⟩ (.int .i64 (wrap64 (S.rd+1))):=⟨_,rfl⟩
   rw[<- hw2] at h2 d H2 HB ⊢
   clear c0 c1 c2 c3 c4 c5 c6 c7 c8 c9 c10 c11 c12 f2 h1 hb1 hb2 hw2 hlt hsz
   obtain ⟨c0,c1,c2,c3,c4,c5,c6,c7,c8,c9,c10,c11,c12⟩:=qw h2.self
   clear c1 c2 c3 c4 c5 c6 c7 c8 c9 c10 c11 c12
   obtain ⟨d0,d1,_,_⟩:=zEd d
   have hbk:=h2.blocks i hi
   have hrow:=hbk.row
   obtain ⟨A,c,hpg,hlc,hl2,hcb⟩:=hbk.pages j (by rw[hbk.len];exact hj)
   obtain ⟨l,hl⟩:∃l,l=S.bl[i].pages[j]'(by rw[hbk.len];exact hj):=⟨_,rfl⟩
   have hls:zHd S i j=l:=by
    rw[hl]
    simp[zHd,hi,(show j<S.bl[i].pages.length by rw[hbk.len];exact hj)]
   have hpg':w2.cell? ⟨g i,j,none⟩=some (.slice A l.length c):=by rw[hl];exact hpg
   have hcb':CB w2 C A l:=by rw[hl];exact hcb
   have hl3:l.length<=140737488355328:=by rw[hl];exact Nat.le_trans hl2 (by decide)
   have HL:=hI hls
   have HC:=hI hcb'
   have hl4:l.length<=2000:=by rw[hl];exact hl2
   clear hls hpg hcb hl hbk hcb' hlc h2 h hl2
   have HV:=hI (show Value.int .i64 2000=.int .i64 ((2000:Nat):Int) from rfl)
   have hrb:=HC.out.rb H2.out.cl
   go_region_with (go_at_call 86;(with_reducible refine (zCo A c l 2000 w2.drew w2.heap.size hrb.drew nL hl3 _ HV.out).mono ?_);rintro e w3 ⟨A2,L,rfl,hL,hn⟩)
   all_goals
    go_wp2_with fail
    go_ret2
    unfold zDb
    rw[H1.out]
    refine ⟨A2,L,rfl,?_,hn.1.keep (λ_ _=>rfl) (λk hk=>⟨Nat.le_trans HB.out.size hk.1,hk.2⟩),H2.out.drew.below hn.2,HB.out.drew.trans (G:=λ_=>False) (.of_below hn.2) (λ_ _ h=>h.elim)⟩
    rw[hL.out,HL.out]
    exact List.take_of_length_le hl4
end
end
section
open Go.RowKit
section
variable {p q cap:Nat} {g:Nat->Nat} {C E:Nat->Prop} {S:LS} {w:World}
def putL (S:LS) (b pg:Int) (bad:Bool) (l:List UInt8):List Bk :=
 S.bl.set b.toNat { zDd S b with bad:=bad,next:=(zDd S b).next+1,pages:=(zDd S b).pages.set pg.toNat l }
def qU (S:LS) (b pg:Int) (l:List UInt8):Int × LS :=
 if zCf S b pg l.length≠0 then (zCf S b pg l.length,S)
 else if S.c.hit=true then (2,{ S with pr:=wrap64 (S.pr+1),f:=S.f.tick,c:=S.c.tick,dark:=true,bl:=putL S b pg false (l.take S.keep.toNat) })
 else if S.f.hit=true then (3,{ S with pr:=wrap64 (S.pr+1),f:=S.f.tick,c:=S.c.tick,bl:=putL S b pg true (l.take (l.length / 2)) })
 else (0,{ S with pr:=wrap64 (S.pr+1),f:=S.f.tick,c:=S.c.tick,bl:=putL S b pg false l })
def yY (p q cap:Nat) (g:Nat->Nat) (C:Nat->Prop) (S:LS) (b pg:Int) (l:List UInt8) (w:World) (e:Ending) (w':World):Prop :=
 e=.returned (.int .i64 (qU S b pg l).1)/\∃D,LAt w' p q cap g D (qU S b pg l).2/\(∀k,D k->C k\/(w.heap.size<=k/\k<w'.heap.size))/\Turned (Own p q g C S.bl.length) w w'
theorem Turned.drewN {F:Nat->Prop} {a b:World} (h:Turned F a b) (n:Nat):Turned F a (b.drewN n):=⟨h.os,h.tape,h.output,h.size,h.block⟩
def LS.began (S:LS) (i j:Nat) (hi:i<S.bl.length):LS := { S with pr:=wrap64 (S.pr+1),bl:=S.bl.set i { S.bl[i] with next:=(j:Int)+1 } }
def LS.told (S:LS) (i j:Nat) (hi:i<S.bl.length):LS := { S.began i j hi with f:=S.f.tick,c:=S.c.tick }
structure LMid (w wx:World) (p q cap:Nat) (g:Nat->Nat) (C:Nat->Prop) (n i j:Nat) (S:LS):Prop where
 chip:LAt wx p q cap g C S
 turned:Turned (Own p q g C n) w wx
 box:∃t,wx.heap[w.heap.size]? = some (.cells #[.int .i64 i,.int .i64 j] t (0,0))
theorem LMid.step {w a b:World} {n i j:Nat} {S S':LS} (h:LMid w a p q cap g C n i j S) (hp:p<w.heap.size) (hc:LAt b p q cap g C S') (ht:Turned (λb=>b=p) a b):LMid w b p q cap g C n i j S' where
 chip:=hc
 turned:=h.turned.trans ht λk _ e=>.inl e
 box:=by
  obtain ⟨t,e⟩:=h.box
  exact ⟨t,(ht.block _ (qD e) (λe'=>by omega)).trans e⟩
theorem LMid.name {w a:World} {n i j:Nat} {S:LS} (h:LMid w a p q cap g C n i j S):∃wm,wm=a/\LMid w wm p q cap g C n i j S:=⟨_,rfl,h⟩
theorem LMid.drew {w a:World} {n i j:Nat} {S:LS} (h:LMid w a p q cap g C n i j S):LMid w a.drew p q cap g C n i j S:=⟨h.chip.drew,h.turned.drew,h.box⟩
theorem LMid.below {w a b:World} {n i j:Nat} {S:LS} (h:LMid w a p q cap g C n i j S) (hb:Below a.heap.size a b):LMid w b p q cap g C n i j S:=by
 obtain ⟨t,e⟩:=h.box
 exact ⟨h.chip.below hb,h.turned.trans (G:=λ_=>False) (.of_below hb) (λ_ _ h=>h.elim),t,(hb.block _ (qD e)).trans e⟩
theorem tellL_at (S:LS) (i j:Nat) (hi:i<S.bl.length) (hi':i<(S.told i j hi).bl.length):(S.told i j hi).bl[i] = { S.bl[i] with next:=(j:Int)+1 } :=by simp[LS.told,LS.began]
theorem zFe (S:LS) (i j:Nat) (hi:i<S.bl.length):(S.told i j hi).bl.length=S.bl.length:=by simp[LS.told,LS.began]
theorem zWg (S:LS) (i j:Nat) (hi:i<S.bl.length) (hi':i<(S.told i j hi).bl.length) (hbad:S.bl[i].bad=false) (hn:S.bl[i].next=(j:Int)) (L:List UInt8) :
 (S.told i j hi).bl.set i { (S.told i j hi).bl[i] with pages:=(S.told i j hi).bl[i].pages.set j L } = putL S i j false L:=by
 rw[tellL_at S i j hi hi']
 simp[LS.told,LS.began,putL,zDd,hi,hbad,hn]
theorem LMid.done {w a b:World} {i j c2:Nat} {A2:Option Addr} {L:List UInt8} {S:LS} (hi:i<S.bl.length) (h:LMid w a p q cap g C S.bl.length i j (S.told i j hi)) (hw:∀k,Own p q g C S.bl.length k->k<w.heap.size) (hn:NewB a b A2 L) (hc:L.length<=c2) (hl:L.length<=2000) (hbad:S.bl[i].bad=false) (hx:S.bl[i].next=(j:Int)) :
 ∃D,LAt (b.setCell ⟨g i,j,none⟩ (.slice A2 L.length c2)) p q cap g D { S.told i j hi with bl:=putL S i j false L } /\ (∀k,D k->C k\/(w.heap.size<=k/\k<(b.setCell ⟨g i,j,none⟩ (.slice A2 L.length c2)).heap.size))/\Turned (Own p q g C S.bl.length) w (b.setCell ⟨g i,j,none⟩ (.slice A2 L.length c2)):=by
 have hb:=h.below hn.2
 have hi':i<(S.told i j hi).bl.length:=by rw[zFe];exact hi
 have hs:=h.turned.size
 have:=hb.chip.page_set (D:=λk=>C k\/(a.heap.size<=k/\k<b.heap.size)) (j:=j) hi' hc hl (λ_ h=>.inl h) (λk hk=>by
  rcases hk with hk | ⟨h1,h2⟩
  . exact ⟨hb.chip.cp k hk,hb.chip.cl k hk⟩
  . refine ⟨⟨λe=>?_,λe=>?_,λm hm e=>?_⟩,h2⟩
    . have:=hw p (.inl rfl);omega
    . have:=hw q (.inr (.inl rfl));omega
    . rw[zFe] at hm
      have:=hw (g m) (.inr (.inr (.inl ⟨m,hm,rfl⟩)));omega) (hn.1.keep (λ_ _=>rfl) λ_ h=>.inr h)
 rw[zWg S i j hi hi' hbad hx L] at this
 refine ⟨_,this,λk hk=>?_,hb.turned.setCell (λ_=>.inr (.inr (.inl ⟨i,hi,rfl⟩))) _⟩
 rcases hk with hk | ⟨h1,h2⟩
 . exact .inl hk
 . exact .inr ⟨by omega,by simpa using h2⟩
theorem zDk {S:LS} {i j:Nat} {l:List UInt8} (hr:zCf S i j l.length=0) (hi:i<S.bl.length) :
 qU S i j l=if S.c.hit=true then (2,{ S.told i j hi with dark:=true,bl:=putL S i j false (l.take S.keep.toNat) })
  else if S.f.hit=true then (3,{ S.told i j hi with bl:=putL S i j true (l.take (l.length / 2)) }) else (0,{ S.told i j hi with bl:=putL S i j false l }):=by
 unfold qU
 rw[if_neg (by rw[hr];simp)]
 rfl
theorem zXf {S:LS} {b pg:Int} {n:Nat} (h:zCf S b pg n=0):∃i j:Nat,∃hi:i<S.bl.length,b=i/\pg=j/\j<S.np/\1<=n/\n<=2000/\S.dark=false/\S.bl[i].bad=false/\S.bl[i].next=(j:Int):=by
 unfold zCf at h
 split at h
 . cases h
 . next h1 =>
   split at h
   . next h2=>exact absurd h h2
   . next h2 =>
     split at h
     . cases h
     . next h3 =>
       have hh:zIo S b pg=true:=by
        cases e:zIo S b pg with
        | true=>rfl
        | false=>exact absurd (.inl e) h1
       have h4:zBj S b=0:=Classical.not_not.1 h2
       have h3':pg=(zDd S b).next:=Classical.not_not.1 h3
       obtain ⟨i,j,rfl,rfl,hi,hj⟩:=zCu hh
       rw[vi hi] at h3'
       unfold zBj at h4
       rw[zZq hh,if_neg (by simp),vi hi] at h4
       split at h4
       . cases h4
       . next h5 =>
         split at h4
         . cases h4
         . next h6=>exact ⟨i,j,hi,rfl,rfl,hj,by omega,by omega,by simpa using h5,by simpa using h6,h3'.symm⟩
theorem putL_bad {S:LS} {i j:Nat} (hi:i<S.bl.length) (L:List UInt8):(putL S i j false L).set i { (putL S i j false L)[i]'(by simpa[putL] using hi) with bad:=true } = putL S i j true L:=by
 simp[putL]
theorem LMid.facts {w a:World} {i j:Nat} {S:LS} (hi:i<S.bl.length) (hj:j<S.np) (h:LMid w a p q cap g C S.bl.length i j (S.told i j hi)) :
 a.cell? ⟨q,i * 4+3,none⟩=some (.slice (some ⟨g i,0,none⟩) S.np S.np)/\(∃v,a.cell? ⟨g i,j,none⟩=some v)/\a.frozen? ⟨g i,j,none⟩=false/\a.cell? ⟨w.heap.size,0,none⟩=some (.int .i64 i)/\a.cell? ⟨w.heap.size,1,none⟩=some (.int .i64 j)/\a.cell? ⟨p,12,none⟩=some (.int .i64 S.keep)/\a.frozen? ⟨p,5,none⟩=false/\a.frozen? ⟨q,i * 4,none⟩=false/\(∃v,a.cell? ⟨p,5,none⟩=some v)/\(∃v,a.cell? ⟨q,i * 4,none⟩=some v):=by
 have hi':i<(S.told i j hi).bl.length:=by rw[zFe];exact hi
 have hb:=h.chip.blocks i hi'
 obtain ⟨t,e⟩:=h.box
 obtain ⟨d0,d1,_,_⟩:=zEd e
 obtain ⟨c0,c1,c2,c3,c4,c5,c6,c7,c8,c9,c10,c11,c12⟩:=qw h.chip.self
 obtain ⟨cs,ct,hg⟩:=hb.plain
 obtain ⟨qs,qt,hq⟩:=h.chip.plain
 obtain ⟨A,c,hpg,_⟩:=hb.pages j (by rw[hb.len];exact hj)
 exact ⟨hb.row,⟨_,hpg⟩,qO hg j,d0,d1,c12,qO h.chip.self 5,qO hq _,⟨_,c5⟩,⟨_,hb.bad⟩⟩
end
end
section
open Go.RowKit
section
variable {p q cap:Nat} {g:Nat->Nat} {C E:Nat->Prop} {S:LS} {w:World}
theorem zMn (A:Option Addr) (c:Nat) (l:List UInt8) (b pg:Int) (h:LAt w p q cap g C S) (hr:zCf S b pg l.length≠0) :
 Calls Tryz.prog 119 #[.pointer (some ⟨p,0,none⟩),.agg #[.int .i64 b,.int .i64 pg],.slice A l.length c] w (yY p q cap g C S b pg l w):=by
 have e1:qU S b pg l=(zCf S b pg l.length,S):=by unfold qU;rw[if_pos hr]
 have hz:(zCf S b pg l.length != 0)=true:=by simpa using hr
 have H1:=hI e1
 clear e1 hr
 go_enter Tryz.func119,Tryz.ntmps119
 go_wp2_with (go_at_call 149;refine (zFo b pg A l.length c (h.alloc _)).mono ?_;rintro e w1 ⟨rfl,hb1⟩;rw[show zCf S b pg l.length=zCf S b pg l.length from rfl])
 all_goals go_ret
 all_goals
  unfold yY
  rw[H1.out]
  have hb:Below w.heap.size w w1:=(bR.alloc nL _).trans (hb1.mono (by simp))
  exact ⟨rfl,C,h.below hb,λ_ h=>.inl h,.of_below hb⟩
theorem half {l:List UInt8} (h2:l.length<=2000):∃m:Nat,IntKind.i64.wrap ((l.length:Int) / 2)=(m:Int)/\m=l.length / 2:=by
 have h:=Nat.div_le_self l.length 2
 refine ⟨l.length / 2,?_,rfl⟩
 rw[IntKind.wrap_i64]
 omega
theorem prog_go (A:Option Addr) (c:Nat) (l:List UInt8) (i j:Nat) (h:LAt w p q cap g C S) (hr:zCf S i j l.length=0) (hi:i<S.bl.length) (hj:j<S.np) (h1:1<=l.length) (h2:l.length<=2000) (hbad:S.bl[i].bad=false) (hn:S.bl[i].next=(j:Int))
 (hl:CB w E A l) (hE:∀k,E k->k<w.heap.size/\¬Own p q g C S.bl.length k) :
 Calls Tryz.prog 119 #[.pointer (some ⟨p,0,none⟩),.agg #[.int .i64 i,.int .i64 j],.slice A l.length c] w (yY p q cap g C S i j l w):=by
 have hne:=h.ne
 have hne':=h.ne.symm
 have hj32:j<32:=by have:=h.small;omega
 have hp:=h.lt p (.inl rfl)
 have hq:=h.lt q (.inr (.inl rfl))
 have HL:=hI hl
 have HE:=hI hE
 have HR0:=hI hr
 have H:=hI h
 have mk:∀w1:World,Below (w.alloc (.cells #[.int .i64 i,.int .i64 j] 69)).heap.size (w.alloc (.cells #[.int .i64 i,.int .i64 j] 69)) w1->∀a,LMid w (((w1.drewN a).setCell ⟨p,3,none⟩ (.int .i64 (wrap64 (S.pr+1)))).setCell ⟨q,i * 4+1,none⟩ (.int .i64 ((j:Int)+1))) p q cap g C S.bl.length i j (S.began i j hi):=λw1 hb a=>by
  have k1:LAt w1 p q cap g C S:=(h.alloc _).below hb
  have k2:LAt ((w1.drewN a).setCell ⟨p,3,none⟩ (.int .i64 (wrap64 (S.pr+1)))) p q cap g C { S with pr:=wrap64 (S.pr+1) } := (k1.drewN a).self_set rfl rfl rfl h.ints
  refine ⟨k2.row_set (m:=1) (b := { S.bl[i] with next:=(j:Int)+1 }) hi (by omega) rfl ⟨by show (0:Int)<=(j:Int)+1;omega,by show (j:Int)+1<=(S.np:Int);omega⟩ rfl rfl rfl,?_,69,?_⟩
  . exact (((Turned.of_below ((bR.alloc nL _).trans (hb.mono (by simp)))).drewN a).setCell (λ_=>.inl rfl) _).setCell (λ_=>.inr (.inl rfl)) _
  . exact ((Below.heap_setCell _ ⟨q,i * 4+1,none⟩ _ _ (λe=>by have:w.heap.size=q:=e;omega)).trans (Below.heap_setCell _ ⟨p,3,none⟩ _ _ (λe=>by have:w.heap.size=p:=e;omega))).trans (box2 (qS hb a))
 have MK:=hI mk
 clear mk h hl hE hr
 go_enter Tryz.func119,Tryz.ntmps119
 go_wp2_with (go_at_call 149;refine (zFo i j A l.length c (H.out.alloc _)).mono ?_;rintro e w1 ⟨rfl,hb1⟩;rw[HR0.out];obtain ⟨c0,_,_,c3,_,_,_,_,_,_,_,_,_⟩:=qw ((H.out.alloc _).below hb1).self;have r1:=(((H.out.alloc _).below hb1).blocks i hi).next;rw[hn] at r1;obtain ⟨d0,d1,_,_⟩:=zEd (box2 hb1);have f3:=qO ((H.out.alloc _).below hb1).self 3;obtain ⟨qcs,qt,hqp⟩:=((H.out.alloc _).below hb1).plain;have fq:=qO hqp (i * 4+1);have HB1:=hI hb1;clear hqp hb1)
 go_quiet (fail)
 have M1:=hI (MK.out _ HB1.out nq)
 go_wp2_with fail
 obtain ⟨wm,hwm,M4⟩:=M1.out.name
 rw[<- hwm]
 have M0:=hI M4
 clear M1 M4 hwm
 clear c0 c3 r1 d0 d1 f3 fq
 go_cut [9,10] from 41 to 48 (λx y wx=>x=.bool S.f.hit/\y=.bool S.c.hit/\LMid w wx p q cap g C S.bl.length i j (S.told i j hi))
 case first=>as_aux_lemma =>
  go_region_with (first
   | (go_at_call 150;(with_reducible refine (zKg M0.out.drew.chip).mono ?_);rintro e wc ⟨rfl,hc,ht⟩;have Mc:=hI (M0.out.drew.step hp hc ht);clear hc ht)
   | (go_at_call 150;(with_reducible refine (yAm M0.out.drew.chip).mono ?_);rintro e wf ⟨rfl,hc,ht⟩;have Mf:=hI (M0.out.drew.step hp hc ht);clear hc ht)
   | (go_at_call 150;(with_reducible refine (yAm Mc.out.chip).mono ?_);rintro e wz ⟨rfl,hc,ht⟩;have Mz:=hI (Mc.out.step hp hc ht);clear hc ht)
   | (go_at_call 150;(with_reducible refine (zKg Mf.out.chip).mono ?_);rintro e wz ⟨rfl,hc,ht⟩;have Mz:=hI (Mf.out.step hp hc ht);clear hc ht))
  all_goals
   go_wp2_with fail
   go_meet
   case rel=>exact ⟨rfl,rfl,Mz.out⟩
 case rest =>
  obtain ⟨rfl,rfl,hm⟩:=hcut
  obtain ⟨w5,rfl⟩:∃w5:World,w5=wc:=⟨_,rfl⟩
  have HM:=hI hm
  obtain ⟨ad,rfl,_,_⟩:=HL.out (by omega)
  have hrl:RB w5 w.heap.size (some ad) l:=(HL.out.keep (λb hb=>hm.turned.block b (HE.out b hb).1 (HE.out b hb).2) (λ_ h=>h)).rb (λb hb=>(HE.out b hb).1)
  have HR:=hI hrl.drew
  have HS:=hI (show w.heap.size<=w5.drew.heap.size from hm.turned.size)
  obtain ⟨r3,⟨vp,cp⟩,fp,d0,d1,c12,f5,fq,⟨v5,c5⟩,⟨vq,cq⟩⟩:=hm.facts hi hj
  clear hm hrl HB1 MK
  cases hcu:S.c.hit with
  | false =>
   cases hfa:S.f.hit with
   | false =>
    have E1:=hI (zDk HR0.out hi)
    rw[hcu,hfa,if_neg (by simp),if_neg (by simp)] at E1
    go_wp2_with fail
    go_region_with (go_at_call 86;(with_reducible refine (zCo (some ad) c l l.length w5.drew w.heap.size HR.out HS.out (Nat.le_trans h2 (by decide)) _ rfl).mono ?_);rintro e w6 ⟨A2,L,rfl,hL,hn6⟩;obtain ⟨r3',⟨vp',cp'⟩,fp',d0',d1',c12',f5',fq',⟨v5',c5'⟩,⟨vq',cq'⟩⟩:=(HM.out.drew.below hn6.2).facts hi hj;have HN:=hI hn6;clear hn6)
    all_goals
     go_wp2_with fail
     go_ret
     obtain rfl:L=l:=hL.out.trans (List.take_of_length_le nL)
     obtain ⟨D,hD1,hD2,hD3⟩:=LMid.done hi HM.out.drew H.out.lt HN.out nL h2 hbad hn
     unfold yY
     rw[E1.out]
     exact ⟨rfl,D,hD1,hD2,hD3⟩
   | true =>
    have E1:=hI (zDk HR0.out hi)
    rw[hcu,hfa,if_neg (by simp),if_pos rfl] at E1
    obtain ⟨m,hq2,hm2⟩:=half h2
    have HM2:=hI hm2
    clear hm2
    have hgq:=(H.out.gp i hi).2
    have hgq':=(H.out.gp i hi).2.symm
    go_wp2_with fail
    go_region_with (go_at_call 86;(with_reducible refine (zCo (some ad) c l m w5.drew w.heap.size HR.out HS.out (Nat.le_trans h2 (by decide)) _ rfl).mono ?_);rintro e w6 ⟨A2,L,rfl,hL,hn6⟩;obtain ⟨r3',⟨vp',cp'⟩,fp',d0',d1',c12',f5',fq',⟨v5',c5'⟩,⟨vq',cq'⟩⟩:=(HM.out.drew.below hn6.2).facts hi hj;have HN:=hI hn6;clear hn6)
    all_goals
     go_wp2_with fail
     go_ret
     have hLl:L.length<=2000:=by rw[hL.out,List.length_take];omega
     obtain ⟨D,hD1,hD2,hD3⟩:=LMid.done hi HM.out.drew H.out.lt HN.out nL hLl hbad hn
     have hi2:i<(putL S i j false L).length:=by simpa[putL] using hi
     have hD4:=hD1.row_set (m:=0) (b := { (putL S i j false L)[i] with bad:=true }) hi2 (by omega) rfl (hD1.blocks i hi2).nextIn rfl rfl rfl
     rw[show ({ S.told i j hi with bl:=putL S i j false L } : LS).bl.set i { (putL S i j false L)[i] with bad:=true } = putL S i j true L from putL_bad hi L] at hD4
     unfold yY
     rw[E1.out,<- HM2.out,<- hL.out]
     exact ⟨rfl,D,hD4,λk hk=>(hD2 k hk).imp id λh=>⟨h.1,by simpa using h.2⟩,hD3.setCell (λ_=>.inr (.inl rfl)) _⟩
  | true =>
   have E1:=hI (zDk HR0.out hi)
   rw[hcu,if_pos rfl] at E1
   obtain ⟨k,hk⟩:∃k:Nat,S.keep=(k:Int):=⟨S.keep.toNat,by have:=H.out.ints;omega⟩
   have HK:=hI (show S.keep.toNat=k by omega)
   rw[hk] at c12
   have hgp:=(H.out.gp i hi).1
   have hgp':=(H.out.gp i hi).1.symm
   clear hk
   go_wp2_with fail
   go_region_with (go_at_call 86;(with_reducible refine (zCo (some ad) c l k w5.drew w.heap.size HR.out HS.out (Nat.le_trans h2 (by decide)) _ rfl).mono ?_);rintro e w6 ⟨A2,L,rfl,hL,hn6⟩;obtain ⟨r3',⟨vp',cp'⟩,fp',d0',d1',c12',f5',fq',⟨v5',c5'⟩,⟨vq',cq'⟩⟩:=(HM.out.drew.below hn6.2).facts hi hj;have HN:=hI hn6;clear hn6)
   all_goals
    go_wp2_with fail
    go_ret
    have hLl:L.length<=2000:=by rw[hL.out,List.length_take];omega
    obtain ⟨D,hD1,hD2,hD3⟩:=LMid.done hi HM.out.drew H.out.lt HN.out nL hLl hbad hn
    have hD4:=hD1.self_set (S' := { S.told i j hi with bl:=putL S i j false L,dark:=true }) (j:=5) (u:=.bool true) rfl rfl rfl hD1.ints
    unfold yY
    rw[E1.out,HK.out,<- hL.out]
    exact ⟨rfl,D,hD4,λk hk=>(hD2 k hk).imp id λh=>⟨h.1,by simpa using h.2⟩,hD3.setCell (λ_=>.inl rfl) _⟩
theorem prog_any (A:Option Addr) (c:Nat) (l:List UInt8) (b pg:Int) (h:LAt w p q cap g C S) (hl:CB w E A l) (hE:∀k,E k->k<w.heap.size/\¬Own p q g C S.bl.length k) :
 Calls Tryz.prog 119 #[.pointer (some ⟨p,0,none⟩),.agg #[.int .i64 b,.int .i64 pg],.slice A l.length c] w (yY p q cap g C S b pg l w):=by
 by_cases hr:zCf S b pg l.length=0
 . obtain ⟨i,j,hi,rfl,rfl,hj,h1,h2,hd,hbad,hn⟩:=zXf hr
   exact prog_go A c l i j h hr hi hj h1 h2 hbad hn hl hE
 . exact zMn A c l b pg h hr
end
end
end Go.Proofs.YtinkkmlbhkfmnaaGreat
