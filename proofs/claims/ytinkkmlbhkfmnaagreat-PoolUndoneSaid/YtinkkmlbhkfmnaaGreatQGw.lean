/- A part of what the last text proves: Gw. -/
import Derived.Maps.OwnSet
import Derived.Maps.RangeWalk
import Derived.Sort.KeysCollected
import Derived.Carry
import Derived.Maps.OwnIn
import Derived.Test.YtinkkmlbhkfmnaaGreatQGc
import Derived.Test.YtinkkmlbhkfmnaaGreatQGp
set_option maxRecDepth 100000
set_option maxHeartbeats 8000000
namespace Go.Proofs.YtinkkmlbhkfmnaaGreat
section
def zSt (o:Option (Int × Int)) (p:Int × Bool):Option (Int × Int) :=
 if p.2=true then some (match o with | none=>(p.1,p.1) | some q=>(min q.1 p.1,max q.2 p.1)) else o
def zKb (zs:List (Int × Bool)):Option (Int × Int):=zs.foldl zSt none
theorem zUz (zs:List (Int × Bool)) (p:Int × Bool):zKb (zs++[p])=zSt (zKb zs) p:=by simp[zKb]
def loP (zs:List (Int × Bool)):Int:=((zKb zs).map (·.1)).getD 0
def hiP (zs:List (Int × Bool)):Int:=((zKb zs).map (·.2)).getD 0
def EndsOf (zs:List (Int × Bool)) (lo hi:Int):Prop:=(lo,true)∈zs/\(hi,true)∈zs/\∀x,(x,true)∈zs->lo<=x/\x<=hi
theorem EndsOf.uniq {zs:List (Int × Bool)} {lo hi lo' hi':Int} (h:EndsOf zs lo hi) (h':EndsOf zs lo' hi'):lo=lo'/\hi=hi':=by
 have h1:=h.2.2 lo' h'.1
 have h2:=h'.2.2 lo h.1
 have h3:=h.2.2 hi' h'.2.1
 have h4:=h'.2.2 hi h.2.1
 omega
theorem zAn (zs:List (Int × Bool)):((∀x,(x,true)∉zs)/\zKb zs=none)\/∃lo hi,zKb zs=some (lo,hi)/\EndsOf zs lo hi:=by
 suffices h:∀zs:List (Int × Bool),((∀x,(x,true)∉zs.reverse)/\zKb zs.reverse=none)\/∃lo hi,zKb zs.reverse=some (lo,hi)/\EndsOf zs.reverse lo hi by
  have:=h zs.reverse
  rwa [List.reverse_reverse] at this
 intro zs
 induction zs with
 | nil=>exact .inl ⟨by simp,rfl⟩
 | cons p r ih =>
  obtain ⟨n,b⟩:=p
  rw[List.reverse_cons,zUz]
  cases b with
  | false =>
   rcases ih with ⟨h1,h2⟩ | ⟨lo,hi,h1,h2,h3,h4⟩
   . exact .inl ⟨λx hx=>by simp at hx;exact h1 x (by simpa using hx),by rw[h2];rfl⟩
   . exact .inr ⟨lo,hi,by rw[h1];rfl,by simpa using h2,by simpa using h3,λx hx=>h4 x (by simpa using hx)⟩
  | true =>
   rcases ih with ⟨h1,h2⟩ | ⟨lo,hi,h1,h2,h3,h4⟩
   . refine .inr ⟨n,n,by rw[h2];rfl,by simp,by simp,λx hx=>?_⟩
     rcases List.mem_append.1 hx with hx | hx
     . exact absurd hx (h1 x)
     . simp at hx;omega
   . refine .inr ⟨min lo n,max hi n,by rw[h1];rfl,?_,?_,λx hx=>?_⟩
     . rcases Int.le_total lo n with h | h
       . rw[Int.min_eq_left h];exact List.mem_append.2 (.inl h2)
       . rw[Int.min_eq_right h];simp
     . rcases Int.le_total hi n with h | h
       . rw[Int.max_eq_right h];simp
       . rw[Int.max_eq_left h];exact List.mem_append.2 (.inl h3)
     . rcases List.mem_append.1 hx with hx | hx
       . have:=h4 x hx;omega
       . simp at hx;omega
theorem zQm {zs:List (Int × Bool)} {lo hi:Int} (h:EndsOf zs lo hi):loP zs=lo/\hiP zs=hi:=by
 unfold loP hiP
 rcases zAn zs with ⟨h1,h2⟩ | ⟨lo',hi',h1,h2⟩
 . exact absurd h.1 (h1 lo)
 . rw[h1];exact h2.uniq h
theorem zAm {zs:List (Int × Bool)} (h:∀x,(x,true)∉zs):loP zs=0/\hiP zs=0:=by
 unfold loP hiP
 rcases zAn zs with ⟨h1,h2⟩ | ⟨lo',hi',h1,h2⟩
 . rw[h2];exact ⟨rfl,rfl⟩
 . exact absurd h2.1 (h lo')
theorem yU {zs:List (Int × Bool)} {x:Int} (h:(x,true)∈zs):EndsOf zs (loP zs) (hiP zs):=by
 rcases zAn zs with ⟨h1,h2⟩ | ⟨lo',hi',h1,h2⟩
 . exact absurd h (h1 x)
 . have:=zQm h2
   rw[this.1,this.2];exact h2
theorem lo_le_hi (zs:List (Int × Bool)):loP zs<=hiP zs:=by
 rcases zAn zs with ⟨h1,h2⟩ | ⟨lo',hi',h1,h2⟩
 . have:=zAm h1;omega
 . have:=zQm h2
   have:=h2.2.2 _ h2.1
   omega
def vk (zs:List (Int × Bool)):Int:=if hiP zs - loP zs<=9223372036854775807 then hiP zs - loP zs else 9223372036854775807
def yy (n:Int):Nat->List (Int × Bool)->Int
 | _,[] => -1
 | k,p::r=>if p.2=true/\p.1=n then (k:Int) else yy n (k+1) r
def zDh (zs:List (Int × Bool)) (n:Int):Int:=yy n 0 zs
theorem zJg (n:Int) (zs:List (Int × Bool)) (k:Nat):(yy n k zs = -1/\(n,true)∉zs)\/∃i,∃h:i<zs.length,yy n k zs=((k+i:Nat):Int)/\zs[i]=(n,true)/\∀j (hj:j<i),zs[j]'(Nat.lt_trans hj h)≠(n,true):=by
 induction zs generalizing k with
 | nil=>exact .inl ⟨rfl,by simp⟩
 | cons p r ih =>
  obtain ⟨x,b⟩:=p
  unfold yy
  by_cases hp:b=true/\x=n
  . rw[if_pos hp]
    obtain ⟨rfl,rfl⟩:=hp
    exact .inr ⟨0,by simp,by simp,rfl,λj hj=>absurd hj (by omega)⟩
  . rw[if_neg hp]
    have hne:(x,b)≠(n,true):=λe=>hp ⟨congrArg Prod.snd e,congrArg Prod.fst e⟩
    rcases ih (k+1) with ⟨h1,h2⟩ | ⟨i,hi,h1,h2,h3⟩
    . refine .inl ⟨h1,λh=>?_⟩
      rcases List.mem_cons.1 h with h | h
      . exact hne h.symm
      . exact h2 h
    . refine .inr ⟨i+1,by simp;omega,by rw[h1];omega,by simpa using h2,λj hj=>?_⟩
      cases j with
      | zero=>exact hne
      | succ j=>simpa using h3 j (by omega)
theorem zMe (zs:List (Int × Bool)) (n:Int):(zDh zs n = -1/\(n,true)∉zs)\/∃i,∃h:i<zs.length,zDh zs n=(i:Int)/\zs[i]=(n,true)/\∀j (hj:j<i),zs[j]'(Nat.lt_trans hj h)≠(n,true):=by
 have:=zJg n zs 0
 simpa[zDh] using this
def zCb (zs:List (Int × Bool)):Int:=zDh zs (loP zs)
def hotP (zs:List (Int × Bool)):Int:=zDh zs (hiP zs)
def dueP (zs:List (Int × Bool)) (most:Int):Int:=if vk zs<=most then -1 else zCb zs
theorem yAn {zs:List (Int × Bool)} (h:∀x,(x,true)∉zs):zCb zs = -1:=by
 rcases zMe zs (loP zs) with ⟨h1,_⟩ | ⟨i,hi,_,h2,_⟩
 . exact h1
 . exact absurd (h2 ▸ List.getElem_mem hi) (h _)
end
section
end
section
open Go.RowKit
def Arr {α : Type} (enc : α -> Value) (w:World) (A:Option Addr) (l:List α):Prop :=
 0<l.length->∃B o,A=some ⟨B,o,none⟩/\B<w.heap.size/\∀j (h:j<l.length),w.cell? ⟨B,o+j,none⟩=some (enc l[j])
theorem Arr.below {α : Type} {enc : α -> Value} {w w':World} {A:Option Addr} {l:List α} (h:Arr enc w A l) (hb:Below w.heap.size w w'):Arr enc w' A l:=λhn=>by
 obtain ⟨B,o,e,hB,hc⟩:=h hn
 exact ⟨B,o,e,Nat.lt_of_lt_of_le hB hb.size,λj hj=>(hb.cell (p:=⟨B,o+j,none⟩) hB).trans (hc j hj)⟩
abbrev IA:=Arr (Value.int .i64)
abbrev BA:=Arr Value.bool
theorem take_zip {l:List Int} {b:List Bool} {j:Nat} (h1:j<l.length) (h2:j<b.length):(l.zip b).take (j+1)=(l.zip b).take j++[(l[j],b[j])]:=by
 rw[List.take_succ_eq_append_getElem (by simp;omega)]
 simp
theorem zIq (l:List Int) (b:List Bool) (hw:∀x∈l,(Lit.int .i64 x).wf=true):(-9223372036854775808<=loP (l.zip b)/\loP (l.zip b)<=9223372036854775807) /\ -9223372036854775808<=hiP (l.zip b)/\hiP (l.zip b)<=9223372036854775807:=by
 rcases zAn (l.zip b) with ⟨h1,_⟩ | ⟨lo,hi,_,h2⟩
 . have:=zAm h1
   rw[this.1,this.2];decide
 . have e:=zQm h2
   rw[e.1,e.2]
   exact ⟨zOu (hw lo (List.of_mem_zip h2.1).1),zOu (hw hi (List.of_mem_zip h2.2.1).1)⟩
section
variable (A A':Option Addr) (c c':Nat) (l:List Int) (b:List Bool) (w:World) (hl:l.length<=1000000) (hb:b.length<=1000000) (hA:IA w A l) (hA':BA w A' b)
include hl hb hA hA'
end
end
section
open Go.RowKit
theorem zSe:(Tryz.prog.info? 3).map (λi=>(i.zero,i.size,i.bytes))=some (some (.int .i64 0),1,8):=by kernel_rfl
theorem zYt (n:Nat):madeCells #[Value.int .i64 0] n=((List.replicate n (0:Int)).map (Value.int .i64)).toArray:=by
 apply Array.ext
 . simp[madeCells]
 . intro i h1 h2
   simp[madeCells,Nat.mod_one]
theorem zYs (n:Nat) (h:n<=1000000) (w:World):(Instr.makeSlice 24 (.int .i64 n) (.int .i64 n)).run Tryz.prog w=.ok (.slice (some ⟨w.heap.size,0,none⟩) n n) (w.alloc (.cells (madeCells #[Value.int .i64 0] n) 3)) :=
 run_make_row' 24 3 (.int .i64 0) 8 Tryz.underlying24 zSe rfl .i64 .i64 n (by omega) (by omega) w
theorem zRf {w:World} {g:Nat} {l:List Int} {t:TypeId} (h:w.heap[g]? = some (.cells (l.map (Value.int .i64)).toArray t (0,0))) (k:Nat) (hk:k<l.length):w.cell? ⟨g,k,none⟩=some (.int .i64 l[k]):=by
 simp[World.cell?,h,hk]
theorem row_set {w:World} {g:Nat} {l:List Int} {t:TypeId} (h:w.heap[g]? = some (.cells (l.map (Value.int .i64)).toArray t (0,0))) (k:Nat) (v:Int):(w.setCell ⟨g,k,none⟩ (.int .i64 v)).heap[g]? = some (.cells ((l.set k v).map (Value.int .i64)).toArray t (0,0)):=by
 rw[heap_setCell_same w g k _ t _ h]
 simp[List.map_set]
theorem yq {w:World} {p:Nat} {cs:Array Value} {t:TypeId} (h:w.heap[p]? = some (.cells cs t (0,0))) (j:Nat):w.frozen? ⟨p,j,none⟩=false:=by
 simp[World.frozen?,h]
theorem zWz {w:World} {g:Nat} {l:List Int} {t:TypeId} (h:w.heap[g]? = some (.cells (l.map (Value.int .i64)).toArray t (0,0))):IA w (some ⟨g,0,none⟩) l:=λ_ =>
 ⟨g,0,rfl,(Array.getElem?_eq_some_iff.1 h).1,λj hj=>by rw[Nat.zero_add];exact zRf h j hj⟩
end
section
open Go.RowKit Go.Maps
theorem zZa (x:Int) (w:World):Calls Tryz.prog 138 #[.int .i64 x] w λe w'=>e=.returned (.bool false)/\w=w':=by
 go_enter Tryz.func138,Tryz.ntmps138
 go_wp2
 go_ret
 exact ⟨rfl,rfl⟩
theorem zEq (x y:Int) (w:World):Calls Tryz.prog 158 #[.int .i64 x,.int .i64 y] w λe w'=>e=.returned (.bool (decide (x<y)))/\w=w':=by
 go_enter Tryz.func158,Tryz.ntmps158
 go_wp2_with (first | (go_at_call 138;refine (zZa _ _).mono ?_;rintro e w' ⟨rfl,rfl⟩) | fail)
 go_ret
 exact ⟨rfl,rfl⟩
def RowL {α : Type} (enc : α -> Value) (w:World) (sv:Value) (zs:List α):Prop :=
 (sv=.slice none 0 0/\zs = [])\/∃ad cap,sv=.slice (some ad) zs.length cap/\∀j (h:j<zs.length),w.cell? (ad.add j)=some (enc zs[j])
def zVr {α : Type} (bt : α -> α -> Bool) (zs:List α) (r:Int):Prop :=
 (zs = []/\r = -1)\/∃a,∃h:a<zs.length,r=(a:Int)/\(∀i (hi:i<zs.length),bt zs[i] zs[a]=false)/\∀i (hi:i<a),bt zs[a] zs[i]=true
structure Ord {α : Type} (bt : α -> α -> Bool):Prop where
 irr:∀x,bt x x=false
 tr:∀x c i,bt x c=true->bt i c=false->bt x i=true
 asym:∀x i,bt x i=true->bt i x=false
theorem zBg {α : Type} (bt : α -> α -> Bool):zVr bt [] (-1):=.inl ⟨rfl,rfl⟩
def zDc {α : Type} (bt : α -> α -> Bool) (zs:List α) (a:Nat):Prop :=
 ∃h:a<zs.length,(∀i (hi:i<zs.length),bt zs[i] zs[a]=false)/\∀i (hi:i<a),bt zs[a] zs[i]=true
theorem zAt {α : Type} {bt : α -> α -> Bool} (O:Ord bt) (x : α):zDc bt [x] 0 :=
 ⟨by simp,λi hi=>by
  obtain rfl:i=0:=by simpa using hi
  exact O.irr _,λi hi=>by omega⟩
theorem zCc {α : Type} {bt : α -> α -> Bool} (O:Ord bt) {zs:List α} {a:Nat} (ha:a<zs.length) (h:zDc bt zs a) (x : α) (hx:bt x zs[a]=true):zDc bt (zs++[x]) zs.length:=by
 obtain ⟨_,h1,h2⟩:=h
 have key:∀i (hi:i<zs.length),bt x zs[i]=true:=λi hi=>O.tr _ _ _ hx (h1 i hi)
 refine ⟨by simp,λi hi=>?_,λi hi=>?_⟩
 . by_cases e:i<zs.length
   . rw[List.getElem_append_left e]
     simpa using O.asym _ _ (key i e)
   . obtain rfl:i=zs.length:=by simp at hi;omega
     exact O.irr _
 . rw[List.getElem_append_left hi]
   simpa using key i hi
theorem zCd {α : Type} {bt : α -> α -> Bool} {zs:List α} {a:Nat} (ha:a<zs.length) (h:zDc bt zs a) (x : α) (hx:bt x zs[a]=false):zDc bt (zs++[x]) a:=by
 obtain ⟨_,h1,h2⟩:=h
 refine ⟨by simp;omega,λi hi=>?_,λi hi=>?_⟩
 . rw[List.getElem_append_left ha]
   by_cases e:i<zs.length
   . rw[List.getElem_append_left e];exact h1 i e
   . obtain rfl:i=zs.length:=by simp at hi;omega
     simpa using hx
 . rw[List.getElem_append_left ha,List.getElem_append_left (by omega)];exact h2 i hi
theorem zQv {α : Type} {bt : α -> α -> Bool} {zs:List α} {a:Nat} (h:zDc bt zs a):zVr bt zs a:=by
 obtain ⟨h,h1,h2⟩:=h
 exact .inr ⟨a,h,rfl,h1,h2⟩
theorem zKy {α : Type} (zs:List α) (k:Nat) (h:k<zs.length):zs.take (k+1)=zs.take k++[zs[k]]:=by
 rw[List.take_succ_eq_append_getElem h]
def zFw (x y:Int):Bool:=decide (x<y)
def zFy (x y:Int):Bool:=decide (y<x)
theorem ord_ltInt:Ord zFw:=⟨λx=>by simp[zFw],λx c i=>by simp[zFw];omega,λx i=>by simp[zFw];omega⟩
theorem ord_gtInt:Ord zFy:=⟨λx=>by simp[zFy],λx c i=>by simp[zFy];omega,λx i=>by simp[zFy];omega⟩
def zTi {α : Type} (bt : α -> α -> Bool) (zs:List α) (w:World) (e:Ending) (w':World):Prop:=∃r,e=.returned (.int .i64 r)/\zVr bt zs r/\w=w'
theorem zPy (sv:Value) (zs:List Int) (w:World) (h:RowL (Value.int .i64) w sv zs) (hl:zs.length<=9223372036854775807) :
 Calls Tryz.prog 141 #[sv] w (zTi zFw zs w):=by
 rcases h with ⟨rfl,rfl⟩ | ⟨ad,cap,rfl,hc⟩
 . go_enter Tryz.func141,Tryz.ntmps141
   go_wp2
   refine wp_loop_rounds 1 ?_
   rw[rounds_succ]
   go_wp2
   go_ret
   exact ⟨-1,rfl,zBg _,rfl⟩
 . go_enter Tryz.func141,Tryz.ntmps141
   go_wp2
   go_loop [3,8] (λt i=>∃k:Nat,k<=zs.length/\i=.int .i64 k/\((k=0/\t=.int .i64 (-1))\/∃a:Nat,a<k/\t=.int .i64 a/\zDc zFw (zs.take k) a)) (λ_ i=>zs.length - (intOf i).toNat)
   case atStart=>exact ⟨0,Nat.zero_le _,rfl,.inl ⟨rfl,rfl⟩⟩
   case round =>
    obtain ⟨k,hk,rfl,hrel⟩:=hrel
    by_cases hlt:k<zs.length
    . have hcell:=hc k hlt
      have ht:=hI (zKy zs k hlt)
      have htl:=hI (show (zs.take k).length=k by simp;omega)
      rcases hrel with ⟨hk0,rfl⟩ | ⟨a,ha,rfl,hb⟩
      . obtain rfl:=hk0
        have hcell0:w.cell? ad=some ((Value.int .i64) zs[0]):=by simpa[Addr.add] using hc 0 hlt
        clear hk hcell
        go_wp2
        go_round
        case rel=>exact ⟨1,by omega,rfl,.inr ⟨0,by omega,rfl,by rw[ht.out];exact zAt ord_ltInt _⟩⟩
        case measure=>simp[intOf];omega
      . have hcell2:=hc a (by omega)
        have h0:decide ((a:Int)<0)=false:=by simp
        have hal:a<(zs.take k).length:=by rw[htl.out];exact ha
        have hga:zs[a]=(zs.take k)[a]:=by simp
        have Hga:=hI hga
        clear hga
        cases hbt:zFw zs[k] zs[a] with
        | true =>
         have Hbt:=hI hbt
         clear hbt
         go_wp2_with (first | (go_at_call 158;refine (zEq _ _ _).mono ?_;rintro e w' ⟨rfl,rfl⟩;have hd:decide (zs[k]<zs[a])=true:=Hbt.out) | fail)
         go_round
         case rel=>exact ⟨k+1,by omega,by go_num,.inr ⟨k,by omega,rfl,by
          have:=zCc ord_ltInt hal hb zs[k] (by rw[<- Hga.out];exact Hbt.out)
          rw[ht.out];rw[htl.out] at this;exact this⟩⟩
         case measure=>simp[intOf];omega
        | false =>
         have Hbt:=hI hbt
         clear hbt
         go_wp2_with (first | (go_at_call 158;refine (zEq _ _ _).mono ?_;rintro e w' ⟨rfl,rfl⟩;have hd:decide (zs[k]<zs[a])=false:=Hbt.out) | fail)
         go_round
         case rel=>exact ⟨k+1,by omega,by go_num,.inr ⟨a,by omega,rfl,by
          rw[ht.out];exact zCd hal hb zs[k] (by rw[<- Hga.out];exact Hbt.out)⟩⟩
         case measure=>simp[intOf];omega
    . have hz:=hI (show zs.take k=zs by rw[List.take_of_length_le (by omega)])
      rcases hrel with ⟨hk0,rfl⟩ | ⟨a,ha,rfl,hb⟩
      . have hnil:=hI (show zs = [] from List.eq_nil_of_length_eq_zero (by omega))
        clear hk0
        go_wp2
        go_ret
        exact ⟨-1,rfl,by rw[hnil.out];exact zBg _,rfl⟩
      . go_wp2
        go_ret
        exact ⟨a,rfl,zQv (by rw[<- hz.out];exact hb),rfl⟩
theorem zNs (sv:Value) (zs:List Int) (w:World) (h:RowL (Value.int .i64) w sv zs) (hl:zs.length<=9223372036854775807) :
 Calls Tryz.prog 142 #[sv] w (zTi zFy zs w):=by
 rcases h with ⟨rfl,rfl⟩ | ⟨ad,cap,rfl,hc⟩
 . go_enter Tryz.func142,Tryz.ntmps142
   go_wp2
   refine wp_loop_rounds 1 ?_
   rw[rounds_succ]
   go_wp2
   go_ret
   exact ⟨-1,rfl,zBg _,rfl⟩
 . go_enter Tryz.func142,Tryz.ntmps142
   go_wp2
   go_loop [3,8] (λt i=>∃k:Nat,k<=zs.length/\i=.int .i64 k/\((k=0/\t=.int .i64 (-1))\/∃a:Nat,a<k/\t=.int .i64 a/\zDc zFy (zs.take k) a)) (λ_ i=>zs.length - (intOf i).toNat)
   case atStart=>exact ⟨0,Nat.zero_le _,rfl,.inl ⟨rfl,rfl⟩⟩
   case round =>
    obtain ⟨k,hk,rfl,hrel⟩:=hrel
    by_cases hlt:k<zs.length
    . have hcell:=hc k hlt
      have ht:=hI (zKy zs k hlt)
      have htl:=hI (show (zs.take k).length=k by simp;omega)
      rcases hrel with ⟨hk0,rfl⟩ | ⟨a,ha,rfl,hb⟩
      . obtain rfl:=hk0
        have hcell0:w.cell? ad=some ((Value.int .i64) zs[0]):=by simpa[Addr.add] using hc 0 hlt
        clear hk hcell
        go_wp2
        go_round
        case rel=>exact ⟨1,by omega,rfl,.inr ⟨0,by omega,rfl,by rw[ht.out];exact zAt ord_gtInt _⟩⟩
        case measure=>simp[intOf];omega
      . have hcell2:=hc a (by omega)
        have h0:decide ((a:Int)<0)=false:=by simp
        have hal:a<(zs.take k).length:=by rw[htl.out];exact ha
        have hga:zs[a]=(zs.take k)[a]:=by simp
        have Hga:=hI hga
        clear hga
        cases hbt:zFy zs[k] zs[a] with
        | true =>
         have Hbt:=hI hbt
         clear hbt
         go_wp2_with (first | (go_at_call 158;refine (zEq _ _ _).mono ?_;rintro e w' ⟨rfl,rfl⟩;have hd:decide (zs[a]<zs[k])=true:=Hbt.out) | fail)
         go_round
         case rel=>exact ⟨k+1,by omega,by go_num,.inr ⟨k,by omega,rfl,by
          have:=zCc ord_gtInt hal hb zs[k] (by rw[<- Hga.out];exact Hbt.out)
          rw[ht.out];rw[htl.out] at this;exact this⟩⟩
         case measure=>simp[intOf];omega
        | false =>
         have Hbt:=hI hbt
         clear hbt
         go_wp2_with (first | (go_at_call 158;refine (zEq _ _ _).mono ?_;rintro e w' ⟨rfl,rfl⟩;have hd:decide (zs[a]<zs[k])=false:=Hbt.out) | fail)
         go_round
         case rel=>exact ⟨k+1,by omega,by go_num,.inr ⟨a,by omega,rfl,by
          rw[ht.out];exact zCd hal hb zs[k] (by rw[<- Hga.out];exact Hbt.out)⟩⟩
         case measure=>simp[intOf];omega
    . have hz:=hI (show zs.take k=zs by rw[List.take_of_length_le (by omega)])
      rcases hrel with ⟨hk0,rfl⟩ | ⟨a,ha,rfl,hb⟩
      . have hnil:=hI (show zs = [] from List.eq_nil_of_length_eq_zero (by omega))
        clear hk0
        go_wp2
        go_ret
        exact ⟨-1,rfl,by rw[hnil.out];exact zBg _,rfl⟩
      . go_wp2
        go_ret
        exact ⟨a,rfl,zQv (by rw[<- hz.out];exact hb),rfl⟩
def upd {α : Type} [DecidableEq α] (f : α -> Int) (k : α) (v:Int) : α -> Int:=λj=>if j=k then v else f j
end
section
open Go.RowKit Go.Shelf
attribute [local go_sem] Oper.semAt_some
theorem zA (f:Fn) (a b:Array Value) (w:World):Sem.run Tryz.prog (binOp BinOp.eql 129 (.func f a b) .nilFunc) w=.ok (.bool false) w:=by kernel_rfl
abbrev encFw {N:Nat} (x:Fin N):Array Value:=#[Value.int .i64 (x.val:Int)]
def qr (bs:List Bool) (k:Nat):List (Fin bs.length):=((List.finRange bs.length).take k).filter λi=>bs[i.val]?.getD false
theorem whereTo_zero (bs:List Bool):qr bs 0=[]:=rfl
theorem zBr {bs:List Bool} {k:Nat} (hk:k<bs.length) (h:bs[k]?.getD false=true):qr bs (k+1)=qr bs k++[⟨k,hk⟩]:=by
 have h':bs[k]=true:=by simpa[List.getElem?_eq_getElem hk] using h
 unfold qr
 rw[yc hk,List.filter_append]
 simp[h']
theorem zEg {bs:List Bool} {k:Nat} (hk:k<bs.length) (h:bs[k]?.getD false=false):qr bs (k+1)=qr bs k:=by
 have h':bs[k]=false:=by simpa[List.getElem?_eq_getElem hk] using h
 unfold qr
 rw[yc hk,List.filter_append]
 simp[h']
theorem zBk (bs:List Bool) {j k:Nat} (h:j<=k):qr bs j <+: qr bs k:=by
 unfold qr
 exact List.IsPrefix.filter _ (List.take_prefix_take_left h)
theorem zTo (bs:List Bool) {j k:Nat} (hj:j<bs.length) (h:j<k) (hb:bs[j]?.getD false=true):(qr bs j).length<(qr bs k).length:=by
 have:=(zBk bs (show j+1<=k by omega)).length_le
 rw[zBr hj hb] at this
 simp at this
 omega
def BoolsAt (b:Nat) (W:World) (sv:Value) (bs:List Bool):Prop :=
 (∃p cap,sv=.slice p 0 cap/\bs = [])\/∃off cap,sv=.slice (some ⟨b,off,none⟩) bs.length cap/\∀j,j<bs.length->W.cell? ⟨b,off+j,none⟩=some (.bool (bs[j]?.getD false))
theorem BoolsAt.kept {b:Nat} {A B:World} (h:KeepsBlk b A B) {sv:Value} {bs:List Bool} : BoolsAt b A sv bs->BoolsAt b B sv bs
 | .inl e=>.inl e
 | .inr ⟨off,cap,e,hc⟩=>.inr ⟨off,cap,e,λj hj=>(h.cell (off+j)).trans (hc j hj)⟩
theorem zJd (n l Bs:Nat) (p:Option Addr) (cap:Nat) {N:Nat} (J:List (Fin N)->World->Prop) (W:World) (hBs:W.cell? ⟨Bs,0,none⟩=some (.slice p 0 cap)) (h0:J [] W) :
 CallsIn Fence.wide n Tryz.prog 179 #[.func (.yield l) #[] #[],.pointer (some ⟨Bs,0,none⟩)] W λe W'=>(∃v,e=.returned v)/\J [] W':=by
 have hnf:=zA
 refine callsIn_of_wp Tryz.func179 rfl trivial ?_ rfl
 simp only[Tryz.ntmps179,List.size_toArray,List.length_cons,List.length_nil,Nat.reduceAdd,Nat.reduceSub,Array.replicate_succ,Array.replicate_zero,List.push_toArray,List.append_toArray,List.nil_append,List.cons_append]
 gi_wp2
 gi_loopw [9] (λi wr=>i=.int .i64 0/\J [] wr) (λ_ _=>0)
 case atStart=>exact ⟨rfl,h0⟩
 case round =>
  obtain ⟨rfl,hJs⟩:=hrel
  gi_wp2
  go_end0
  exact ⟨⟨_,rfl⟩,hJs⟩
theorem zVy (n l Bs b off cap:Nat) (bs:List Bool) (hreach:bs.length<=9223372036854775807) (J Jx:List (Fin bs.length)->World->Prop)
 (hY:∀pre (x:Fin bs.length) W,J pre W->pre.length<(qr bs bs.length).length->YieldAt Fence.wide (n - 1) Tryz.prog l #[.int .i64 (x.val:Int)] W (zGy (KeepsBlk b) J Jx pre x W))
 (W:World) (hBs:W.cell? ⟨Bs,0,none⟩=some (.slice (some ⟨b,off,none⟩) bs.length cap)) (hc:∀j,j<bs.length->W.cell? ⟨b,off+j,none⟩=some (.bool (bs[j]?.getD false))) (h0:J [] W) :
 CallsIn Fence.wide n Tryz.prog 179 #[.func (.yield l) #[] #[],.pointer (some ⟨Bs,0,none⟩)] W (yBc J Jx (qr bs bs.length)):=by
 have hnf:=zA
 refine callsIn_of_wp Tryz.func179 rfl trivial ?_ rfl
 simp only[Tryz.ntmps179,List.size_toArray,List.length_cons,List.length_nil,Nat.reduceAdd,Nat.reduceSub,Array.replicate_succ,Array.replicate_zero,List.push_toArray,List.append_toArray,List.nil_append,List.cons_append]
 gi_wp2
 gi_loopw [9] (λi wr=>∃k:Nat,k<=bs.length/\i=.int .i64 k/\J (qr bs k) wr/\KeepsBlk b W wr)
  (λi _=>bs.length - (intOf i).toNat)
 case atStart=>exact ⟨0,Nat.zero_le _,rfl,h0,KeepsBlk.refl _ _⟩
 case round =>
  obtain ⟨k,hk,rfl,hJs,hnx⟩:=hrel
  by_cases hlt:k<bs.length
  . have hcx:wr.cell? ⟨b,off+k,none⟩=some (.bool (bs[k]?.getD false)):=(hnx.cell (off+k)).trans (hc k hlt)
    cases hbk:bs[k]?.getD false with
    | true =>
     rw[hbk] at hcx
     obtain ⟨fn,tmps,assign,body,hy,hR⟩:=hY _ ⟨k,hlt⟩ wr hJs (zTo bs hlt hlt hbk)
     have hW:=hI (zBr hlt hbk)
     clear hbk hc
     gi_wp2_with (refine ⟨zDf _,?_⟩;refine hR.mono ?_;clear hR;rintro e W3 (⟨rfl,hJ3,hk3⟩ | ⟨rfl,hJx3⟩))
     . go_roundw
       case rel=>exact ⟨k+1,by omega,by simp,by rw[hW.out];exact hJ3,hnx.trans hk3⟩
       case measure=>simp[intOf];omega
     . refine bodyPost_ret (results_none rfl _ _ _) rfl ?_
       exact ⟨⟨_,rfl⟩,.inr ⟨_,zBk bs (show k+1<=bs.length by omega),by rw[hW.out];exact hJx3⟩⟩
    | false =>
     rw[hbk] at hcx
     have hW:=hI (zEg hlt hbk)
     clear hbk hc
     gi_wp2
     refine ⟨λ_ h=>(by cases h),?_⟩
     gi_wp2
     go_roundw
     case rel=>exact ⟨k+1,by omega,by simp,by rw[hW.out];exact hJs,hnx⟩
     case measure=>simp[intOf];omega
  . obtain rfl:k=bs.length:=by omega
    gi_wp2
    go_end0
    exact ⟨⟨_,rfl⟩,.inl ⟨_,rfl,hJs⟩⟩
theorem zOt (n Bs b:Nat) (sv:Value) (bs:List Bool) (hreach:bs.length<=9223372036854775807) (w:World) (hBs:Bs<w.heap.size) (hb:b<w.heap.size)
 (hc:w.cell? ⟨Bs,0,none⟩=some sv) (hI:BoolsAt b w sv bs) :
 SeqStopsK Fence.wide n Tryz.prog 179 #[.pointer (some ⟨Bs,0,none⟩)] encFw (KeepsBlk b) (λys=>ys=qr bs bs.length) (λpre=>pre <+: qr bs bs.length) (qr bs bs.length).length w:=λl J Jx W hW _ _ hY h0=>by
 have hc':=(hW.cell (p:=⟨Bs,0,none⟩) hBs).trans hc
 rcases hI.kept (KeepsBlk.of_below hW hb) with ⟨p,cap,rfl,rfl⟩ | ⟨off,cap,rfl,hcs⟩
 . exact (zJd n l Bs p cap J W hc' h0).mono λe W' ⟨he,hj⟩=>⟨he,.inl ⟨_,rfl,hj⟩⟩
 . exact zVy n l Bs b off cap bs hreach J Jx hY W hc' hcs h0
theorem qQ {W:World} {b:Nat} {e:TypeId} {size:Nat} {v:Value} {k:Nat} {xs:List Value} (h:W.ownsRow b e size v k xs):∃p cap,v=.slice p k cap:=by
 rcases h.2 with ⟨rfl,rfl⟩ | ⟨g,cap,cur,rfl,_⟩
 . exact ⟨_,_,rfl⟩
 . exact ⟨_,_,rfl⟩
theorem info4:(Tryz.prog.info? 4).map (λi=>(i.zero,i.size,i.bytes))=some (some (.bool false),1,1):=by kernel_rfl
theorem zFi (ad:Addr) (n c:Nat) (w:World):Sem.run Tryz.prog (binOp BinOp.eql 39 (.slice (some ad) n c) (.slice none 0 0)) w=.ok (.bool false) w:=by kernel_rfl
theorem zJn (w:World):Sem.run Tryz.prog (binOp BinOp.eql 39 (.slice none 0 0) (.slice none 0 0)) w=.ok (.bool true) w:=by kernel_rfl
def zEf (W:World) (sv:Value) (bs:List Bool):Prop :=
 (sv=.slice none 0 0/\bs = [])\/∃ad cap,sv=.slice (some ad) bs.length cap/\∀j,j<bs.length->W.cell? (ad.add j)=some (.bool (bs[j]?.getD false))
def yBj (bs:List Bool) (w:World) (e:Ending) (W':World):Prop :=
 ∃sv,e=.returned sv/\W'.ownsRow w.heap.size 4 1 sv bs.length (bs.map Value.bool)/\Below w.heap.size w W'
theorem yAp (sv:Value) (bs:List Bool) (hlen:bs.length<=1000000) (w:World) (h:zEf w sv bs) :
 Calls Tryz.prog 178 #[sv] w (yBj bs w):=by
 obtain ⟨i0,hi,hz0,hz1,hz2⟩:=info_parts info4
 rcases h with ⟨rfl,rfl⟩ | ⟨ad,cap,rfl,hc⟩
 . have hn:=zJn w
   go_enter Tryz.func178,Tryz.ntmps178
   go_wp2
   go_ret
   exact ⟨_,rfl,World.ownsRow_nil _ _ _ _,bR⟩
 . have hn:=zFi ad bs.length cap w
   have hl:=World.ownsRow_lit (base:=w.heap.size) (e:=4) (size:=1) w #[] 0 nL (by unfold maxLen;omega) rfl
   have hnews:∀(j:Nat) u,(bs.map Value.bool)[j]? = some u->(w.alloc (.cells #[] 4)).cell? (ad.add j)=some u:=by
    intro j u hu
    have hj:j<bs.length:=by
     have:=(List.getElem?_eq_some_iff.1 hu).1
     simpa using this
    have h1:=hc j hj
    have:u=.bool (bs[j]?.getD false):=by simp[hj] at hu ⊢;exact hu.symm
    subst this
    exact cell_kept h1 (World.grownBy_alloc w _ none) (λr e=>by cases e)
   go_enter Tryz.func178,Tryz.ntmps178
   go_wp2_with (at_builtin;refine wpList_append_own _ rfl _ _ 39 rfl w.heap.size 4 i0 (.bool false) 1 1 Tryz.underlying39 hi hz0 hz1 hz2 rfl (by decide) _ _ _ rfl hl ad bs.length cap (bs.map Value.bool) rfl (by simp) hnews (by intro u hu;obtain ⟨b,_,rfl⟩:=List.mem_map.1 hu;rfl) (by unfold maxLen;omega) (by omega) (by simp) ?_;intro v' w1 hown' hgrow _)
   go_ret
   exact ⟨_,rfl,by simpa using hown',((Below.refl _ w).alloc nL _).grown hgrow (by simp) (λk e=>by cases e;exact Nat.le_refl _)⟩
theorem zGs {W:World} {base:Nat} {sv:Value} {bs:List Bool} (h:W.ownsRow base 4 1 sv bs.length (bs.map Value.bool)) (c:Nat) (hc:base<=c) (hs:c<W.heap.size):∃b,base<=b/\b<W.heap.size/\BoolsAt b W sv bs:=by
 by_cases h0:bs = []
 . subst h0
   obtain ⟨p,cap,rfl⟩:∃p cap,sv=.slice p 0 cap:=qQ h
   exact ⟨c,hc,hs,.inl ⟨p,cap,rfl,rfl⟩⟩
 . obtain ⟨k,hk⟩:∃k,bs.length=k+1:=⟨bs.length - 1,by have:=List.length_pos_iff.2 h0;omega⟩
   have hk':=hk
   rw[hk] at h
   obtain ⟨g,cap,rfl⟩:=ownsRow_succ h
   refine ⟨g,(h.lt g rfl).1,(h.lt g rfl).2,.inr ⟨0,cap,by rw[hk],λj hj=>?_⟩⟩
   have:=h.cellAt j (by omega)
   rw[Nat.zero_add,this]
   simp[hj]
def zOp (bs:List Bool) (w:World) (e:Ending) (W':World):Prop :=
 ∃B b,e=.returned (.func (.func 179) #[] #[.pointer (some ⟨B,0,none⟩)])/\w.heap.size<=b/\b<W'.heap.size /\
  (∀m,SeqStopsK Fence.wide m Tryz.prog 179 #[.pointer (some ⟨B,0,none⟩)] encFw (KeepsBlk b) (λys=>ys=qr bs bs.length) (λpre=>pre <+: qr bs bs.length) (qr bs bs.length).length W')/\Below w.heap.size w W'
theorem zOd:∀args w,(callFunc 179 args).run Tryz.prog w=.ok (.enter 179 args) w:=enters_of Tryz.func179 (by kernel_rfl) rfl
theorem zVw (sv:Value) (bs:List Bool) (hlen:bs.length<=1000000) (w:World) (h:zEf w sv bs) :
 Calls Tryz.prog 157 #[sv] w (zOp bs w):=by
 go_enter Tryz.func157,Tryz.ntmps157
 go_wp2_with (go_at_call 178;refine (yAp sv bs hlen _ h).mono ?_;rintro e w1 ⟨sv1,rfl,hr,hb⟩;obtain ⟨p,cap,rfl⟩:=qQ hr)
 go_ret
 have hx:=(Boxed.new w1 39 (.slice p bs.length cap)).cell
 obtain ⟨b,hb0,hbl,hba⟩:=zGs (hr.alloc (.cells #[.slice p bs.length cap] 39)) w1.heap.size hb.size (by simp)
 exact ⟨w1.heap.size,b,rfl,hb0,hbl,λm=>zOt m w1.heap.size b _ bs (by omega) _ (by simp) hbl hx hba,hb.alloc hb.size _⟩
end
section
def qz:Nat->List (Int × Bool)->List (Int × Int)
 | _,[]=>[]
 | k,p::r=>if p.2=true then ((k:Int),p.1)::qz (k+1) r else qz (k+1) r
theorem zJt (k:Nat) (zs:List (Int × Bool)) (p:Int × Bool):qz k (zs++[p])=qz k zs++(if p.2=true then [(((k+zs.length:Nat):Int),p.1)] else []):=by
 induction zs generalizing k with
 | nil=>simp[qz]
 | cons q r ih =>
  simp only[List.cons_append,qz,List.length_cons]
  rw[ih (k+1),show k+1+r.length=k+(r.length+1) by omega]
  split<;>simp
theorem mem_look (k:Nat) (zs:List (Int × Bool)) (x:Int):(x,true)∈zs↔x∈(qz k zs).map (·.2):=by
 induction zs generalizing k with
 | nil=>simp[qz]
 | cons q r ih =>
  obtain ⟨y,b⟩:=q
  cases b with
  | false=>simp only[qz];rw[if_neg (by decide),List.mem_cons,ih (k+1)];simp
  | true=>simp only[qz];rw[if_pos trivial,List.mem_cons,ih (k+1),List.map_cons,List.mem_cons];simp
theorem zCj (n:Int) (k:Nat) (zs:List (Int × Bool)):yy n k zs=((qz k zs).find? λq=>q.2==n).elim (-1) (·.1):=by
 induction zs generalizing k with
 | nil=>rfl
 | cons q r ih =>
  obtain ⟨y,b⟩:=q
  cases b with
  | false=>simp only[yy,qz];rw[if_neg (by simp),if_neg (by decide),ih (k+1)]
  | true =>
   simp only[yy,qz]
   rw[if_pos (c:=True) trivial]
   by_cases h:y=n
   . rw[if_pos ⟨trivial,h⟩,List.find?_cons,show (y==n)=true from by simpa using h];rfl
   . rw[if_neg (λe=>h e.2),ih (k+1),List.find?_cons,show (y==n)=false from by simpa using h]
def ye (zs:List (Int × Bool)):List Int:=(qz 0 zs).map (·.1)
def qW (zs:List (Int × Bool)):List Int:=(qz 0 zs).map (·.2)
theorem look_len (k:Nat) (zs:List (Int × Bool)):(qz k zs).length<=zs.length:=by
 induction zs generalizing k with
 | nil=>simp[qz]
 | cons q r ih =>
  simp only[qz]
  have:=ih (k+1)
  split<;>simp<;>omega
theorem zJr (zs:List (Int × Bool)):(qW zs).length<=zs.length:=by
 have:=look_len 0 zs
 simpa[qW] using this
theorem yR (zs:List (Int × Bool)) (x:Int):(x,true)∈zs↔x∈qW zs:=mem_look 0 zs x
theorem zNi {zs:List (Int × Bool)} (h:qW zs = []):∀x,(x,true)∉zs:=λx hx=>by
 have:=(yR zs x).1 hx
 rw[h] at this;cases this
theorem zOb {bt:Int->Int->Bool} (hir:∀x,bt x x=false) {Q:List (Int × Int)} {r:Int} (h:zVr bt (Q.map (·.2)) r):(Q = []/\r = -1)\/∃a,∃h1:a<(Q.map (·.2)).length,∃h2:a<(Q.map (·.1)).length,r=(a:Int)/\(∀x∈Q.map (·.2),bt x (Q.map (·.2))[a]=false)/\(Q.find? λq=>q.2==(Q.map (·.2))[a])=some ((Q.map (·.1))[a],(Q.map (·.2))[a]):=by
 rcases h with ⟨h1,h2⟩ | ⟨a,ha,rfl,h1,h2⟩
 . exact .inl ⟨by simpa using h1,h2⟩
 . have hq:a<Q.length:=by simpa using ha
   refine .inr ⟨a,ha,by simpa using hq,rfl,λx hx=>?_,?_⟩
   . obtain ⟨i,hi,rfl⟩:=List.mem_iff_getElem.1 hx
     exact h1 i hi
   . rw[List.find?_eq_some_iff_getElem]
     refine ⟨by simp,a,hq,by simp,λj hj=>?_⟩
     have:=h2 j hj
     simp only[List.getElem_map] at this ⊢
     cases e:(Q[j].2==Q[a].2) with
     | false=>rfl
     | true =>
      rw[eq_of_beq e,hir] at this
      cases this
theorem zRv {zs:List (Int × Bool)} {r:Int} (h:zVr zFw (qW zs) r):(qW zs = []/\r = -1/\loP zs=0/\hiP zs=0/\zCb zs = -1/\hotP zs = -1)\/∃a,∃h1:a<(qW zs).length,∃h2:a<(ye zs).length,r=(a:Int)/\(qW zs)[a]=loP zs/\(ye zs)[a]=zCb zs:=by
 rcases zOb ord_ltInt.irr h with ⟨h1,h2⟩ | ⟨a,h1,h2,e,h3,h4⟩
 . have hn:qW zs = []:=by unfold qW;rw[h1];rfl
   have hz:=zAm (zNi hn)
   have hs:∀n,zDh zs n = -1:=λn=>by unfold zDh;rw[zCj,h1];rfl
   exact .inl ⟨hn,h2,hz.1,hz.2,hs _,hs _⟩
 . have hm:(qW zs)[a]'h1∈qW zs:=List.getElem_mem h1
   have he:=yU ((yR zs _).2 hm)
   have hlo:(qW zs)[a]'h1=loP zs:=by
    have i1:=(he.2.2 _ ((yR zs _).2 hm)).1
    have i2:=h3 _ ((yR zs _).1 he.1)
    simp[zFw] at i2
    have i3:(qW zs)[a]'h1<=loP zs:=by simpa[qW] using i2
    omega
   refine .inr ⟨a,h1,h2,e,hlo,?_⟩
   unfold zCb zDh
   rw[zCj,<- hlo]
   have:((qz 0 zs).find? λq=>q.2==(qW zs)[a])=some ((ye zs)[a]'h2,(qW zs)[a]'h1):=h4
   rw[this];rfl
theorem zNr {zs:List (Int × Bool)} {r:Int} (h:zVr zFy (qW zs) r):(qW zs = []/\r = -1/\loP zs=0/\hiP zs=0/\zCb zs = -1/\hotP zs = -1)\/∃a,∃h1:a<(qW zs).length,∃h2:a<(ye zs).length,r=(a:Int)/\(qW zs)[a]=hiP zs/\(ye zs)[a]=hotP zs:=by
 rcases zOb ord_gtInt.irr h with ⟨h1,h2⟩ | ⟨a,h1,h2,e,h3,h4⟩
 . have hn:qW zs = []:=by unfold qW;rw[h1];rfl
   have hz:=zAm (zNi hn)
   have hs:∀n,zDh zs n = -1:=λn=>by unfold zDh;rw[zCj,h1];rfl
   exact .inl ⟨hn,h2,hz.1,hz.2,hs _,hs _⟩
 . have hm:(qW zs)[a]'h1∈qW zs:=List.getElem_mem h1
   have he:=yU ((yR zs _).2 hm)
   have hlo:(qW zs)[a]'h1=hiP zs:=by
    have i1:=(he.2.2 _ ((yR zs _).2 hm)).2
    have i2:=h3 _ ((yR zs _).1 he.2.1)
    simp[zFy] at i2
    have i3:hiP zs<=(qW zs)[a]'h1:=by simpa[qW] using i2
    omega
   refine .inr ⟨a,h1,h2,e,hlo,?_⟩
   unfold hotP zDh
   rw[zCj,<- hlo]
   have:((qz 0 zs).find? λq=>q.2==(qW zs)[a])=some ((ye zs)[a]'h2,(qW zs)[a]'h1):=h4
   rw[this];rfl
theorem zTn (l:List Int) (b:List Bool) (bs:List Bool) (hbs:bs=b.take (min l.length b.length)) (j:Nat) (hj:j<=bs.length) :
 (qr bs j).map (λx=>(x.val:Int))=(qz 0 ((l.zip b).take j)).map (·.1)/\(qr bs j).map (λx=>l[x.val]?.getD 0)=(qz 0 ((l.zip b).take j)).map (·.2):=by
 have hlen:bs.length=min l.length b.length:=by rw[hbs];simp
 induction j with
 | zero=>simp[whereTo_zero,qz]
 | succ j ih =>
  obtain ⟨i1,i2⟩:=ih (by omega)
  have hjl:j<l.length:=by omega
  have hjb:j<b.length:=by omega
  have hz:((l.zip b).take j).length=j:=by simp;omega
  have hb:bs[j]?.getD false=b[j]:=by
   subst hbs
   rw[List.getElem?_take,if_pos (by omega),List.getElem?_eq_getElem hjb];rfl
  rw[take_zip hjl hjb,zJt,hz]
  cases e:b[j] with
  | false =>
   rw[e] at hb
   rw[zEg (by omega) hb,if_neg (by simp),List.append_nil]
   exact ⟨i1,i2⟩
  | true =>
   rw[e] at hb
   rw[zBr (by omega) hb,if_pos rfl,List.map_append,List.map_append,List.map_append,List.map_append,i1,i2]
   simp[hjl]
theorem zVx (l:List Int) (b:List Bool) (bs:List Bool) (hbs:bs=b.take (min l.length b.length)) :
 (qr bs bs.length).map (λx=>(x.val:Int))=ye (l.zip b)/\(qr bs bs.length).map (λx=>l[x.val]?.getD 0)=qW (l.zip b):=by
 have hlen:bs.length=min l.length b.length:=by rw[hbs];simp
 have:=zTn l b bs hbs bs.length nL
 rwa [List.take_of_length_le (by simp;omega)] at this
end
section
open Go.RowKit Go.Shelf
attribute [local go_sem] Oper.semAt_some
theorem zZf:(Tryz.prog.info? 3).map (λi=>(i.zero,i.size,i.bytes))=some (some (.int .i64 0),1,8):=by kernel_rfl
abbrev IOw (W:World) (B:Nat) (v:Value) (l:List Int):Prop:=W.ownsRow B 3 1 v l.length (l.map (Value.int .i64))
theorem yp {W W':World} {B:Nat} {t:TypeId} {sz n:Nat} {v:Value} {xs:List Value} (h:W.ownsRow B t sz v n xs) (hk:∀k o,B<=k->v.ownBlock=some k->W.heap[k]? = some o->o.isCells=true->W'.heap[k]? = W.heap[k]?):W'.ownsRow B t sz v n xs:=by
 refine ⟨h.1,h.2.imp id ?_⟩
 rintro ⟨g,cap,cur,hv,hb,hg,hr⟩
 exact ⟨g,cap,cur,hv,hb,(hk g _ hb (by rw[hv];rfl) hg rfl).trans hg,hr⟩
theorem zYc {W:World} {B:Nat} {t:TypeId} {sz n:Nat} {v:Value} {xs:List Value} (h:W.ownsRow B t sz v n xs) {k:Nat} {o:Obj} (hk:v.ownBlock=some k) (ho:W.heap[k]? = some o):o.isCells=true:=by
 rcases h.2 with ⟨e,_⟩ | ⟨g',cap',cur,e,_,hgb,_⟩
 . rw[e] at hk;simp[Value.ownBlock] at hk
 . rw[e] at hk
   obtain rfl:g'=k:=by simpa[Value.ownBlock] using hk
   rw[hgb] at ho;cases ho;rfl
structure LkB (w W:World) (B0 i1 i2:Nat) (cv v1 v2:Value) (P:List Int):Prop where
 boxC:Boxed W w.heap.size 24 cv
 box1:Boxed W i1 24 v1
 box2:Boxed W i2 24 v2
 row1:IOw W B0 v1 P
 own2:∀k,v2.ownBlock=some k->B0<=k/\k<W.heap.size/\v1.ownBlock≠some k
 below:Below w.heap.size w W
 sz:B0<=W.heap.size
 ne:w.heap.size<i1/\w.heap.size<i2/\i1≠i2/\i1<B0/\i2<B0
def LkG (w W:World) (B0 i1 i2:Nat) (cv v1 v2:Value) (P L:List Int):Prop:=LkB w W B0 i1 i2 cv v1 v2 P/\IOw W B0 v2 L
section
variable {w W W' W0:World} {B0 i1 i2:Nat} {cv v1 v2:Value} {P L:List Int}
theorem LkG.swap (h:LkG w W B0 i1 i2 cv v1 v2 P L):LkG w W B0 i2 i1 cv v2 v1 L P :=
 ⟨⟨h.1.boxC,h.1.box2,h.1.box1,h.2,λk hk=>⟨(h.1.row1.lt k hk).1,(h.1.row1.lt k hk).2,λe=>(h.1.own2 k e).2.2 hk⟩,h.1.below,h.1.sz,⟨h.1.ne.2.1,h.1.ne.1,h.1.ne.2.2.1.symm,h.1.ne.2.2.2.2,h.1.ne.2.2.2.1⟩⟩,h.1.row1⟩
theorem LkB.move (h:LkB w W B0 i1 i2 cv v1 v2 P) (hs:W.heap.size<=W'.heap.size) (hb:Below w.heap.size w W') (hk:∀k o,w.heap.size<=k->v2.ownBlock≠some k->W.heap[k]? = some o->o.isCells=true->W'.heap[k]? = W.heap[k]?):LkB w W' B0 i1 i2 cv v1 v2 P:=by
 obtain ⟨n1,n2,n3,n4,n5⟩:=h.ne
 have hne:∀i,i<B0->v2.ownBlock≠some i:=λi hi e=>by have:=(h.own2 i e).1;omega
 refine ⟨(hk _ _ nL (hne _ (by omega)) h.boxC rfl).trans h.boxC,(hk _ _ (by omega) (hne _ n4) h.box1 rfl).trans h.box1,(hk _ _ (by omega) (hne _ n5) h.box2 rfl).trans h.box2,yp h.row1 λk o hB hv ho hc=>hk k o (by omega) (λe=>(h.own2 k e).2.2 hv) ho hc,λk hk'=>?_,hb,by have:=h.sz;omega,h.ne⟩
 obtain ⟨a1,a2,a3⟩:=h.own2 k hk'
 exact ⟨a1,by omega,a3⟩
theorem LkB.more (h:LkB w W B0 i1 i2 cv v1 v2 P) (hb:Below W.heap.size W W'):LkB w W' B0 i1 i2 cv v1 v2 P :=
 h.move hb.size (h.below.trans (hb.mono h.below.size)) λk _ _ _ ho _=>hb.block k (qD ho)
theorem LkB.wrote (h:LkB w W B0 i1 i2 cv v1 v2 P) (hg:W.grownBy W' v2.ownBlock):LkB w W' B0 i1 i2 cv v1 v2 P :=
 h.move hg.size (h.below.grown hg h.below.size λr e=>by have:=(h.own2 r e).1;have:=h.ne;omega) λk _ _ hv ho _=>hg.block k (qD ho) λe=>hv e.symm
theorem LkB.grown {row:Option Nat} (h:LkB w W B0 i1 i2 cv v1 v2 P) (hg:W.grownBy W' row) (hrow:∀r,row=some r->w.heap.size<=r/\∃o:Obj,W.heap[r]? = some o/\o.isCells=false):LkB w W' B0 i1 i2 cv v1 v2 P :=
 h.move hg.size (h.below.grown hg h.below.size λr e=>(hrow r e).1) λk _ _ _ ho hc=>hg.block k (qD ho) λe=>by
  obtain ⟨_,o',ho',hc'⟩:=hrow k e.symm
  rw[ho] at ho';cases ho';rw[hc] at hc';cases hc'
theorem LkB.stored {v2':Value} {L':List Int} (h:LkB w W B0 i1 i2 cv v1 v2 P) (hr:IOw W B0 v2' L') (hap:∀k,v2'.ownBlock=some k->v1.ownBlock≠some k):LkG w (W.setCell ⟨i2,0,none⟩ v2') B0 i1 i2 cv v1 v2' P L':=by
 obtain ⟨n1,n2,n3,n4,n5⟩:=h.ne
 have far:∀k,k≠i2->(W.setCell ⟨i2,0,none⟩ v2').heap[k]? = W.heap[k]? := λk hk=>Below.heap_setCell W ⟨i2,0,none⟩ _ k hk
 refine ⟨⟨(far _ (by omega)).trans h.boxC,(far _ n3).trans h.box1,h.box2.set v2',yp h.row1 λk o hB _ _ _=>far k (by omega),λk hk=>⟨(hr.lt k hk).1,by simpa using (hr.lt k hk).2,hap k hk⟩,h.below.setCell (p:=⟨i2,0,none⟩) (by show w.heap.size<=i2;omega) _,by simpa using h.sz,h.ne⟩,yp hr λk o hB _ _ _=>far k (by omega)⟩
theorem LkG.again (h:LkG w W B0 i1 i2 cv v1 v2 P L):LkG w (W.setCell ⟨i2,0,none⟩ v2) B0 i1 i2 cv v1 v2 P L:=h.1.stored h.2 λk hk=>(h.1.own2 k hk).2.2
theorem LkG.again1 (h:LkG w W B0 i1 i2 cv v1 v2 P L):LkG w (W.setCell ⟨i1,0,none⟩ v1) B0 i1 i2 cv v1 v2 P L:=h.swap.again.swap
theorem LkG.grown {row:Option Nat} (h:LkG w W B0 i1 i2 cv v1 v2 P L) (hg:W.grownBy W' row) (hrow:∀r,row=some r->w.heap.size<=r/\∃o:Obj,W.heap[r]? = some o/\o.isCells=false):LkG w W' B0 i1 i2 cv v1 v2 P L :=
 ⟨h.1.grown hg hrow,(h.swap.1.grown hg hrow).row1⟩
theorem LkG.more (h:LkG w W B0 i1 i2 cv v1 v2 P L) (hb:Below W.heap.size W W'):LkG w W' B0 i1 i2 cv v1 v2 P L:=⟨h.1.more hb,(h.swap.1.more hb).row1⟩
theorem zNn {B:Nat} {v:Value} {l:List Int} (hr:IOw W B v l) (hg:W.grownBy W' v.ownBlock):KeepsOthers W W':=KeepsOthers.of_grownBy hg λ_ _ ej hj=>zYc hr ej hj
end
def zTh (zs:List (Int × Bool)) (w:World) (e:Ending) (W:World):Prop :=
 ∃v1 v2,e=.returned (.tuple #[v1,v2])/\IOw W w.heap.size v1 (ye zs)/\IOw W w.heap.size v2 (qW zs)/\Below w.heap.size w W
def ve:List (Nat × Nat):=[(3,1),(3,2),(4,3),(5,4),(6,0),(6,5),(7,6)]
def ClosedL (d:Nat->Bool):Prop:=∀x∈ve,d x.1=true->d x.2=true
theorem ClosedL.also {d:Nat->Bool} {i:Nat} (h:ClosedL d) (hw:∀x∈ve,x.1=i->d x.2=true):ClosedL (also d i):=λx hx hd=>by
 unfold Go.Proofs.YtinkkmlbhkfmnaaGreat.also at hd ⊢
 by_cases h2:x.2=i
 . rw[if_pos h2]
 . rw[if_neg h2]
   by_cases h1:x.1=i
   . exact hw x hx h1
   . rw[if_neg h1] at hd
     exact h x hx hd
theorem ClosedL.seven {d:Nat->Bool} (h:ClosedL d) (h7:d 7=true):d 0=true/\d 1=true/\d 2=true/\d 3=true/\d 4=true/\d 5=true/\d 6=true:=by
 have h6:=h (7,6) (by simp[ve]) h7
 have h5:=h (6,5) (by simp[ve]) h6
 have h4:=h (5,4) (by simp[ve]) h5
 have h3:=h (4,3) (by simp[ve]) h4
 exact ⟨h (6,0) (by simp[ve]) h6,h (3,1) (by simp[ve]) h3,h (3,2) (by simp[ve]) h3,h3,h4,h5,h6⟩
theorem ClosedL.no7 {d:Nat->Bool} (h:ClosedL d) (hn:¬(d 0=true/\d 1=true/\d 2=true/\d 3=true/\d 4=true/\d 5=true/\d 6=true)):d 7=false:=by
 cases e:d 7 with
 | false=>rfl
 | true=>exact absurd (h.seven e) hn
end
section
open Go.RowKit Go.Shelf
attribute [local go_sem] Oper.semAt_some
def zHh (A:Option Addr) (c n:Nat):Prop:=n<=c/\(A=none->c=0)
theorem zTb {w:World} {A:Option Addr} {b:List Bool} {c m:Nat} (h:BA w A b) (hr:zHh A c b.length) (hm:m<=b.length):zEf w (.slice A m c) (b.take m):=by
 obtain ⟨h1,h2⟩:=hr
 cases A with
 | none =>
  have hc:=h2 rfl
  subst hc
  have hm0:m=0:=by omega
  subst hm0
  exact .inl ⟨rfl,rfl⟩
 | some ad =>
  refine .inr ⟨ad,c,by simp;omega,λj hj=>?_⟩
  have hj':j<b.length:=by simp at hj;omega
  obtain ⟨B,o,e,_,hc⟩:=h (by omega)
  cases e
  have ea:(⟨B,o,none⟩:Addr).add j=⟨B,o+j,none⟩:=by
   unfold Addr.add
   split
   . next e=>subst e;rfl
   . rfl
  rw[ea,hc j hj']
  simp at hj ⊢
  rw[List.getElem?_take,if_pos (by omega),List.getElem?_eq_getElem hj'];rfl
theorem zEi {W:World} {b b':Nat} {e:TypeId} {size:Nat} {v:Value} {k:Nat} {xs:List Value} (h:W.ownsRow b e size v k xs) (hb:b'<=b):W.ownsRow b' e size v k xs:=by
 obtain ⟨h1,h2⟩:=h
 refine ⟨h1,?_⟩
 rcases h2 with h2 | ⟨g,cap,cur,hv,hg,r⟩
 . exact Or.inl h2
 . exact Or.inr ⟨g,cap,cur,hv,Nat.le_trans hb hg,r⟩
theorem yAy (B o j:Nat):(⟨B,o,none⟩:Addr).add j=⟨B,o+j,none⟩:=by
 unfold Addr.add
 split
 . next e=>subst e;rfl
 . rfl
theorem zXs {bs:List Bool} {pre:List (Fin bs.length)} {n:Nat} (h:pre.length<(qr bs n).length):pre.length<bs.length:=by
 have h2:(qr bs n).length<=bs.length:=by
  unfold qr
  refine Nat.le_trans (List.length_filter_le _ _) ?_
  simp
  omega
 omega
theorem zOs {F:Fence} {n:Nat} {P:Program} {c:Code} {Q:Exit->Act->World->Prop} {a:Act} {w:World} (h:∀W,W=w->c.wpIn F n P Q a W):c.wpIn F n P Q a w:=h w rfl
theorem LkG.leave {w W:World} {i1 i2 B0 D m:Nat} {cv:Value} {p1 p2:Option Addr} {c1 c2:Nat} {P L:List Int} {zs:List (Int × Bool)} (h:LkG w W B0 i1 i2 cv (.slice p1 P.length c1) (.slice p2 L.length c2) P L) (hP:P=ye zs) (hL:L=qW zs) (hD:w.heap.size<=D) (hd:W.heap[D]? = some (.deferred (some []))) (tmps:Array Value)
 (hr:∀W':World,W'.cell? ⟨i1,0,none⟩=some (.slice p1 P.length c1)->W'.cell? ⟨i2,0,none⟩=some (.slice p2 L.length c2)->(results Tryz.f140 tmps).run Tryz.prog W'=.ok (.tuple #[.slice p1 P.length c1,.slice p2 L.length c2]) W') :
 LeavesInM Fence.wide m Tryz.prog Tryz.f140 tmps (zTh zs w) [{ target:=Target.collected D,args:=#[] }] .returning W:=by
 subst hP hL
 refine ⟨by simp,.inl ⟨_,_,rfl,run_takeDeferred hd,?_⟩⟩
 have hg:=grownBy_putObj' W D (.deferred none)
 have h2:=h.grown hg λr e=>by cases e;exact ⟨hD,_,hd,rfl⟩
 have hlow:w.heap.size<=B0:=by have:=h.1.ne;omega
 exact ⟨_,hr _ h2.1.box1.cell h2.1.box2.cell,_,_,rfl,zEi h2.1.row1 hlow,zEi h2.2 hlow,h2.1.below⟩
theorem zJs (A A':Option Addr) (c c':Nat) (l:List Int) (b:List Bool) (w:World) (hl:l.length<=1000000) (hb:b.length<=1000000) (hA:IA w A l) (hA':BA w A' b) (hR:zHh A' c' b.length) :
 Calls Tryz.prog 140 #[.slice A l.length c,.slice A' b.length c'] w (zTh (l.zip b) w):=by
 obtain ⟨i0,hi,hz0,hz1,hz2⟩:=info_parts zZf
 obtain ⟨bs,hbs⟩:∃bs,b.take (min l.length b.length)=bs:=⟨_,rfl⟩
 have hbsl:bs.length=min l.length b.length:=by rw[<- hbs];simp
 have hc1:b.length<=c':=hR.1
 have HW:=hI (zVx l b bs hbs.symm)
 have HB1:Hid (b.length<l.length->∀W,Below w.heap.size w W->zEf W (.slice A' b.length c') bs):=hI λh W hW=>by
  have:=zTb (hA'.below hW) hR (Nat.le_refl b.length)
  rwa [show b.take b.length=bs by rw[<- hbs,Nat.min_eq_right (by omega)]] at this
 have HB2:Hid (l.length<=b.length->∀W,Below w.heap.size w W->zEf W (.slice A' l.length c') bs):=hI λh W hW=>by
  have:=zTb (hA'.below hW) hR h
  rwa [show b.take l.length=bs by rw[<- hbs,Nat.min_eq_left h]] at this
 have HA:=hI hA
 have HL:=hI hbsl
 clear hA hA' hR hbs hbsl
 refine callsIn_wide.1 (callsIn_of_wp_marks (n:=3) Tryz.func140 rfl trivial ?_ rfl)
 simp only[Tryz.ntmps140,List.size_toArray,List.length_cons,List.length_nil,Nat.reduceAdd,Nat.reduceSub,Array.replicate_succ,Array.replicate_zero,List.push_toArray,List.append_toArray,List.nil_append,List.cons_append]
 have a1:=Boxed.new w 24 (.slice A l.length c)
 have a2:=Boxed.new (w.alloc (.cells #[.slice A l.length c] 24)) 24 (.slice none 0 0)
 have a3:=Boxed.new ((w.alloc (.cells #[.slice A l.length c] 24)).alloc (.cells #[.slice none 0 0] 24)) 24 (.slice none 0 0)
 simp only[World.size_alloc] at a2 a3
 obtain ⟨W0,hW0⟩:∃W0,W0=((w.alloc (.cells #[.slice A l.length c] 24)).alloc (.cells #[.slice none 0 0] 24)).alloc (.cells #[.slice none 0 0] 24):=⟨_,rfl⟩
 have hz:W0.heap.size=w.heap.size+1+1+1:=by rw[hW0];simp
 have hB0:Below w.heap.size w W0:=by rw[hW0];exact (((Below.refl _ w).alloc nL _).alloc (by simp) _).alloc (by simp;omega) _
 have hM0:∀w1,Below W0.heap.size W0 w1->LkG w w1 w1.heap.size (w.heap.size+1) (w.heap.size+1+1) (.slice A l.length c) (.slice none 0 0) (.slice none 0 0) [] []:=λw1 h1=>by
  have b1:Boxed W0 w.heap.size 24 (.slice A l.length c):=by rw[hW0];exact (a1.alloc _).alloc _
  have b2:Boxed W0 (w.heap.size+1) 24 (.slice none 0 0):=by rw[hW0];exact a2.alloc _
  have b3:Boxed W0 (w.heap.size+1+1) 24 (.slice none 0 0):=by rw[hW0];exact a3
  have hs:=h1.size
  exact ⟨⟨(h1.block _ b1.lt).trans b1,(h1.block _ b2.lt).trans b2,(h1.block _ b3.lt).trans b3,World.ownsRow_nil _ _ _ _,(λk e=>by cases e),hB0.trans (h1.mono hB0.size),Nat.le_refl _,by omega⟩,World.ownsRow_nil _ _ _ _⟩
 have HM0:=hI hM0
 have HZ:=hI hz
 have HBw:=hI hB0
 clear a1 a2 a3 hz hB0 hM0
 have hlen2:bs.length<=1000000:=by rw[HL.out];omega
 have HWh:Hid (∀v,zEf W0 v bs->CallsIn Fence.wide 2 Tryz.prog 157 #[v] W0 (zOp bs W0)):=hI λv hv=>callsIn_wide.2 (zVw v bs hlen2 W0 hv)
 gi_wp2_with (refine ⟨trivial,?_⟩;(try refine ⟨zDf _,?_⟩);gi_at_call 157;rw[<- hW0];(first | refine (HWh.out _ (HB1.out (by assumption) W0 HBw.out)).mono ?_ | refine (HWh.out _ (HB2.out (by omega) W0 HBw.out)).mono ?_);rintro e w1 ⟨BW,bw,rfl,hb0,hb1,hseq,hbel⟩)
 all_goals
  have H1:=hI (HM0.out w1 hbel)
  have HS1:=hI hbel.size
  have Hb0:=hI hb0
  have Hb1:=hI hb1
  clear hbel hb0 hb1
  apply wpIn_rangeFunc_ownG rfl (n:=3) (by omega) (gf:=179) (lb:=#[.pointer (some ⟨BW,0,none⟩)]) rfl trivial zOd
   (hseq (3 - 1)) (λh k=>KeepsBlk.trans h k) (zUn Hb1.out) bR (λ_=>rfl)
   (λpre W=>∃v1 v2,LkG w W w1.heap.size (w.heap.size+1) (w.heap.size+1+1) (.slice A l.length c) v1 v2 (pre.map λx=>(x.val:Int)) (pre.map λx=>l[x.val]?.getD 0))
   (λ_ _ _=>False)
   ?own ?ownx ?start
  case own =>
   rintro s X Y row ⟨v1,v2,hs⟩ hg hrow
   exact ⟨v1,v2,hs.grown hg λr e=>⟨by have:=(hrow r e).1;have:=HS1.out;have:=HZ.out;omega,(hrow r e).2⟩⟩
  case ownx=>exact λ_ _ _ _ _ h _ _=>h
  case start=>exact ⟨_,_,H1.out⟩
  case hassign =>
   intro l x W K hK
   gi_wp2
   exact hK
  case hbody =>
   rintro ll pre x W ⟨v1,v2,hM⟩ hlt
   have hlt2:=zXs hlt
   have hxl:x.val<l.length:=by have:=x.isLt;have:=HL.out;omega
   obtain ⟨Bk,oo,hAe,hBk,hcell⟩:=HA.out (by omega)
   obtain ⟨y,hy⟩:∃y,l[x.val]'hxl=y:=⟨_,rfl⟩
   have hyd:l[x.val]?.getD 0=y:=by rw[List.getElem?_eq_getElem hxl];exact hy
   have hcy:w.cell? ⟨Bk,oo+x.val,none⟩=some (.int .i64 y):=by rw[<- hy];exact hcell x.val hxl
   have hPl:(pre.map λx=>(x.val:Int)).length<=1000000:=by simp;omega
   have hLl:(pre.map λx=>l[x.val]?.getD 0).length<=1000000:=by simp;omega
   obtain ⟨P,hP⟩:∃P,(pre.map λx=>(x.val:Int))=P:=⟨_,rfl⟩
   obtain ⟨L,hL⟩:∃L,(pre.map λx=>l[x.val]?.getD 0)=L:=⟨_,rfl⟩
   rw[hP] at hM hPl
   rw[hL] at hM hLl
   have HP:=hI hP
   have HLL:=hI hL
   have HY:=hI hyd
   subst hAe
   clear hcell hy hlt hlt2 hP hL hyd
   have hc1:=hM.1.box1.cell
   have hrow:=hM.1.row1
   have hsz:=hM.1.sz
   have HM:=hI hM
   clear hM
   gi_wp2_with (gi_at_builtin;refine wpListIn_append_own_at _ rfl _ _ 24 rfl w1.heap.size 3 i0 (.int .i64 0) 1 8 Tryz.underlying24 hi hz0 hz1 hz2 rfl (by decide) _ _ _ rfl (hrow.alloc _) ⟨W.heap.size,0,none⟩ 1 1 [.int .i64 (x.val:Int)] rfl rfl (cell_one_new _ _ _) (by simp[Value.oneCell']) (by unfold maxLen;omega) (by omega) (by simp;omega) ?_;intro v' w2 hown' hgrow _ hat;obtain ⟨g',cap',rfl⟩:=ownsRow_succ hown';have hB2:=(HM.out.swap.1.more ((Below.refl _ W).alloc nL _)).wrote hgrow;have hc2:=hB2.box2.cell;have hf2:=hB2.box2.frozen;have HB2:=hI hB2;clear hB2)
   refine zOs ?_
   intro W1 hW1
   have hown1:IOw w2 w1.heap.size (.slice (some ⟨g',0,none⟩) (P.length+1) cap') (P++[(x.val:Int)]):=by
    unfold IOw
    rw[List.length_append,List.map_append]
    exact hown'
   have hlow:=HM.out.1.ne
   have hapl:=HM.out.1.own2
   have hM1:LkG w W1 w1.heap.size (w.heap.size+1) (w.heap.size+1+1) (.slice (some ⟨Bk,oo,none⟩) l.length c) (.slice (some ⟨g',0,none⟩) (P.length+1) cap') v2 (P++[(x.val:Int)]) L:=by
    rw[hW1]
    refine (HB2.out.stored hown1 λk hk e=>?_).swap
    obtain ⟨_,k2,k3⟩:=hapl k e
    rcases hat with h | h
    . exact k3 (h.symm.trans hk)
    . rw[h] at hk
      simp at hk
      omega
   have hKO:KeepsOthers W W1:=by
    rw[hW1]
    exact ((KeepsOthers.alloc W _).trans (zNn (hrow.alloc _) hgrow)).trans (KeepsOthers.setCell _ _ _)
   have hbw:W1.heap[bw]? = W.heap[bw]? :=by
    have h0:=Hb0.out
    have h1:=HZ.out
    have h2:=Hb1.out
    rw[hW1]
    refine (Below.heap_setCell w2 ⟨w.heap.size+1,0,none⟩ _ bw (by show bw≠w.heap.size+1;omega)).trans ((hgrow.block bw (by simp;omega) λe=>?_).trans (Below.heap_alloc _ _ _ (by omega)))
    have:=(hrow.lt bw e.symm).1
    omega
   have hsz1:W.heap.size<=W1.heap.size:=hKO.size
   have HM1:=hI hM1
   have HKO:=hI hKO
   have HBW:=hI hbw
   obtain ⟨V1,hV1⟩:∃V1:Value,V1=.slice (some ⟨g',0,none⟩) (P.length+1) cap':=⟨_,rfl⟩
   rw[<- hV1] at HM1
   have hbB:bw<w1.heap.size:=Hb1.out
   have hbi:bw≠w.heap.size+1+1:=by have:=Hb0.out;have:=HZ.out;omega
   clear hW1 hM1 hKO hbw hown1 hown' hgrow hat hc1 hc2 hf2 HB2 hrow hapl
   refine zBn (λj v w'=>match j with
    | 0=>v=v2
    | 1=>v=.slice (some ⟨Bk,oo,none⟩) l.length c
    | 2=>v=.int .i64 (x.val:Int)
    | 3=>v=.pointer (some ⟨Bk,oo+x.val,none⟩)
    | 4=>v=.int .i64 y
    | 5=>∃Q,v=.slice (some ⟨Q,0,none⟩) 1 1/\W1.heap.size<=Q/\w'.heap[Q]? = some (.cells #[.int .i64 y] 3 (0,0))
    | 6=>IOw w' w1.heap.size v (L++[y])/\∀k,v.ownBlock=some k->V1.ownBlock≠some k
    | _=>True)
    (λd w'=>ClosedL d/\KeepsFrom w1.heap.size W1 w'/\W1.heap.size<=w'.heap.size/\w'.heap[bw]? = W1.heap[bw]? /\ (d 7=false->LkB w w' w1.heap.size (w.heap.size+1) (w.heap.size+1+1) (.slice (some ⟨Bk,oo,none⟩) l.length c) V1 v2 (P++[(x.val:Int)]))/\(d 6=false->IOw w' w1.heap.size v2 L)/\(d 7=true->∃v2',LkG w w' w1.heap.size (w.heap.size+1) (w.heap.size+1+1) (.slice (some ⟨Bk,oo,none⟩) l.length c) V1 v2' (P++[(x.val:Int)]) (L++[y])))
    (by kernel_rfl) (by kernel_rfl) (by kernel_rfl) (by kernel_rfl) ?hG ?hops ?hend
   case hG=>exact ⟨λ_ _ h=>Bool.noConfusion h,qP bR.drew,Nat.le_refl _,rfl,λ_=>HM1.out.1.more bR.drew,λ_=>(HM1.out.more bR.drew).2,λh=>Bool.noConfusion h⟩
   case hops =>
    refine OpsOk2.cons ?_ (OpsOk2.cons ?_ (OpsOk2.cons ?_ (OpsOk2.cons ?_ (OpsOk2.cons ?_ (OpsOk2.cons ?_ (OpsOk2.cons ?_ (OpsOk2.cons ?_ OpsOk2.nil)))))))
    . intro a w3 d Kx hd hG need old hsz hK
      obtain ⟨hc,hkf,hs,hbk,g1,g2,g3⟩:=hG
      have h7:=hc.no7 (by rw[hd];simp)
      have cL:=(g1 h7).box2.cell
      have e0:a.tmps[5]?.getD undef=.pointer (some ⟨w.heap.size+1+1,0,none⟩):=by
       exact og (old 5 (by kernel_rfl))
      refine qB (v:=v2) (qA rfl) ?_ (hK _ w3 rfl ⟨hc.also (by simp[ve]),hkf,hs,hbk,g1,g2,g3⟩ λ_ _ _ _ h=>h)
      obtain ⟨p2,cap2,hv2⟩:=qQ HM1.out.2
      rw[hv2] at cL ⊢
      simp[execOp,go_sem,e0,cL]
    . intro a w3 d Kx hd hG need old hsz hK
      obtain ⟨hc,hkf,hs,hbk,g1,g2,g3⟩:=hG
      have h7:=hc.no7 (by rw[hd];simp)
      have cL:=(g1 h7).boxC.cell
      have e0:a.tmps[2]?.getD undef=.pointer (some ⟨w.heap.size,0,none⟩):=by
       exact og (old 2 (by kernel_rfl))
      refine qB (v:=.slice (some ⟨Bk,oo,none⟩) l.length c) (qA rfl) ?_ (hK _ w3 rfl ⟨hc.also (by simp[ve]),hkf,hs,hbk,g1,g2,g3⟩ λ_ _ _ _ h=>h)
      simp[execOp,go_sem,e0,cL]
    . intro a w3 d Kx hd hG need old hsz hK
      obtain ⟨hc,hkf,hs,hbk,g1,g2,g3⟩:=hG
      have e0:a.tmps[7]?.getD undef=.int .i64 (x.val:Int):=by
       exact og (old 7 (by kernel_rfl))
      refine qB (v:=.int .i64 (x.val:Int)) (qA rfl) ?_ (hK _ w3 rfl ⟨hc.also (by simp[ve]),hkf,hs,hbk,g1,g2,g3⟩ λ_ _ _ _ h=>h)
      simp[execOp,go_sem,e0]
    . intro a w3 d Kx hd hG need old hsz hK
      obtain ⟨hc,hkf,hs,hbk,g1,g2,g3⟩:=hG
      obtain ⟨d1,n1⟩:=need 1 (by kernel_rfl) (by kernel_rfl)
      obtain ⟨d2,n2⟩:=need 2 (by kernel_rfl) (by kernel_rfl)
      have e0:a.tmps[23]?.getD undef=.slice (some ⟨Bk,oo,none⟩) l.length c:=by
       exact og (n1)
      have e1:a.tmps[24]?.getD undef=.int .i64 (x.val:Int):=by
       exact og (n2)
      refine qB (v:=.pointer (some ⟨Bk,oo+x.val,none⟩)) (qA rfl) ?_ (hK _ w3 rfl ⟨hc.also λy hy e=>?_,hkf,hs,hbk,g1,g2,g3⟩ λ_ _ _ _ h=>h)
      . simp[execOp,go_sem,e0,e1,hxl]
      . simp[ve] at hy
        rcases hy with rfl | rfl | rfl | rfl | rfl | rfl | rfl<;>first | exact d1 | exact d2 | (exact absurd e (by decide))
    . intro a w3 d Kx hd hG need old hsz hK
      obtain ⟨hc,hkf,hs,hbk,g1,g2,g3⟩:=hG
      have h7:=hc.no7 (by rw[hd];simp)
      obtain ⟨d3,n3⟩:=need 3 (by kernel_rfl) (by kernel_rfl)
      have cy:=((g1 h7).below.cell (p:=⟨Bk,oo+x.val,none⟩) hBk).trans hcy
      have e0:a.tmps[25]?.getD undef=.pointer (some ⟨Bk,oo+x.val,none⟩):=by
       exact og (n3)
      refine qB (v:=.int .i64 y) (qA rfl) ?_ (hK _ w3 rfl ⟨hc.also λy hy e=>?_,hkf,hs,hbk,g1,g2,g3⟩ λ_ _ _ _ h=>h)
      . simp[execOp,go_sem,e0,cy]
      . simp[ve] at hy
        rcases hy with rfl | rfl | rfl | rfl | rfl | rfl | rfl<;>first | exact d3 | (exact absurd e (by decide))
    . intro a w3 d Kx hd hG need old hsz hK
      obtain ⟨hc,hkf,hs,hbk,g1,g2,g3⟩:=hG
      have h7:=hc.no7 (by rw[hd];simp)
      obtain ⟨d4,n4⟩:=need 4 (by kernel_rfl) (by kernel_rfl)
      have e0:a.tmps[26]?.getD undef=.int .i64 y:=by
       exact og (n4)
      have hbw3:Below w3.heap.size w3 (w3.alloc (.cells #[.int .i64 y] 3)):=bR.alloc nL _
      refine qB (v:=.slice (some ⟨w3.heap.size,0,none⟩) 1 1) (w':=w3.alloc (.cells #[.int .i64 y] 3)) (qA rfl) ?_
       (hK _ _ ⟨w3.heap.size,rfl,hs,heap_alloc_new _ _⟩ ⟨hc.also λy hy e=>?_,hkf.trans (qP hbw3),Nat.le_trans hs hbw3.size,(hbw3.block _ (by omega)).trans hbk,λ_=>(g1 h7).more hbw3,λh6=>yp (g2 h6) λk _ _ _ ho _=>hbw3.block k (qD ho),λh=>absurd (h7.symm.trans h) (by decide)⟩ ?_)
      . simp[execOp,go_sem,e0]
      . simp[ve] at hy
        rcases hy with rfl | rfl | rfl | rfl | rfl | rfl | rfl<;>first | exact d4 | (exact absurd e (by decide))
      . intro j u hj hdj hu
        match j,hu with
        | 0,hu=>exact hu
        | 1,hu=>exact hu
        | 2,hu=>exact hu
        | 3,hu=>exact hu
        | 4,hu=>exact hu
        | 5,_=>exact absurd rfl hj
        | 6,hu=>exact ⟨yp hu.1 λk _ _ _ ho _=>hbw3.block k (qD ho),hu.2⟩
        | _+7,_=>trivial
    . intro a w3 d Kx hd hG need old hsz hK
      obtain ⟨hc,hkf,hs,hbk,g1,g2,g3⟩:=hG
      have h7:=hc.no7 (by rw[hd];simp)
      obtain ⟨d0,n0⟩:=need 0 (by kernel_rfl) (by kernel_rfl)
      obtain ⟨d5,Q,n5,hQ,hq⟩:=need 5 (by kernel_rfl) (by kernel_rfl)
      have hr2:=g2 hd
      have hB:=g1 h7
      have e0:a.tmps[22]?.getD undef=v2:=by
       exact og (n0)
      have e1:a.tmps[27]?.getD undef=.slice (some ⟨Q,0,none⟩) 1 1:=by
       exact og (n5)
      have hnews:∀(k:Nat) (u:Value),([.int .i64 y]:List Value)[k]? = some u->w3.cell? ((⟨Q,0,none⟩:Addr).add k)=some u:=λk u hu=>by
       rw[yAy]
       simp only[World.cell?,hq]
       simpa using hu
      refine zBm rfl (.tmp 22) (.tmp 27) 24 rfl w1.heap.size 3 i0 (.int .i64 0) 1 8 Tryz.underlying24 hi hz0 hz1 hz2 rfl (by decide) v2 L.length (L.map (Value.int .i64)) (by simp[go_sem,e0]) hr2 ⟨Q,0,none⟩ 1 1 [.int .i64 y] (by simp[go_sem,e1]) rfl hnews (by simp[Value.oneCell']) (by unfold maxLen;omega) (by omega) hB.sz ?_
      intro q2 cap2 w4 hown2 hg2 hob2
      have hnew:IOw w4 w1.heap.size (.slice q2 (L.length+1) cap2) (L++[y]):=by
       unfold IOw
       rw[List.length_append,List.map_append]
       exact hown2
      have hV1lt:=hB.row1.lt
      have hap:∀k,(Value.slice q2 (L.length+1) cap2).ownBlock=some k->V1.ownBlock≠some k:=λk hk e=>by
       rcases hob2 with h | h
       . exact (hB.own2 k (h.symm.trans hk)).2.2 e
       . rw[h] at hk
         simp at hk
         have:=(hV1lt k e).2
         omega
      refine hK _ w4 ⟨hnew,hap⟩ ⟨hc.also λy hy e=>?_,hkf.trans ((zNn hr2 hg2).from _),Nat.le_trans hs hg2.size,(hg2.block bw (by omega) λe=>by have:=(hB.own2 bw e.symm).1;omega).trans hbk,λ_=>hB.wrote hg2,λh6=>absurd h6 (by unfold also;simp),λh=>absurd (h7.symm.trans h) (by decide)⟩ ?_
      . simp[ve] at hy
        rcases hy with rfl | rfl | rfl | rfl | rfl | rfl | rfl<;>first | exact d0 | exact d5 | (exact absurd e (by decide))
      . intro j u hj hdj hu
        match j,hu with
        | 0,hu=>exact hu
        | 1,hu=>exact hu
        | 2,hu=>exact hu
        | 3,hu=>exact hu
        | 4,hu=>exact hu
        | 5,⟨Q',e,h1,h2⟩=>exact ⟨Q',e,h1,(hg2.block _ (qD h2) λe=>by have:=(HM1.out.1.own2 _ e.symm).2.1;omega).trans h2⟩
        | 6,_=>exact absurd rfl hj
        | _+7,_=>trivial
    . intro a w3 d Kx hd hG need old hsz hK
      obtain ⟨hc,hkf,hs,hbk,g1,g2,g3⟩:=hG
      obtain ⟨d6,hr6,hap⟩:=need 6 (by kernel_rfl) (by kernel_rfl)
      have hB:=g1 hd
      obtain ⟨A2,c2,hv2⟩:=qQ hr6
      have e0:a.tmps[5]?.getD undef=.pointer (some ⟨w.heap.size+1+1,0,none⟩):=by
       exact og (old 5 (by kernel_rfl))
      have e1:a.tmps[28]?.getD undef=.slice A2 (L++[y]).length c2:=by
       exact og (hv2)
      rw[hv2] at hr6 hap
      have cL:=hB.box2.cell
      have fL:=hB.box2.frozen
      refine zDp (qA rfl) (w':=w3.setCell ⟨w.heap.size+1+1,0,none⟩ (.slice A2 (L++[y]).length c2)) ?_ (hK _ _ trivial ⟨hc.also λy hy e=>?_,hkf.trans ((KeepsOthers.setCell _ _ _).from _),by simpa using hs,(Below.heap_setCell w3 ⟨w.heap.size+1+1,0,none⟩ _ bw hbi).trans hbk,λh=>absurd h (by unfold also;simp),λh=>absurd (d6.symm.trans h) (by decide),λ_=>⟨_,hB.stored hr6 hap⟩⟩ ?_)
      . simp[execOp,go_sem,e0,e1,cL,fL]
      . simp[ve] at hy
        rcases hy with rfl | rfl | rfl | rfl | rfl | rfl | rfl<;>first | exact d6 | (exact absurd e (by decide))
      . intro j u hj hdj hu
        match j,hu with
        | 0,hu=>exact hu
        | 1,hu=>exact hu
        | 2,hu=>exact hu
        | 3,hu=>exact hu
        | 4,hu=>exact hu
        | 5,⟨Q',e,h1,h2⟩=>exact ⟨Q',e,h1,(Below.heap_setCell w3 ⟨w.heap.size+1+1,0,none⟩ _ Q' (λe=>by have e':Q'=w.heap.size+1+1:=e;omega)).trans h2⟩
        | 6,hu=>exact ⟨yp hu.1 λk _ hk _ _ _=>Below.heap_setCell w3 ⟨w.heap.size+1+1,0,none⟩ _ k (λe=>by have e':k=w.heap.size+1+1:=e;omega),hu.2⟩
        | _+7,_=>trivial
   case hend =>
    intro a w' d hG hφ _ _ _
    obtain ⟨hc,hkf,hs,hbk,g1,g2,g3⟩:=hG
    obtain ⟨v2',h1⟩:=g3 (hφ 7 (by kernel_rfl)).1
    refine ⟨(HKO.out.from _).trans hkf,hbk.trans HBW.out,V1,v2',?_⟩
    rw[List.map_append,List.map_append,HP.out,HLL.out,List.map_singleton,List.map_singleton,HY.out]
    exact h1
  case hdone =>
   rintro D ys W hD rfl ⟨v1,v2,hM⟩ hK
   rw[HW.out.1,HW.out.2] at hM
   obtain ⟨p1,k1,rfl⟩:=qQ hM.1.row1
   obtain ⟨p2,k2,rfl⟩:=qQ hM.2
   have hc1:=hM.1.box1.cell
   have hc2:=hM.1.box2.cell
   have hf1:=hM.1.box1.frozen
   have hf2:=hM.1.box2.frozen
   have HM:=hI hM
   clear hM
   gi_wp2
   gi_region
   gi_wp2
   exact LkG.leave ((HM.out.again1.again).more bR.drew) rfl rfl (by have:=HS1.out;have:=HZ.out;omega) (((KeepsOthers.setCell W _ _).trans (KeepsOthers.setCell _ _ _)).same D _ hK rfl) _ (λW' h1 h2=>by simp[results,Tryz.f140,go_sem,h1,h2])
  case hstop =>
   rintro D c pre W hD hpre h hK
   exact h.elim
end
section
open Go.RowKit
theorem zXa {W:World} {B:Nat} {v:Value} {l:List Int} (h:IOw W B v l):RowL (Value.int .i64) W v l:=by
 rcases h.2 with ⟨rfl,h0⟩ | ⟨g,cap,cur,rfl,hg⟩
 . exact .inl ⟨rfl,List.eq_nil_of_length_eq_zero h0⟩
 . refine .inr ⟨⟨g,0,none⟩,cap,rfl,λj hj=>?_⟩
   have:=World.ownsRow.cellAt h j (by simpa using hj)
   rw[yAy,Nat.zero_add,this]
   simp[hj]
theorem best_at {α : Type} {bt : α -> α -> Bool} (O:Ord bt) (zs:List α):zs.reverse = []\/∃a,zDc bt zs.reverse a:=by
 induction zs with
 | nil=>exact .inl rfl
 | cons x r ih =>
  right
  rw[List.reverse_cons]
  rcases ih with h | ⟨a,h⟩
  . rw[h];exact ⟨0,zAt O x⟩
  . obtain ⟨ha,_⟩:=id h
    cases e:bt x r.reverse[a] with
    | true=>exact ⟨_,zCc O ha h x e⟩
    | false=>exact ⟨a,zCd ha h x e⟩
theorem zKi {α : Type} {bt : α -> α -> Bool} (O:Ord bt) (zs:List α):∃r,zVr bt zs r:=by
 have:=best_at O zs.reverse
 rw[List.reverse_reverse] at this
 rcases this with h | ⟨a,h⟩
 . exact ⟨-1,.inl ⟨h,rfl⟩⟩
 . exact ⟨a,zQv h⟩
theorem zTd {α : Type} {bt : α -> α -> Bool} {zs:List α} {r r':Int} (h:zVr bt zs r) (h':zVr bt zs r'):r=r':=by
 rcases h with ⟨h1,h2⟩ | ⟨a,ha,rfl,h1,h2⟩
 . rcases h' with ⟨_,h3⟩ | ⟨a',ha',_⟩
   . omega
   . subst h1;simp at ha'
 . rcases h' with ⟨h3,_⟩ | ⟨a',ha',rfl,h3,h4⟩
   . subst h3;simp at ha
   . rcases Nat.lt_trichotomy a a' with h | h | h
     . have i1:=h4 a h
       have i2:=h1 a' ha'
       rw[i1] at i2;cases i2
     . omega
     . have i1:=h2 a' h
       have i2:=h3 a ha
       rw[i1] at i2;cases i2
theorem zYw {v:Value} {l:List Int} {B:Nat} {r:Int} (hr:zVr zFw l r) (hl:l.length<=1000000) (w:World) (h:IOw w B v l):Calls Tryz.prog 141 #[v] w λe w'=>e=.returned (.int .i64 r)/\w=w':=by
 refine (zPy v l w (zXa h) (by omega)).mono ?_
 rintro e w' ⟨r',rfl,hr',rfl⟩
 exact ⟨ret_int (zTd hr' hr),rfl⟩
theorem zQe {v:Value} {l:List Int} {B:Nat} {r:Int} (hr:zVr zFy l r) (hl:l.length<=1000000) (w:World) (h:IOw w B v l):Calls Tryz.prog 142 #[v] w λe w'=>e=.returned (.int .i64 r)/\w=w':=by
 refine (zNs v l w (zXa h) (by omega)).mono ?_
 rintro e w' ⟨r',rfl,hr',rfl⟩
 exact ⟨ret_int (zTd hr' hr),rfl⟩
theorem low_q {v:Value} {l:List Int} {B:Nat} {r:Int} (hr:zVr zFw l r) (hl:l.length<=1000000) (w:World) (h:IOw w B v l) (n:Nat):Calls Tryz.prog 141 #[v] (w.drewN n) λe w'=>e=.returned (.int .i64 r)/\w'=w.drewN n :=
 (zYw hr hl (w.drewN n) (yp h λ_ _ _ _ _ _=>rfl)).mono λ_ _ h=>⟨h.1,h.2.symm⟩
theorem high_q {v:Value} {l:List Int} {B:Nat} {r:Int} (hr:zVr zFy l r) (hl:l.length<=1000000) (w:World) (h:IOw w B v l) (n:Nat):Calls Tryz.prog 142 #[v] (w.drewN n) λe w'=>e=.returned (.int .i64 r)/\w'=w.drewN n :=
 (zQe hr hl (w.drewN n) (yp h λ_ _ _ _ _ _=>rfl)).mono λ_ _ h=>⟨h.1,h.2.symm⟩
theorem zMq (v:Value) (w:World):Calls Tryz.prog 162 #[v,.int .i64 (-1)] w λe w'=>e=.returned (.int .i64 (-1))/\w=w':=by
 go_enter Tryz.func162,Tryz.ntmps162
 go_wp2_with fail
 go_ret
 exact ⟨rfl,rfl⟩
theorem zPp {W:World} {B:Nat} {v:Value} {l:List Int} (h:IOw W B v l) {a:Nat} (ha:a<l.length):∃g cap,v=.slice (some ⟨g,0,none⟩) l.length cap/\W.cell? ⟨g,a,none⟩=some (.int .i64 l[a]):=by
 rcases h.2 with ⟨_,h0⟩ | ⟨g,cap,cur,rfl,hg⟩
 . omega
 . refine ⟨g,cap,rfl,?_⟩
   have:=World.ownsRow.cellAt h a (by simpa using ha)
   rw[this]
   simp[ha]
theorem zXv {v:Value} {l:List Int} {B:Nat} (a:Nat) (ha:a<l.length) (w:World) (h:IOw w B v l):Calls Tryz.prog 162 #[v,.int .i64 (a:Int)] w λe w'=>e=.returned (.int .i64 l[a])/\w=w':=by
 obtain ⟨g,cap,rfl,hc⟩:=zPp h ha
 generalize l[a]=y at hc ⊢
 clear h
 go_enter Tryz.func162,Tryz.ntmps162
 go_wp2_with fail
 go_ret
 exact ⟨rfl,rfl⟩
def farP (lo hi:Int):Int:=if hi - lo<=9223372036854775807 then hi - lo else 9223372036854775807
theorem zQu (lo hi:Int) (w:World) (h1 : -9223372036854775808<=lo) (h2:hi<=9223372036854775807) (h3:lo<=hi):Calls Tryz.prog 111 #[.int .i64 lo,.int .i64 hi] w λe w'=>e=.returned (.int .i64 (farP lo hi))/\w=w':=by
 by_cases c1:lo<0
 . by_cases c2:9223372036854775807+lo<hi
   . go_enter Tryz.func111,Tryz.ntmps111
     go_wp2_with fail
     go_ret
     exact ⟨ret_int (by unfold farP;rw[if_neg (by omega)]),rfl⟩
   . go_enter Tryz.func111,Tryz.ntmps111
     go_wp2_with fail
     go_ret
     exact ⟨ret_int (by unfold farP;rw[if_pos (by omega)]),rfl⟩
 . go_enter Tryz.func111,Tryz.ntmps111
   go_wp2_with fail
   go_ret
   exact ⟨ret_int (by unfold farP;rw[if_pos (by omega)]),rfl⟩
section
variable (A A':Option Addr) (c c':Nat) (l:List Int) (b:List Bool) (w:World) (hl:l.length<=1000) (hb:b.length<=1000) (hA:IA w A l) (hA':BA w A' b) (hw:∀x∈l,(Lit.int .i64 x).wf=true) (hR:zHh A' c' b.length)
include hl hb hA hA' hw hR
theorem ends_any:Calls Tryz.prog 110 #[.slice A l.length c,.slice A' b.length c'] w λe w'=>e=.returned (.tuple #[.int .i64 (loP (l.zip b)),.int .i64 (hiP (l.zip b))])/\Below w.heap.size w w':=by
 have HLk:=hI (zJs A A' c c' l b w (by omega) (by omega) hA hA' hR)
 have hle:(qW (l.zip b)).length<=1000:=by
  have:=zJr (l.zip b)
  simp at this;omega
 obtain ⟨r1,hr1⟩:=zKi ord_ltInt (qW (l.zip b))
 obtain ⟨r2,hr2⟩:=zKi ord_gtInt (qW (l.zip b))
 have HR1:=hI hr1
 have HR2:=hI hr2
 have hrng:=zIq l b hw
 clear hA hA' hw hR
 generalize l.zip b=zs at *
 rcases zRv hr1 with ⟨hn,_,e1,e2,_⟩ | ⟨a,ha,_,rfl,ea,_⟩
 . have hn0:(qW zs).length=0:=by rw[hn];rfl
   have E:=hI (And.intro e1 e2)
   clear hr1 hr2 e1 e2 hn
   go_enter Tryz.func110,Tryz.ntmps110
   go_wp2_with (go_at_call 140;refine HLk.out.mono ?_;rintro e w1 ⟨v1,v2,rfl,h1,h2,hb1⟩;obtain ⟨p2,k2,rfl⟩:=qQ h2;rw[hn0])
   go_ret2
   refine ⟨?_,hb1⟩
   rw[E.out.1,E.out.2];rfl
 . rcases zNr hr2 with ⟨hn,_⟩ | ⟨a2,ha2,_,rfl,eb,_⟩
   . rw[hn] at ha;simp at ha
   . obtain ⟨n,hn⟩:∃n,(qW zs).length=n+1:=⟨(qW zs).length - 1,by omega⟩
     have E:=hI (And.intro ea eb)
     have HN:=hI hn
     clear hr1 hr2 ea eb hn
     go_enter Tryz.func110,Tryz.ntmps110
     go_wp2_with (go_at_call 140;refine HLk.out.mono ?_;rintro e w1 ⟨v1,v2,rfl,h1,h2,hb1⟩;obtain ⟨g,cap,rfl,c1⟩:=zPp h2 ha;rw[E.out.1] at c1;obtain ⟨g2,cap2,hv2,c2⟩:=zPp h2 ha2;cases hv2;rw[E.out.2] at c2;have HLo:=hI (low_q HR1.out (by omega) w1 h2);have HHi:=hI (high_q HR2.out (by omega) w1 h2);clear h1 h2)
     go_quiet (first | (go_at_call 141;refine Calls.quiet_of_same (HLo.out _)) | (go_at_call 142;refine Calls.quiet_of_same (HHi.out _)))
     go_wp2_with fail
     go_ret2
     exact ⟨rfl,qS hb1 _⟩
theorem zOo:Calls Tryz.prog 77 #[.slice A l.length c,.slice A' b.length c'] w λe w'=>e=.returned (.int .i64 (vk (l.zip b)))/\Below w.heap.size w w':=by
 have HE:=hI (ends_any A A' c c' l b w hl hb hA hA' hw hR)
 have hrng:=zIq l b hw
 have hlo:=lo_le_hi (l.zip b)
 have HB:=hI (λW=>zQu (loP (l.zip b)) (hiP (l.zip b)) W hrng.1.1 hrng.2.2 hlo)
 have HP:=hI (show farP (loP (l.zip b)) (hiP (l.zip b))=vk (l.zip b) from rfl)
 clear hA hA' hw hR hrng hlo
 go_enter Tryz.func77,Tryz.ntmps77
 go_wp2_with (first
  | (go_at_call 110;refine HE.out.mono ?_;rintro e w1 ⟨rfl,h1⟩)
  | (go_at_call 111;refine (HB.out _).mono ?_;rintro e w2 ⟨rfl,rfl⟩))
 go_ret
 exact ⟨ret_int HP.out,h1⟩
theorem zTa:Calls Tryz.prog 147 #[.slice A l.length c,.slice A' b.length c'] w λe w'=>e=.returned (.int .i64 (zCb (l.zip b)))/\Below w.heap.size w w':=by
 have HLk:=hI (zJs A A' c c' l b w (by omega) (by omega) hA hA' hR)
 have hle:(qW (l.zip b)).length<=1000:=by
  have:=zJr (l.zip b)
  simp at this;omega
 obtain ⟨r1,hr1⟩:=zKi ord_ltInt (qW (l.zip b))
 have HR1:=hI hr1
 have _k:=hw
 clear hA hA' hw hR _k
 generalize l.zip b=zs at *
 have hle6:(qW zs).length<=1000000:=by omega
 rcases zRv hr1 with ⟨-,rfl,-,-,e3,-⟩ | ⟨a,-,hp,rfl,-,e3⟩
 . have E:=hI e3
   clear hr1 e3
   go_enter Tryz.func147,Tryz.ntmps147
   go_wp2_with (first
    | (go_at_call 140;refine HLk.out.mono ?_;rintro e w1 ⟨v1,v2,rfl,h1,h2,hb1⟩;have H1:=hI h1;have H2:=hI h2;obtain ⟨p1,k1,rfl⟩:=qQ h1;obtain ⟨p2,k2,rfl⟩:=qQ h2;have HLo:=hI (zYw HR1.out hle6 w1 h2);clear h1 h2)
    | (go_at_call 141;refine HLo.out.mono ?_;rintro e w2 ⟨rfl,rfl⟩)
    | (go_at_call 162;refine (zMq _ _).mono ?_;rintro e w2 ⟨rfl,rfl⟩))
   go_ret
   exact ⟨ret_int E.out.symm,hb1⟩
 . have E:=hI e3
   clear hr1 e3
   go_enter Tryz.func147,Tryz.ntmps147
   go_wp2_with (first
    | (go_at_call 140;refine HLk.out.mono ?_;rintro e w1 ⟨v1,v2,rfl,h1,h2,hb1⟩;have H1:=hI h1;have H2:=hI h2;obtain ⟨p1,k1,rfl⟩:=qQ h1;obtain ⟨p2,k2,rfl⟩:=qQ h2;have HLo:=hI (zYw HR1.out hle6 w1 h2);clear h1 h2)
    | (go_at_call 141;refine HLo.out.mono ?_;rintro e w2 ⟨rfl,rfl⟩)
    | (go_at_call 162;refine (zXv a hp _ H1.out).mono ?_;rintro e w2 ⟨rfl,rfl⟩))
   go_ret
   exact ⟨ret_int E.out,hb1⟩
theorem hot_any:Calls Tryz.prog 188 #[.slice A l.length c,.slice A' b.length c'] w λe w'=>e=.returned (.int .i64 (hotP (l.zip b)))/\Below w.heap.size w w':=by
 have HLk:=hI (zJs A A' c c' l b w (by omega) (by omega) hA hA' hR)
 have hle:(qW (l.zip b)).length<=1000:=by
  have:=zJr (l.zip b)
  simp at this;omega
 obtain ⟨r1,hr1⟩:=zKi ord_gtInt (qW (l.zip b))
 have HR1:=hI hr1
 have _k:=hw
 clear hA hA' hw hR _k
 generalize l.zip b=zs at *
 have hle6:(qW zs).length<=1000000:=by omega
 rcases zNr hr1 with ⟨-,rfl,-,-,-,e3⟩ | ⟨a,-,hp,rfl,-,e3⟩
 . have E:=hI e3
   clear hr1 e3
   go_enter Tryz.func188,Tryz.ntmps188
   go_wp2_with (first
    | (go_at_call 140;refine HLk.out.mono ?_;rintro e w1 ⟨v1,v2,rfl,h1,h2,hb1⟩;have H1:=hI h1;have H2:=hI h2;obtain ⟨p1,k1,rfl⟩:=qQ h1;obtain ⟨p2,k2,rfl⟩:=qQ h2;have HLo:=hI (zQe HR1.out hle6 w1 h2);clear h1 h2)
    | (go_at_call 142;refine HLo.out.mono ?_;rintro e w2 ⟨rfl,rfl⟩)
    | (go_at_call 162;refine (zMq _ _).mono ?_;rintro e w2 ⟨rfl,rfl⟩))
   go_ret
   exact ⟨ret_int E.out.symm,hb1⟩
 . have E:=hI e3
   clear hr1 e3
   go_enter Tryz.func188,Tryz.ntmps188
   go_wp2_with (first
    | (go_at_call 140;refine HLk.out.mono ?_;rintro e w1 ⟨v1,v2,rfl,h1,h2,hb1⟩;have H1:=hI h1;have H2:=hI h2;obtain ⟨p1,k1,rfl⟩:=qQ h1;obtain ⟨p2,k2,rfl⟩:=qQ h2;have HLo:=hI (zQe HR1.out hle6 w1 h2);clear h1 h2)
    | (go_at_call 142;refine HLo.out.mono ?_;rintro e w2 ⟨rfl,rfl⟩)
    | (go_at_call 162;refine (zXv a hp _ H1.out).mono ?_;rintro e w2 ⟨rfl,rfl⟩))
   go_ret
   exact ⟨ret_int E.out,hb1⟩
theorem due_any (most:Int) (_hm:(Lit.int .i64 most).wf=true):Calls Tryz.prog 195 #[.slice A l.length c,.slice A' b.length c',.int .i64 most] w λe w'=>e=.returned (.int .i64 (dueP (l.zip b) most))/\Below w.heap.size w w':=by
 have HE:=hI (zOo A A' c c' l b w hl hb hA hA' hw hR)
 have HC:Hid (∀w1,Below w.heap.size w w1->Calls Tryz.prog 147 #[.slice A l.length c,.slice A' b.length c'] w1 λe w'=>e=.returned (.int .i64 (zCb (l.zip b)))/\Below w1.heap.size w1 w'):=hI λw1 h1=>zTa A A' c c' l b w1 hl hb (hA.below h1) (hA'.below h1) hw hR
 clear hA hA' hw hR
 by_cases hd:vk (l.zip b)<=most
 . have HD:=hI (show dueP (l.zip b) most = -1 from if_pos hd)
   generalize vk (l.zip b)=ap at *
   go_enter Tryz.func195,Tryz.ntmps195
   go_wp2_with (go_at_call 77;refine HE.out.mono ?_;rintro e w1 ⟨rfl,h1⟩)
   go_ret
   exact ⟨ret_int HD.out.symm,h1⟩
 . have HD:=hI (show dueP (l.zip b) most=zCb (l.zip b) from if_neg hd)
   generalize vk (l.zip b)=ap at *
   go_enter Tryz.func195,Tryz.ntmps195
   go_wp2_with (first
    | (go_at_call 77;refine HE.out.mono ?_;rintro e w1 ⟨rfl,h1⟩)
    | (go_at_call 147;refine (HC.out w1 h1).mono ?_;rintro e w2 ⟨rfl,h2⟩))
   go_ret
   exact ⟨ret_int HD.out.symm,h1.trans (h2.mono h1.size)⟩
end
end
end Go.Proofs.YtinkkmlbhkfmnaaGreat
