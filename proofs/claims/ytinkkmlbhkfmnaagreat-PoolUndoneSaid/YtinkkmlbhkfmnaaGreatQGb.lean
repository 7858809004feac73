/- A part of what the last text proves: Gb. -/
import Derived.RangeFuncNested
import Derived.RangeFuncBound
import Derived.RangeFuncCalls
import Derived.RangeFuncLeaves
import Derived.Shelf.Abstract
import Derived.Shelf.RegionOpen
import Derived.OwnWalkIn
import Derived.TacticsInMore
import Derived.LoopNIn
import Derived.LoopIn
import Derived.RegionIn
import Derived.RegionTactic
import Derived.Orders
import Derived.OrdersIn
import Derived.Test.YtinkkmlbhkfmnaaGreatQGa
set_option maxRecDepth 100000
set_option maxHeartbeats 8000000
namespace Go.Proofs.YtinkkmlbhkfmnaaGreat
section
open Go.RowKit Go.Shelf
theorem zBs (x n:Int) (h1:1<=n) : -n<x.tmod n/\x.tmod n<n:=by
 have:=Int.tmod_lt_of_pos x (show 0<n by omega)
 have:=Int.lt_tmod_of_pos x (show 0<n by omega)
 omega
theorem zKd (x n:Int) (h1:1<=n) (h:x.tmod n<0):x % n=x.tmod n+n:=by
 have hb:=zBs x n h1
 have e1:x=n * (x.tdiv n)+x.tmod n:=by have:=Int.mul_tdiv_add_tmod x n;omega
 have e2:x=(x.tmod n+n)+n * (x.tdiv n - 1):=by rw[Int.mul_sub];omega
 rw[e2,Int.add_mul_emod_self_left]
 rw[<- e2]
 exact Int.emod_eq_of_lt (by omega) (by omega)
theorem zKc (x n:Int) (h1:1<=n) (h:0<=x.tmod n):x % n=x.tmod n:=by
 have hb:=zBs x n h1
 have e2:x=x.tmod n+n * (x.tdiv n):=by have:=Int.mul_tdiv_add_tmod x n;omega
 rw[e2,Int.add_mul_emod_self_left]
 rw[<- e2]
 exact Int.emod_eq_of_lt (by omega) (by omega)
theorem zUj (x n:Int) (w:World) (h1:1<=n) (h2:n<=9223372036854775807) :
 Calls Tryz.prog 84 #[.int .i64 x,.int .i64 n] w λe w'=>e=.returned (.int .i64 (x % n))/\w=w':=by
 have hb:=zBs x n h1
 obtain ⟨hb1,hb2⟩:=hb
 go_enter Tryz.func84,Tryz.ntmps84
 go_wp2
 . have hlt:x.tmod n<0:=by assumption
   go_ret
   exact ⟨ret_int (by rw[zKd x n h1 hlt]),rfl⟩
 . have hlt:0<=x.tmod n:=by assumption
   go_ret
   exact ⟨ret_int (by rw[zKc x n h1 hlt]),rfl⟩
theorem yf (n from_:Int) (w:World) :
 Calls Tryz.prog 47 #[.int .i64 n,.int .i64 from_] w λe w'=>e=.returned (.func (.func 83) #[] #[.pointer (some ⟨w.heap.size,0,none⟩),.pointer (some ⟨w.heap.size+1,0,none⟩)])/\w'=(w.alloc (.cells #[.int .i64 n] 3)).alloc (.cells #[.int .i64 from_] 3):=by
 go_enter Tryz.func47,Tryz.ntmps47
 go_wp2
 go_ret
 exact ⟨rfl,rfl⟩
attribute [local go_sem] Oper.semAt_some
theorem zXd {F:Fence} (hd:F.depth=none) (k:Nat):F.room k:=λd h=>by rw[hd] at h;cases h
theorem zRb {F:Fence} (hd:F.depth=none) {m m':Nat} {P:Program} {l:Nat} {f:FuncId} {tmps:Array Value} {assign body:Code} {w:World} {R:Ending->World->Prop}
 (h:RoundIn F m P l f tmps assign body w R):RoundIn F m' P l f tmps assign body w R:=⟨h.1,λc cs _=>h.2 c cs (zXd hd _)⟩
theorem zQz {F:Fence} (hd:F.depth=none) {m:Nat} (m':Nat) {P:Program} {l:Nat} {args:Array Value} {W:World} {R:Ending->World->Prop} (h:YieldAt F m P l args W R):YieldAt F m' P l args W R:=by
 obtain ⟨fn,tmps,assign,body,hy,hR⟩:=h
 exact ⟨fn,tmps,assign,body,hy,zRb hd hR⟩
theorem zDf (k:Nat):Fence.wide.depth.isSome=true->1<=k:=λh=>by cases h
def ints (a k:Nat):List Int:=(List.range k).map λj:Nat=>(a:Int)+(j:Int)
abbrev zGy {α : Type} (Kp:World->World->Prop) (J Jx:List α -> World->Prop) (pre:List α) (x : α) (W:World) (e:Ending) (W':World):Prop :=
 (e=.returned (.bool true)/\J (pre++[x]) W'/\Kp W W')\/(e=.returned (.bool false)/\Jx (pre++[x]) W')
def KeepsBlk (b:Nat) (W W':World):Prop:=W'.heap[b]? = W.heap[b]?
theorem KeepsBlk.refl (b:Nat) (W:World):KeepsBlk b W W:=rfl
theorem KeepsBlk.trans {b:Nat} {X Y Z:World} (h:KeepsBlk b X Y) (k:KeepsBlk b Y Z):KeepsBlk b X Z:=Eq.trans k h
theorem KeepsBlk.cell {b:Nat} {X Y:World} (h:KeepsBlk b X Y) (o:Nat):Y.cell? ⟨b,o,none⟩=X.cell? ⟨b,o,none⟩:=World.cell?_of_block h
theorem KeepsBlk.of_below {n₀ b:Nat} {X Y:World} (h:Below n₀ X Y) (hb:b<n₀):KeepsBlk b X Y:=h.block b hb
theorem zUn {b:Nat} {w:World} (hb:b<w.heap.size) (W:World) (l:Nat) (o o':Obj) (hl:w.heap.size<=l) (_:W.heap[l]? = some o) (_:o.isCells=false) (_:o.isWalk=false):KeepsBlk b W (W.putObj l o') :=
 World.putObj_heap_other (by omega)
theorem func_nil (f:Fn) (a b:Array Value) (w:World):Sem.run Tryz.prog (binOp BinOp.eql 129 (.func f a b) .nilFunc) w=.ok (.bool false) w:=by kernel_rfl
def yBc {α : Type} (J Jx:List α -> World->Prop) (xs:List α) (e:Ending) (W':World):Prop :=
 (∃v,e=.returned v)/\((∃ys,ys=xs/\J ys W')\/(∃pre,pre <+: xs/\Jx pre W'))
theorem vu:∀args w,(callFunc 83 args).run Tryz.prog w=.ok (.enter 83 args) w:=enters_of Tryz.func83 (by kernel_rfl) rfl
end
section
open Go.RowKit Go.Shelf
attribute [local go_sem] Oper.semAt_some
theorem yc {N k:Nat} (h:k<N):(List.finRange N).take (k+1)=(List.finRange N).take k++[⟨k,h⟩]:=by
 rw[List.take_add_one,List.getElem?_eq_getElem (by simpa using h)]
 simp
theorem zQi (N:Nat):(List.finRange N).take N=List.finRange N:=List.take_of_length_le (by simp)
theorem zSp {N:Nat} {pre:List (Fin N)} {x:Fin N} (h:pre++[x] <+: List.finRange N):pre=(List.finRange N).take x.val:=by
 have hl:=h.length_le
 rw[List.length_append] at hl
 simp at hl
 have e:=List.prefix_iff_eq_take.1 h
 rw[List.length_append,List.length_singleton,yc (by omega)] at e
 obtain ⟨e1,e2⟩:=List.append_inj e (by rw[List.length_take];simp;omega)
 have:x.val=pre.length:=by injection e2 with e2 _;rw[e2]
 rw[this];exact e1
theorem zEj {N k:Nat} {y:Fin N} (h:y.val<k):y∈(List.finRange N).take k:=by
 rw[List.mem_iff_getElem?]
 exact ⟨y.val,by rw[List.getElem?_take,if_pos h,List.getElem?_eq_getElem (by simp)];simp⟩
section
variable {N:Nat}
theorem run_fin (Kp:World->World->Prop) (n l:Nat) (hN:N<=9223372036854775807) (J Jx:List (Fin N)->World->Prop)
 (hY:∀m pre (x:Fin N) W,J pre W->pre.length<N->YieldAt Fence.wide m Tryz.prog l #[.int .i64 (x.val:Int)] W (zGy Kp J Jx pre x W))
 (W:World) (h0:J [] W) :
 CallsIn Fence.wide n Tryz.prog 85 #[.int .i64 0,.int .i64 N,.func (.yield l) #[] #[]] W (λe W'=>(e=.returned (.bool true)/\J (List.finRange N) W')\/(e=.returned (.bool false)/\∃q,q <+: List.finRange N/\Jx q W')):=by
 refine callsIn_of_wp Tryz.func85 rfl trivial ?_ rfl
 simp only[Tryz.ntmps85,List.size_toArray,List.length_cons,List.length_nil,Nat.reduceAdd,Nat.reduceSub,Array.replicate_succ,Array.replicate_zero,List.push_toArray,List.append_toArray,List.nil_append,List.cons_append]
 gi_wp2
 gi_loopw [7] (λi wr=>∃k:Nat,k<=N/\i=.int .i64 (k:Int)/\J ((List.finRange N).take k) wr)
  (λi _=>N - (intOf i).toNat)
 case atStart=>exact ⟨0,Nat.zero_le _,by simp,by simpa using h0⟩
 case round =>
  obtain ⟨k,hk,rfl,hJs⟩:=hrel
  by_cases hlt:k<N
  . obtain ⟨fn,tmps,assign,body,hy,hR⟩:=hY (n - 1) _ ⟨k,hlt⟩ wr hJs (by rw[List.length_take];simp;omega)
    gi_wp2_with fail
    refine ⟨zDf _,hR.mono ?_⟩
    rintro e W3 (⟨rfl,hJ3,hk3⟩ | ⟨rfl,hJx3⟩)
    . gi_wp2
      go_roundw
      case rel=>exact ⟨k+1,by omega,by simp,by rw[yc hlt];exact hJ3⟩
      case measure=>simp[intOf];omega
    . gi_wp2
      go_ret
      exact .inr ⟨rfl,(List.finRange N).take (k+1),List.take_prefix _ _,by rw[yc hlt];exact hJx3⟩
  . obtain rfl:k=N:=by omega
    gi_wp2
    go_ret
    exact .inl ⟨rfl,by rw[zQi] at hJs;exact hJs⟩
theorem run_none (n:Nat) (v:Value) (W:World):CallsIn Fence.wide n Tryz.prog 85 #[.int .i64 0,.int .i64 0,v] W (λe W'=>e=.returned (.bool true)/\W'=W):=by
 refine callsIn_of_wp Tryz.func85 rfl trivial ?_ rfl
 simp only[Tryz.ntmps85,List.size_toArray,List.length_cons,List.length_nil,Nat.reduceAdd,Nat.reduceSub,Array.replicate_succ,Array.replicate_zero,List.push_toArray,List.append_toArray,List.nil_append,List.cons_append]
 gi_wp2
 gi_loopw [7] (λi wr=>i=.int .i64 0/\wr=W) (λ_ _=>0)
 case atStart=>exact ⟨rfl,rfl⟩
 case round =>
  obtain ⟨rfl,rfl⟩:=hrel
  gi_wp2
  go_ret
  exact ⟨rfl,rfl⟩
theorem turn_fin (Kp:World->World->Prop) (n l Bn Bf:Nat) (hN:N<=9223372036854775807) (h1:1<=N) (J Jx:List (Fin N)->World->Prop)
 (hY:∀m pre (x:Fin N) W,J pre W->pre.length<N->YieldAt Fence.wide m Tryz.prog l #[.int .i64 (x.val:Int)] W (zGy Kp J Jx pre x W))
 (W:World) (hc1:W.cell? ⟨Bn,0,none⟩=some (.int .i64 N)) (hc2:W.cell? ⟨Bf,0,none⟩=some (.int .i64 0)) (h0:J [] W) :
 CallsIn Fence.wide n Tryz.prog 83 #[.func (.yield l) #[] #[],.pointer (some ⟨Bn,0,none⟩),.pointer (some ⟨Bf,0,none⟩)] W (yBc J Jx (List.finRange N)):=by
 have hmod:=(zUj 0 (N:Int) W (by omega) (by omega)).mono (R':=λe w'=>e=.returned (.int .i64 0)/\W=w') (λe w' h=>by rw[Int.zero_emod] at h;exact h)
 have h1n:¬(N:Int)<1:=by omega
 refine callsIn_of_wp Tryz.func83 rfl trivial ?_ rfl
 simp only[Tryz.ntmps83,List.size_toArray,List.length_cons,List.length_nil,Nat.reduceAdd,Nat.reduceSub,Array.replicate_succ,Array.replicate_zero,List.push_toArray,List.append_toArray,List.nil_append,List.cons_append]
 have hnf:=func_nil
 have hr1:=run_fin Kp (n - 1) l hN J Jx hY W h0
 have hr2:=λw1=>run_none (n - 1) (.func (.yield l) #[] #[]) w1
 gi_wp2_with (first
  | (refine ⟨trivial,zDf _,?_⟩;gi_at_call 84;refine (callsIn_wide.2 hmod).mono ?_;clear hmod;rintro e w1 ⟨rfl,rfl⟩)
  | (refine ⟨trivial,zDf _,?_⟩;gi_at_call 85;refine hr1.mono ?_;clear hr1;rintro e w1 (⟨rfl,hJ1⟩ | ⟨rfl,q,hq,hx⟩))
  | (refine ⟨trivial,zDf _,?_⟩;gi_at_call 85;refine (hr2 _).mono ?_;clear hr2;rintro e w2 ⟨rfl,rfl⟩))
 . go_end0
   exact ⟨⟨_,rfl⟩,.inl ⟨_,rfl,hJ1⟩⟩
 . go_end0
   exact ⟨⟨_,rfl⟩,.inr ⟨_,hq,hx⟩⟩
abbrev encF (x:Fin N):Array Value:=#[Value.int .i64 (x.val:Int)]
theorem vC (Kp:World->World->Prop) (n Bn Bf:Nat) (hN:N<=9223372036854775807) (h1:1<=N) (w:World) (hBn:Boxed w Bn 3 (.int .i64 (N:Int))) (hBf:Boxed w Bf 3 (.int .i64 0)) :
 SeqStopsK Fence.wide n Tryz.prog 83 #[.pointer (some ⟨Bn,0,none⟩),.pointer (some ⟨Bf,0,none⟩)] encF Kp (λys=>ys=List.finRange N) (λpre=>pre <+: List.finRange N) N w:=λl J Jx W hW _ _ hY h0 =>
 turn_fin Kp n l Bn Bf hN h1 J Jx (λm' pre x W hj hl=>zQz rfl m' (hY pre x W hj hl)) W ((hW.cell (p:=⟨Bn,0,none⟩) hBn.lt).trans hBn.cell) ((hW.cell (p:=⟨Bf,0,none⟩) hBf.lt).trans hBf.cell) h0
end
end
section
open Go.RowKit Go.Shelf
attribute [local go_sem] Oper.semAt_some
section
variable {w W W':World} {p q cap:Nat} {g:Nat->Nat} {C:Nat->Prop} {S:LS}
theorem qm {b:Nat} {cs:Array Value} {t:TypeId} {fr:Nat × Nat} {row:Option Nat} (h:W.heap[b]? = some (.cells cs t fr)) (hg:W.grownBy W' row) (hrow:∀r,row=some r->∃o:Obj,W.heap[r]? = some o/\o.isCells=false):W'.heap[b]? = W.heap[b]? :=
 hg.block b (qD h) λe=>by
  obtain ⟨o,ho,hc⟩:=hrow b e.symm
  rw[h] at ho;cases ho;cases hc
theorem CB.grown {A:Option Addr} {l:List UInt8} {row:Option Nat} (h:CB W C A l) (hg:W.grownBy W' row) (hrow:∀r,row=some r->∃o:Obj,W.heap[r]? = some o/\o.isCells=false):CB W' C A l:=λhn=>by
 obtain ⟨ad,e,hb,hc⟩:=h hn
 exact ⟨ad,e,hb,λj hj=>cell_kept (hc j hj) hg hrow⟩
theorem LAt.grown {row:Option Nat} (h:LAt W p q cap g C S) (hg:W.grownBy W' row) (hrow:∀r,row=some r->∃o:Obj,W.heap[r]? = some o/\o.isCells=false):LAt W' p q cap g C S :=
 { h with
   self:=(qm h.self hg hrow).trans h.self
   plain:=by obtain ⟨cs,t,e⟩:=h.plain;exact ⟨cs,t,(qm e hg hrow).trans e⟩
   blocks:=λi hi=>by
    have o:=h.blocks i hi
    exact {
     bad:=cell_kept o.bad hg hrow
     next:=cell_kept o.next hg hrow
     count:=cell_kept o.count hg hrow
     row:=cell_kept o.row hg hrow
     len:=o.len
     plain:=by obtain ⟨cs,t,e⟩:=o.plain;exact ⟨cs,t,(qm e hg hrow).trans e⟩
     pages:=λj hj=>by
      obtain ⟨A,c,h1,h2,h4,h3⟩:=o.pages j hj
      exact ⟨A,c,cell_kept h1 hg hrow,h2,h4,h3.grown hg hrow⟩
     nextIn:=o.nextIn }
   cl:=λb hb=>Nat.lt_of_lt_of_le (h.cl b hb) hg.size }
theorem at_own {β : Type} (p q cap:Nat) (g:Nat->Nat) (C:Nat->Prop) (f : β -> LS):Go.Own (λs W=>LAt W p q cap g C (f s)):=λ_ _ _ _ hs hg hrow=>hs.grown hg hrow
theorem zBo {β : Type} {F:Nat->Prop} {B:Nat} (hB:w.heap.size<=B):OwnFrom B (λ(_ : β) W=>Turned F w W):=λs X Y row hs hg hr =>
 ⟨hg.os.trans hs.os,hg.tape.trans hs.tape,hg.output.trans hs.output,Nat.le_trans hs.size hg.size,λi hi hF=>(hg.block i (Nat.lt_of_lt_of_le hi hs.size) (λe=>by have:=(hr i e.symm).1;omega)).trans (hs.block i hi hF)⟩
end
def clr (l:List (List UInt8)) (j:Nat):List (List UInt8):=List.replicate (min j l.length) []++l.drop j
theorem clr_zero (l:List (List UInt8)):clr l 0=l:=by simp[clr]
theorem zEb (l:List (List UInt8)) (j:Nat):(clr l j).length=l.length:=by simp[clr];omega
theorem yAo (l:List (List UInt8)) (j k:Nat):(clr l j)[k]? = if k<min j l.length then some [] else l[k]? :=by
 unfold clr
 by_cases hk:k<min j l.length
 . rw[List.getElem?_append_left (by simpa using hk),if_pos hk,List.getElem?_replicate,if_pos hk]
 . rw[List.getElem?_append_right (by simpa using hk),if_neg hk,List.length_replicate,List.getElem?_drop]
   by_cases h2:j<=l.length
   . rw[Nat.min_eq_left h2] at hk ⊢
     congr 1;omega
   . rw[Nat.min_eq_right (by omega)] at hk ⊢
     rw[List.getElem?_eq_none (by omega),List.getElem?_eq_none (by omega)]
theorem clr_step (l:List (List UInt8)) (j:Nat) (h:j<l.length):(clr l j).set j []=clr l (j+1):=by
 apply List.ext_getElem?
 intro k
 rw[yAo,List.getElem?_set,yAo,zEb]
 by_cases e:j=k
 . subst e;simp[h];omega
 . rw[if_neg e]
   by_cases hk:k<min j l.length
   . rw[if_pos hk,if_pos (by omega)]
   . rw[if_neg hk,if_neg (by omega)]
def zVt {N:Nat} (l:List (List UInt8)) (pre:List (Fin N)):List (List UInt8):=pre.foldl (λl x=>l.set x.val []) l
theorem zGi {N:Nat} (l:List (List UInt8)) (pre:List (Fin N)) (x:Fin N):zVt l (pre++[x])=(zVt l pre).set x.val []:=by simp[zVt]
theorem zGh {N:Nat} (l:List (List UInt8)) (hl:l.length=N) (k:Nat) (hk:k<=N):zVt l ((List.finRange N).take k)=clr l k:=by
 induction k with
 | zero=>rw[clr_zero];rfl
 | succ k ih=>rw[yc (by omega),zGi,ih (by omega),clr_step l k (by omega)]
theorem clr_over (l:List (List UInt8)) (j:Nat) (h:l.length<=j):clr l l.length=clr l j:=by
 simp[clr,Nat.min_eq_right h,List.drop_eq_nil_of_le h]
def vZ (b:Bk) (k np:Nat):Bk := { b with next:=if np<=k then 0 else (np:Int),pages:=clr b.pages k }
section
variable {p q cap:Nat} {g:Nat->Nat} {C:Nat->Prop} {S:LS} {w:World}
theorem vj {F:Fence} {n:Nat} {P:Program} {Q:Exit->Act->World->Prop} {a:Act} {W:World} {c:Code} (h:∀W2,W2=W->c.wpIn F n P Q a W2):c.wpIn F n P Q a W:=h W rfl
theorem LAt.next_set (h:LAt w p q cap g C S) {i:Nat} (hi:i<S.bl.length) {v:Int} (hv:0<=v/\v<=S.np):LAt (w.setCell ⟨q,i * 4+1,none⟩ (.int .i64 v)) p q cap g C { S with bl:=S.bl.set i { S.bl[i] with next:=v } } :=
 h.row_set (m:=1) (b := { S.bl[i] with next:=v }) hi (by omega) rfl hv rfl rfl rfl
theorem LAt.next_set2 (h:LAt w p q cap g C S) {i:Nat} (hi:i<S.bl.length) {u v:Int} (hu:0<=u/\u<=S.np) (hv:0<=v/\v<=S.np):LAt ((w.setCell ⟨q,i * 4+1,none⟩ (.int .i64 u)).setCell ⟨q,i * 4+1,none⟩ (.int .i64 v)) p q cap g C { S with bl:=S.bl.set i { S.bl[i] with next:=v } } :=by
 have:=(h.next_set hi hu).next_set (i:=i) (by simpa using hi) (v:=v) hv
 simpa using this
def emptied (S:LS) (i:Nat) (hi:i<S.bl.length) (nx:Int) (l:List (List UInt8)):LS := { S with bl:=S.bl.set i { S.bl[i] with next:=nx,pages:=l } }
structure EMid (w W:World) (p q cap:Nat) (g:Nat->Nat) (C:Nat->Prop) (S:LS) (i:Nat) (hi:i<S.bl.length) (nx:Int) (l:List (List UInt8)) (k:Nat):Prop where
 chip:LAt W p q cap g C (emptied S i hi nx l)
 boxB:Boxed W w.heap.size 200 (.pointer (some ⟨q,i * 4,none⟩))
 boxK:Boxed W (w.heap.size+1) 3 (.int .i64 k)
 turned:Turned (λb=>b=q\/b=g i) w W
theorem zEw {β : Type} {B:Nat} (hB:w.heap.size<=B) (i:Nat) (hi:i<S.bl.length) (nx:Int) (f : β -> List (List UInt8)) (k:Nat):OwnFrom B (λs W=>EMid w W p q cap g C S i hi nx (f s) k):=λs X Y row hs hg hr =>
 ⟨at_own p q cap g C (λs=>emptied S i hi nx (f s)) s X Y row hs.chip hg (λr e=>(hr r e).2),boxed_own w.heap.size _ (λ_ : β => .pointer (some ⟨q,i * 4,none⟩)) s X Y row hs.boxB hg (λr e=>(hr r e).2),boxed_own (w.heap.size+1) _ (λ_ : β => .int .i64 (k:Int)) s X Y row hs.boxK hg (λr e=>(hr r e).2),zBo hB s X Y row hs.turned hg hr⟩
theorem EMid.facts {W:World} {i k j:Nat} {hi:i<S.bl.length} {nx:Int} {l:List (List UInt8)} (h:EMid w W p q cap g C S i hi nx l k) (hj:j<S.np) :
 W.cell? ⟨w.heap.size,0,none⟩=some (.pointer (some ⟨q,i * 4,none⟩))/\W.cell? ⟨w.heap.size+1,0,none⟩=some (.int .i64 k)/\W.cell? ⟨q,i * 4+3,none⟩=some (.slice (some ⟨g i,0,none⟩) S.np S.np)/\(∃v,W.cell? ⟨g i,j,none⟩=some v)/\W.frozen? ⟨g i,j,none⟩=false:=by
 have hb:=h.chip.blocks i (by simpa[emptied] using hi)
 obtain ⟨cs,ct,hg⟩:=hb.plain
 obtain ⟨A,c,hpg,_⟩:=hb.pages j (by rw[hb.len];exact hj)
 exact ⟨h.boxB.cell,h.boxK.cell,hb.row,⟨_,hpg⟩,qO hg j⟩
theorem EMid.set {W:World} {i k j:Nat} {hi:i<S.bl.length} {nx:Int} {l:List (List UInt8)} (h:EMid w W p q cap g C S i hi nx l k) (hw:g i<w.heap.size):EMid w (W.setCell ⟨g i,j,none⟩ (.slice none 0 0)) p q cap g C S i hi nx (l.set j []) k where
 chip:=by
  have hi':i<(emptied S i hi nx l).bl.length:=by simpa[emptied] using hi
  have:=h.chip.page_set (D:=C) (j:=j) (c:=0) (A:=none) (l:=[]) hi' (by simp) (by simp) (λ_ h=>h) (λb hb=>⟨h.chip.cp b hb,h.chip.cl b hb⟩) .nil
  simpa[emptied] using this
 boxB:=(Below.heap_setCell W ⟨g i,j,none⟩ _ _ (λe=>by have:w.heap.size=g i:=e;omega)).trans h.boxB
 boxK:=(Below.heap_setCell W ⟨g i,j,none⟩ _ _ (λe=>by have:w.heap.size+1=g i:=e;omega)).trans h.boxK
 turned:=h.turned.setCell (λ_=>.inr rfl) _
theorem EMid.world {W W':World} {i k:Nat} {hi:i<S.bl.length} {nx:Int} {l:List (List UInt8)} (h:EMid w W p q cap g C S i hi nx l k) (hb:Below W.heap.size W W'):EMid w W' p q cap g C S i hi nx l k where
 chip:=h.chip.below hb
 boxB:=(hb.block _ h.boxB.lt).trans h.boxB
 boxK:=(hb.block _ h.boxK.lt).trans h.boxK
 turned:=h.turned.trans (G:=λ_=>False) (.of_below hb) (λ_ _ h=>h.elim)
def zOq (p q cap:Nat) (g:Nat->Nat) (C:Nat->Prop) (S:LS) (i:Nat) (hi:i<S.bl.length) (k:Nat) (w:World) (e:Ending) (w':World):Prop :=
 e=.returned (.tuple #[])/\LAt w' p q cap g C { S with bl:=S.bl.set i (vZ S.bl[i] k S.np) } /\ Turned (λb=>b=q\/b=g i) w w'
theorem zKe {W:World} {i k D m:Nat} {hi:i<S.bl.length} {nx:Int} {l:List (List UInt8)} (h:EMid w W p q cap g C S i hi nx l k) (hD:w.heap.size<=D) (hK:W.heap[D]? = some (.deferred (some []))) (hnx:nx=if S.np<=k then 0 else (S.np:Int)) (hl:l=clr S.bl[i].pages k) (tmps:Array Value) :
 LeavesInM Fence.wide m Tryz.prog Tryz.f186 tmps (zOq p q cap g C S i hi k w) [{ target:=Target.collected D,args:=#[] }] .returning W:=by
 refine ⟨by simp,.inl ⟨_,_,rfl,run_takeDeferred hK,?_⟩⟩
 refine ⟨_,results_none rfl _ _ _,rfl,?_,?_⟩
 . have:=(at_own p q cap g C (λ_:Unit=>emptied S i hi nx l)).putObj (s:=()) (.deferred none) h.chip hK rfl
   subst hnx hl
   exact this
 . exact (zBo (β := Unit) nL).putObj (s:=()) (.deferred none) h.turned hD hK rfl
theorem zKw (w:World) (a b:Value) (s t:TypeId):∃W0,(w.alloc (.cells #[a] s)).alloc (.cells #[b] t)=W0/\Boxed W0 w.heap.size s a/\Boxed W0 (w.heap.size+1) t b/\Below w.heap.size w W0:=by
 have h1:=Boxed.new w s a
 have h2:=Boxed.new (w.alloc (.cells #[a] s)) t b
 rw[World.size_alloc] at h2
 exact ⟨_,rfl,h1.alloc _,h2,((Below.refl _ w).alloc nL _).alloc (by simp) _⟩
theorem zGf {W0 W1:World} {i k:Nat} {nx:Int} (hi:i<S.bl.length) (h1:LAt W1 p q cap g C { S with bl:=S.bl.set i { S.bl[i] with next:=nx } }) (bB:Boxed W1 w.heap.size 200 (.pointer (some ⟨q,i * 4,none⟩))) (bK:Boxed W1 (w.heap.size+1) 3 (.int .i64 k)) (ht:Turned (λb=>b=q\/b=g i) w W1) (hs:W1.heap.size=W0.heap.size) (W2:World) (hW2:W2=((W1.alloc (.cells #[.int .i64 (S.np:Int)] 3)).alloc (.cells #[.int .i64 0] 3)).drew.drew) :
 Boxed W2 W0.heap.size 3 (.int .i64 (S.np:Int))/\Boxed W2 (W0.heap.size+1) 3 (.int .i64 0)/\EMid w W2 p q cap g C S i hi nx S.bl[i].pages k:=by
 subst hW2
 rw[<- hs]
 have b1:=Boxed.new W1 3 (.int .i64 (S.np:Int))
 have b2:=Boxed.new (W1.alloc (.cells #[.int .i64 (S.np:Int)] 3)) 3 (.int .i64 0)
 rw[World.size_alloc] at b2
 have hb:Below W1.heap.size W1 ((W1.alloc (.cells #[.int .i64 (S.np:Int)] 3)).alloc (.cells #[.int .i64 0] 3)).drew.drew:=(((Below.refl _ W1).alloc nL _).alloc (by simp) _).drew.drew
 exact ⟨b1.alloc _,b2,EMid.world ⟨h1,bB,bK,ht⟩ hb⟩
theorem yAb (i k:Nat) (h:LAt w p q cap g C S) (hi:i<S.bl.length) :
 Calls Tryz.prog 186 #[.pointer (some ⟨p,0,none⟩),.pointer (some ⟨q,i * 4,none⟩),.int .i64 k] w (zOq p q cap g C S i hi k w):=by
 obtain ⟨W0,hW0,bB,bK,hB0⟩:=zKw w (.pointer (some ⟨q,i * 4,none⟩)) (.int .i64 k) 200 3
 have h0:=h.below hB0
 have hq:=h.lt q (.inr (.inl rfl))
 have hg:=h.lt (g i) (.inr (.inr (.inl ⟨i,hi,rfl⟩)))
 have hgq:=(h.gp i hi).2
 have hnp:=h.small.2.1
 have hnp2:=h.small.2.2
 have hlen:=(h.blocks i hi).len
 obtain ⟨_,c1,_,_,_,_,_,_,_,_,_,_,_⟩:=qw h0.self
 obtain ⟨qcs,qt,hqp⟩:=h0.plain
 have fq:=qO hqp (i * 4+1)
 have rn:=(h0.blocks i hi).next
 have hne:=h.ne
 have hne':=h.ne.symm
 have cB:=bB.cell
 have cK:=bK.cell
 have t1:∀v,Turned (λb=>b=q\/b=g i) w (W0.setCell ⟨q,i * 4+1,none⟩ v):=λv=>(Turned.of_below hB0).setCell (λ_=>.inl rfl) _
 have o1:∀{W:World} {b:Nat} {t:TypeId} {u:Value} (v:Value),Boxed W b t u->b≠q->Boxed (W.setCell ⟨q,i * 4+1,none⟩ v) b t u:=λv hb hne=>(Below.heap_setCell _ ⟨q,i * 4+1,none⟩ _ _ hne).trans hb
 refine callsIn_wide.1 (callsIn_of_wp_marks (n:=3) Tryz.func186 rfl trivial ?_ rfl)
 simp only[Tryz.ntmps186,List.size_toArray,List.length_cons,List.length_nil,Nat.reduceAdd,Nat.reduceSub,Array.replicate_succ,Array.replicate_zero,List.push_toArray,List.append_toArray,List.nil_append,List.cons_append]
 by_cases hkn:S.np<=k
 . gi_wp2
   gi_region
   gi_wp2
   gi_region
   gi_wp2_with (refine ⟨trivial,?_⟩;(try refine ⟨zDf _,?_⟩);gi_at_call 47;refine (callsIn_wide.2 (yf _ _ _)).mono ?_;rintro e w1 ⟨rfl,rfl⟩)
   refine vj ?_
   intro W2 hW2
   obtain ⟨bN,bF,hM⟩:Boxed W2 W0.heap.size 3 (.int .i64 (S.np:Int))/\Boxed W2 (W0.heap.size+1) 3 (.int .i64 0)/\EMid w W2 p q cap g C S i hi 0 S.bl[i].pages k:=by
    rw[hW2]
    exact zGf hi (h0.next_set2 hi ⟨by omega,by omega⟩ ⟨by omega,by omega⟩) (o1 _ (o1 _ bB (by omega)) (by omega)) (o1 _ (o1 _ bK (by omega)) (by omega)) ((t1 _).setCell (λ_=>.inl rfl) _) (by simp) _ rfl
   have H2:=hI hM
   have HS:=hI (show w.heap.size<=W2.heap.size from hM.turned.size)
   clear hW2 hM cB cK fq rn hqp c1
   apply wpIn_rangeFunc_ownG rfl (n:=3) (by omega) (gf:=83) (lb:=#[.pointer (some ⟨W0.heap.size,0,none⟩),.pointer (some ⟨W0.heap.size+1,0,none⟩)]) rfl trivial vu
    (vC (N:=S.np) (λ_ _=>True) (3 - 1) _ _ (by omega) hnp W2 bN bF) (λ_ _=>trivial) (λ_ _ _ _ _ _ _ _=>trivial) bR (λ_=>rfl)
    (λpre W=>EMid w W p q cap g C S i hi 0 (zVt S.bl[i].pages pre) k/\∀y∈pre,y.val<k)
    (λc pre' W=>EMid w W p q cap g C S i hi 0 (zVt S.bl[i].pages pre'.dropLast) k/\(c=.exit 0/\(∀y∈pre'.dropLast,y.val<k)/\∃x,pre'=pre'.dropLast++[x]/\k<=x.val))
    ?own ?ownx ?start
   case own=>exact OwnFrom.and (zEw HS.out i hi 0 (λpre=>zVt S.bl[i].pages pre) k) (ownFrom_pure _ _)
   case ownx=>exact λc=>OwnFrom.and (zEw HS.out i hi 0 (λpre':List (Fin S.np)=>zVt S.bl[i].pages pre'.dropLast) k) (ownFrom_pure _ _)
   case start=>exact ⟨H2.out,λy hy=>by cases hy⟩
   case hassign =>
    intro l x W K hK
    gi_wp2
    exact hK
   case hbody =>
    rintro l pre x W ⟨hM,hpre⟩ hlt
    obtain ⟨cb,ck,cr,⟨v,cv⟩,cf⟩:=hM.facts x.isLt
    have hx:=x.isLt
    have HM:=hI hM
    clear hM
    by_cases hxk:x.val<k
    . have:¬(k:Int)<=(x.val:Int):=by omega
      gi_wp2
      refine ⟨(KeepsOthers.setCell _ _ _).from _,trivial,?_,λy hy=>?_⟩
      . rw[zGi]
        exact HM.out.set hg
      . rcases List.mem_append.1 hy with h | h
        . exact hpre y h
        . simp at h;subst h;exact hxk
    . have:(k:Int)<=(x.val:Int):=by omega
      gi_wp2
      refine ⟨KeepsFrom.refl _ _,?_⟩
      simp only[List.dropLast_concat]
      exact ⟨HM.out,trivial,hpre,x,rfl,by omega⟩
   case hdone =>
    rintro D ys W hD rfl ⟨hM,hall⟩ hK
    gi_wp2
    have hlast:S.np - 1<k:=hall ⟨S.np - 1,by omega⟩ (by simp)
    exact zKe hM (Nat.le_trans HS.out hD) hK (by rw[if_pos hkn]) (by rw[<- zQi,zGh _ hlen _ nL,<- hlen];exact clr_over _ _ (by omega)) _
   case hstop =>
    rintro D c pre W hD hpre ⟨hM,rfl,hall,x,hx,hkx⟩ hK
    gi_wp2
    rw[hx] at hpre
    have hp:=zSp hpre
    have hxk:x.val=k:=by
     rcases Nat.lt_or_ge k x.val with h | h
     . have:k<k:=hall ⟨k,by omega⟩ (by rw[hp];exact zEj h)
       omega
     . omega
    exact zKe hM (Nat.le_trans HS.out hD) hK (by rw[if_pos hkn]) (by rw[hp,zGh _ hlen _ (by omega),hxk]) _
 . gi_wp2
   gi_region
   gi_wp2
   gi_region
   gi_wp2_with (refine ⟨trivial,?_⟩;(try refine ⟨zDf _,?_⟩);gi_at_call 47;refine (callsIn_wide.2 (yf _ _ _)).mono ?_;rintro e w1 ⟨rfl,rfl⟩)
   refine vj ?_
   intro W2 hW2
   obtain ⟨bN,bF,hM⟩:Boxed W2 W0.heap.size 3 (.int .i64 (S.np:Int))/\Boxed W2 (W0.heap.size+1) 3 (.int .i64 0)/\EMid w W2 p q cap g C S i hi (S.np:Int) S.bl[i].pages k:=by
    rw[hW2]
    exact zGf hi (h0.next_set hi ⟨by omega,by omega⟩) (o1 _ bB (by omega)) (o1 _ bK (by omega)) (t1 _) (by simp) _ rfl
   have H2:=hI hM
   have HS:=hI (show w.heap.size<=W2.heap.size from hM.turned.size)
   clear hW2 hM cB cK fq rn hqp c1
   apply wpIn_rangeFunc_ownG rfl (n:=3) (by omega) (gf:=83) (lb:=#[.pointer (some ⟨W0.heap.size,0,none⟩),.pointer (some ⟨W0.heap.size+1,0,none⟩)]) rfl trivial vu
    (vC (N:=S.np) (λ_ _=>True) (3 - 1) _ _ (by omega) hnp W2 bN bF) (λ_ _=>trivial) (λ_ _ _ _ _ _ _ _=>trivial) bR (λ_=>rfl)
    (λpre W=>EMid w W p q cap g C S i hi (S.np:Int) (zVt S.bl[i].pages pre) k/\∀y∈pre,y.val<k)
    (λc pre' W=>EMid w W p q cap g C S i hi (S.np:Int) (zVt S.bl[i].pages pre'.dropLast) k/\(c=.exit 0/\(∀y∈pre'.dropLast,y.val<k)/\∃x,pre'=pre'.dropLast++[x]/\k<=x.val))
    ?own ?ownx ?start
   case own=>exact OwnFrom.and (zEw HS.out i hi (S.np:Int) (λpre=>zVt S.bl[i].pages pre) k) (ownFrom_pure _ _)
   case ownx=>exact λc=>OwnFrom.and (zEw HS.out i hi (S.np:Int) (λpre':List (Fin S.np)=>zVt S.bl[i].pages pre'.dropLast) k) (ownFrom_pure _ _)
   case start=>exact ⟨H2.out,λy hy=>by cases hy⟩
   case hassign =>
    intro l x W K hK
    gi_wp2
    exact hK
   case hbody =>
    rintro l pre x W ⟨hM,hpre⟩ hlt
    obtain ⟨cb,ck,cr,⟨v,cv⟩,cf⟩:=hM.facts x.isLt
    have hx:=x.isLt
    have HM:=hI hM
    clear hM
    by_cases hxk:x.val<k
    . have:¬(k:Int)<=(x.val:Int):=by omega
      gi_wp2
      refine ⟨(KeepsOthers.setCell _ _ _).from _,trivial,?_,λy hy=>?_⟩
      . rw[zGi]
        exact HM.out.set hg
      . rcases List.mem_append.1 hy with h | h
        . exact hpre y h
        . simp at h;subst h;exact hxk
    . have:(k:Int)<=(x.val:Int):=by omega
      gi_wp2
      refine ⟨KeepsFrom.refl _ _,?_⟩
      simp only[List.dropLast_concat]
      exact ⟨HM.out,trivial,hpre,x,rfl,by omega⟩
   case hdone =>
    rintro D ys W hD rfl ⟨hM,hall⟩ hK
    gi_wp2
    have hlast:S.np - 1<k:=hall ⟨S.np - 1,by omega⟩ (by simp)
    omega
   case hstop =>
    rintro D c pre W hD hpre ⟨hM,rfl,hall,x,hx,hkx⟩ hK
    gi_wp2
    rw[hx] at hpre
    have hp:=zSp hpre
    have hxk:x.val=k:=by
     rcases Nat.lt_or_ge k x.val with h | h
     . have:k<k:=hall ⟨k,by omega⟩ (by rw[hp];exact zEj h)
       omega
     . omega
    exact zKe hM (Nat.le_trans HS.out hD) hK (by rw[if_neg hkn]) (by rw[hp,zGh _ hlen _ (by omega),hxk]) _
end
end
section
open Go.RowKit
section
variable {p q cap:Nat} {g:Nat->Nat} {C:Nat->Prop} {S:LS} {w:World}
def zEx (b:Bk):Bk := { b with count:=wrap64 (b.count+1) }
def qf (S:LS) (b:Int):Int × LS :=
 if zBj S b≠0 then (zBj S b,S)
 else if S.c.hit=true then (2,{ S with er:=wrap64 (S.er+1),w:=S.w.tick,c:=S.c.tick,dark:=true,bl:=S.bl.set b.toNat (vZ (zEx (zDd S b)) S.keep.toNat S.np) })
 else if S.w.hit=true then (3,{ S with er:=wrap64 (S.er+1),w:=S.w.tick,c:=S.c.tick,bl:=S.bl.set b.toNat { zEx (zDd S b) with bad:=true } })
 else (0,{ S with er:=wrap64 (S.er+1),w:=S.w.tick,c:=S.c.tick,bl:=S.bl.set b.toNat (vZ (zEx (zDd S b)) S.np S.np) })
def vh (p q cap:Nat) (g:Nat->Nat) (C:Nat->Prop) (S:LS) (b:Int) (w:World) (e:Ending) (w':World):Prop :=
 e=.returned (.int .i64 (qf S b).1)/\LAt w' p q cap g C (qf S b).2/\Turned (Own p q g C S.bl.length) w w'
theorem zKa (b:Int) (h:LAt w p q cap g C S) (hr:zBj S b≠0):Calls Tryz.prog 166 #[.pointer (some ⟨p,0,none⟩),.int .i64 b] w (vh p q cap g C S b w):=by
 have e1:qf S b=(zBj S b,S):=by unfold qf;rw[if_pos hr]
 have hz:(zBj S b != 0)=true:=by simpa using hr
 have H1:=hI e1
 clear e1 hr
 go_enter Tryz.func166,Tryz.ntmps166
 go_wp2_with (go_at_call 168;refine (yj b h).mono ?_;rintro e w1 ⟨rfl,rfl⟩)
 all_goals go_ret
 all_goals
  unfold vh
  rw[H1.out]
  exact ⟨rfl,h,.refl _ _⟩
theorem yAv {S:LS} {b:Int} (h:zBj S b=0):∃i:Nat,∃hi:i<S.bl.length,b=i/\S.dark=false/\S.bl[i].bad=false:=by
 unfold zBj at h
 split at h
 . cases h
 . next h1 =>
   obtain ⟨i,rfl,hi⟩:=zAd (b:=b) (S:=S) (by cases e:isL S b with | true=>rfl | false=>exact absurd e h1)
   rw[vi hi] at h
   split at h
   . cases h
   . next h2 =>
     split at h
     . cases h
     . next h3=>exact ⟨i,hi,rfl,by simpa using h2,by simpa using h3⟩
def LS.erBegan (S:LS) (i:Nat) (hi:i<S.bl.length):LS := { S with er:=wrap64 (S.er+1),bl:=S.bl.set i (zEx S.bl[i]) }
def LS.erTold (S:LS) (i:Nat) (hi:i<S.bl.length):LS := { S.erBegan i hi with w:=S.w.tick,c:=S.c.tick }
structure RMid (w W:World) (p q cap:Nat) (g:Nat->Nat) (C:Nat->Prop) (n:Nat) (S:LS):Prop where
 chip:LAt W p q cap g C S
 turned:Turned (Own p q g C n) w W
theorem RMid.step {a b:World} {n:Nat} {S S':LS} (h:RMid w a p q cap g C n S) (hc:LAt b p q cap g C S') (ht:Turned (λb=>b=p) a b):RMid w b p q cap g C n S':=⟨hc,h.turned.trans ht λ_ _ e=>.inl e⟩
theorem RMid.drew {a:World} {n:Nat} {S:LS} (h:RMid w a p q cap g C n S):RMid w a.drew p q cap g C n S:=⟨h.chip.drew,h.turned.drew⟩
theorem zUy (S:LS) (i:Nat) (hi:i<S.bl.length):(S.erTold i hi).bl.length=S.bl.length:=by simp[LS.erTold,LS.erBegan]
theorem zSs (S:LS) (i k:Nat) (hi:i<S.bl.length) (hi':i<(S.erTold i hi).bl.length) :
 ({ S.erTold i hi with bl:=(S.erTold i hi).bl.set i (vZ (S.erTold i hi).bl[i] k (S.erTold i hi).np) } : LS) = { S.erTold i hi with bl:=S.bl.set i (vZ (zEx S.bl[i]) k S.np) } :=by
 simp[LS.erTold,LS.erBegan]
theorem er_bad (S:LS) (i:Nat) (hi:i<S.bl.length) (hi':i<(S.erTold i hi).bl.length) :
 ({ S.erTold i hi with bl:=(S.erTold i hi).bl.set i { (S.erTold i hi).bl[i] with bad:=true } } : LS) = { S.erTold i hi with bl:=S.bl.set i { zEx S.bl[i] with bad:=true } } :=by
 simp[LS.erTold,LS.erBegan]
theorem RMid.emptied {a b:World} {n i:Nat} {S S':LS} (h:RMid w a p q cap g C n S) (hi:i<n) (hc:LAt b p q cap g C S') (ht:Turned (λb=>b=q\/b=g i) a b):RMid w b p q cap g C n S' :=
 ⟨hc,h.turned.trans ht λ_ _ e=>e.elim (λe=>.inr (.inl e)) (λe=>.inr (.inr (.inl ⟨i,hi,e⟩)))⟩
theorem zCa {S:LS} {i:Nat} (hr:zBj S i=0) (hi:i<S.bl.length) :
 qf S i=if S.c.hit=true then (2,{ S.erTold i hi with dark:=true,bl:=S.bl.set i (vZ (zEx S.bl[i]) S.keep.toNat S.np) })
  else if S.w.hit=true then (3,{ S.erTold i hi with bl:=S.bl.set i { zEx S.bl[i] with bad:=true } }) else (0,{ S.erTold i hi with bl:=S.bl.set i (vZ (zEx S.bl[i]) S.np S.np) }):=by
 unfold qf
 rw[if_neg (by rw[hr];simp),vi hi]
 rfl
theorem erase_go (i:Nat) (h:LAt w p q cap g C S) (hr:zBj S i=0) (hi:i<S.bl.length) :
 Calls Tryz.prog 166 #[.pointer (some ⟨p,0,none⟩),.int .i64 i] w (vh p q cap g C S i w):=by
 have hne:=h.ne
 have hne':=h.ne.symm
 have hgp:=(h.gp i hi).1
 have hgp':=(h.gp i hi).1.symm
 obtain ⟨c0,_,_,_,c4,_,_,_,_,_,_,_,_⟩:=qw h.self
 have r2:=(h.blocks i hi).count
 have f4:=qO h.self 4
 obtain ⟨qcs,qt,hqp⟩:=h.plain
 have fq:=qO hqp (i * 4+2)
 have k1:LAt (w.setCell ⟨p,4,none⟩ (.int .i64 (wrap64 (S.er+1)))) p q cap g C { S with er:=wrap64 (S.er+1) } := h.self_set rfl rfl rfl h.ints
 have k2:LAt ((w.setCell ⟨p,4,none⟩ (.int .i64 (wrap64 (S.er+1)))).setCell ⟨q,i * 4+2,none⟩ (.int .i64 (wrap64 (S.bl[i].count+1)))) p q cap g C (S.erBegan i hi) :=
  k1.row_set (m:=2) (b:=zEx S.bl[i]) hi (by omega) rfl (h.blocks i hi).nextIn rfl rfl rfl
 have M:RMid w ((w.setCell ⟨p,4,none⟩ (.int .i64 (wrap64 (S.er+1)))).setCell ⟨q,i * 4+2,none⟩ (.int .i64 (wrap64 (S.bl[i].count+1)))) p q cap g C S.bl.length (S.erBegan i hi) :=
  ⟨k2,((Turned.refl _ w).setCell (λ_=>.inl rfl) _).setCell (λ_=>.inr (.inl rfl)) _⟩
 obtain ⟨wm,hwm⟩:∃wm,wm=((w.setCell ⟨p,4,none⟩ (.int .i64 (wrap64 (S.er+1)))).setCell ⟨q,i * 4+2,none⟩ (.int .i64 (wrap64 (S.bl[i].count+1)))):=⟨_,rfl⟩
 rw[<- hwm] at M
 have M0:=hI M
 have HW:=hI hwm
 have H:=hI h
 have HR0:=hI hr
 clear k1 k2 M hwm hqp h hr
 go_enter Tryz.func166,Tryz.ntmps166
 go_wp2_with (go_at_call 168;refine (yj i H.out).mono ?_;rintro e w1 ⟨rfl,hw1⟩;obtain rfl:=hw1.symm;rw[HR0.out])
 rw[<- HW.out]
 clear c0 c4 r2 f4 fq
 go_cut [7,8] from 37 to 44 (λx y wx=>x=.bool S.w.hit/\y=.bool S.c.hit/\RMid w wx p q cap g C S.bl.length (S.erTold i hi))
 case first=>as_aux_lemma =>
  go_region_with (first
   | (go_at_call 150;(with_reducible refine (zKg M0.out.drew.chip).mono ?_);rintro e wc ⟨rfl,hc,ht⟩;have Mc:=hI (M0.out.drew.step hc ht);clear hc ht)
   | (go_at_call 150;(with_reducible refine (yAk M0.out.drew.chip).mono ?_);rintro e wf ⟨rfl,hc,ht⟩;have Mf:=hI (M0.out.drew.step hc ht);clear hc ht)
   | (go_at_call 150;(with_reducible refine (yAk Mc.out.chip).mono ?_);rintro e wz ⟨rfl,hc,ht⟩;have Mz:=hI (Mc.out.step hc ht);clear hc ht)
   | (go_at_call 150;(with_reducible refine (zKg Mf.out.chip).mono ?_);rintro e wz ⟨rfl,hc,ht⟩;have Mz:=hI (Mf.out.step hc ht);clear hc ht))
  all_goals
   go_wp2_with fail
   go_meet
   case rel=>exact ⟨rfl,rfl,Mz.out⟩
 case rest =>
  obtain ⟨rfl,rfl,hm⟩:=hcut
  obtain ⟨w5,rfl⟩:∃w5:World,w5=wc:=⟨_,rfl⟩
  have HM:=hI hm
  have hi':i<(S.erTold i hi).bl.length:=by rw[zUy];exact hi
  obtain ⟨_,c1,_,_,_,c5,_,_,_,_,_,_,c12⟩:=qw hm.chip.self
  have hb0:=(hm.chip.blocks i hi').bad
  obtain ⟨qcs,qt,hqp⟩:=hm.chip.plain
  have fq:=qO hqp (i * 4)
  have E:=λk=>yAb i k hm.chip hi'
  clear hm hqp M0 HW
  cases hcu:S.c.hit with
  | false =>
   cases hfa:S.w.hit with
   | false =>
    have E1:=hI (zCa HR0.out hi)
    rw[hcu,hfa,if_neg (by simp),if_neg (by simp)] at E1
    go_wp2_with (go_at_call 186;refine (E S.np).mono ?_;rintro e w6 ⟨rfl,hL,hT⟩)
    go_ret
    unfold vh
    rw[E1.out]
    rw[zSs] at hL
    have h6:=HM.out.emptied hi hL hT
    exact ⟨rfl,h6.chip,h6.turned⟩
   | true =>
    have E1:=hI (zCa HR0.out hi)
    rw[hcu,hfa,if_neg (by simp),if_pos rfl] at E1
    go_wp2_with fail
    go_ret
    unfold vh
    rw[E1.out]
    have hL:=HM.out.chip.row_set (m:=0) (b := { (S.erTold i hi).bl[i] with bad:=true }) hi' (by omega) rfl (HM.out.chip.blocks i hi').nextIn rfl rfl rfl
    rw[er_bad] at hL
    exact ⟨rfl,hL,HM.out.turned.setCell (λ_=>.inr (.inl rfl)) _⟩
  | true =>
   have E1:=hI (zCa HR0.out hi)
   rw[hcu,if_pos rfl] at E1
   obtain ⟨k,hk⟩:∃k:Nat,S.keep=(k:Int):=⟨S.keep.toNat,by have:=H.out.ints;omega⟩
   have HK:=hI (show S.keep.toNat=k by omega)
   rw[show (S.erTold i hi).keep=S.keep from rfl,hk] at c12
   clear hk
   go_wp2_with (go_at_call 186;refine (E k).mono ?_;rintro e w6 ⟨rfl,hL,hT⟩;rw[zSs] at hL;obtain ⟨_,_,_,_,_,c5',_,_,_,_,_,_,_⟩:=qw hL.self;have f5:=qO hL.self 5)
   go_ret
   unfold vh
   rw[E1.out,HK.out]
   have h6:=HM.out.emptied hi hL hT
   exact ⟨rfl,h6.chip.self_set rfl rfl rfl h6.chip.ints,h6.turned.setCell (λ_=>.inl rfl) _⟩
theorem yAa (b:Int) (h:LAt w p q cap g C S):Calls Tryz.prog 166 #[.pointer (some ⟨p,0,none⟩),.int .i64 b] w (vh p q cap g C S b w):=by
 by_cases hr:zBj S b=0
 . obtain ⟨i,hi,rfl,_,_⟩:=yAv hr
   exact erase_go i h hr hi
 . exact zKa b h hr
end
end
section
section
variable {P:Program} {ops:Array Oper} {Q:Exit->Act->World->Prop}
def zF (listed:Array Bool):Nat:=listed.toList.countP (λb => !b)
theorem zHj {listed:Array Bool} {i:Nat} (h:listed.getD i true=false):zF (listed.setIfInBounds i true)+1<=zF listed:=by
 have hi:i<listed.size:=by
  rcases Nat.lt_or_ge i listed.size with h' | h'
  . exact h'
  . simp[Array.getD,Nat.not_lt.2 h'] at h
 have he:listed.toList[i]'(by simpa using hi)=false:=by simpa[Array.getD,hi] using h
 unfold zF
 rw[Array.toList_setIfInBounds,List.countP_set (by simpa using hi),he]
 have:0<listed.toList.countP (λb => !b):=List.countP_pos_iff.2 ⟨_,List.getElem_mem (by simpa using hi),by rw[he];rfl⟩
 rw[if_pos (show (!false)=true from rfl),if_neg (show ¬(!true)=true by decide)]
 omega
theorem zFd {listed:Array Bool} (h:zF listed=0) (i:Nat):listed.getD i true=true:=by
 unfold zF at h
 rcases Nat.lt_or_ge i listed.size with h' | h'
 . have:=List.countP_eq_zero.1 h (listed[i]) (by simp)
   simpa[Array.getD,h'] using this
 . simp[Array.getD,Nat.not_lt.2 h']
theorem zFb {F:Fence} {n:Nat} {md:Region.Mode} (I:Array Bool->Act->World->Prop)
 (hstep:∀i listed a w,listed.size=ops.size->I listed a w->i∈Region.ready md ops listed->wpOpIn F n P ops Q i (λa' w'=>I (listed.setIfInBounds i true) a' w') a w)
 (hend:∀listed a w,listed.size=ops.size->I listed a w->Region.ready md ops listed = []->Q .normal a w) :
 ∀(fuel:Nat) (listed:Array Bool) (a:Act) (w:World),listed.size=ops.size->zF listed<=fuel->I listed a w->wpAnyIn F n P md ops Q fuel listed a w:=by
 intro fuel
 induction fuel with
 | zero =>
  intro listed a w hs hc hI
  have hr:Region.ready md ops listed = []:=by
   rw[List.eq_nil_iff_forall_not_mem]
   intro i hi
   have h1:=(mem_ready.1 hi).1
   rw[zFd (by omega) i] at h1
   cases h1
  exact ⟨hr,hend _ _ _ hs hI hr⟩
 | succ fuel ih =>
  intro listed a w hs hc hI
  refine ⟨hend _ _ _ hs hI,λi hi=>?_⟩
  refine wpOpIn_mono (λa' w' h'=>ih _ a' w' (by simpa using hs) ?_ h') (hstep i listed a w hs hI hi)
  have:=zHj (mem_ready.1 hi).1
  omega
def zCv (ops:Array Oper):Bool:=(List.range ops.size).all λi=>((ops[i]?).map λo=>o.after.all λe=>decide (e.on<i)).getD true
theorem zBh {md:Region.Mode} (hf:zCv ops=true) {listed:Array Bool} (hs:listed.size=ops.size) (hr:Region.ready md ops listed = []):∀i,i<ops.size->listed.getD i false=true:=by
 intro i
 induction i using Nat.strongRecOn with
 | ind i ih =>
  intro hi
  have ho:ops[i]? = some ops[i]:=Array.getElem?_eq_getElem hi
  have hfi:=(List.all_eq_true.1 hf) i (List.mem_range.2 hi)
  rw[ho] at hfi
  simp only[Option.map_some,Option.getD_some,Array.all_eq_true_iff_forall_mem,decide_eq_true_eq] at hfi
  cases hg:listed.getD i true with
  | true =>
   have:i<listed.size:=by omega
   simpa[Array.getD,this] using hg
  | false =>
   have hm:i∈Region.ready md ops listed:=mem_ready.2 ⟨hg,_,ho,λe he _=>ih e.on (hfi e he) (by have:=hfi e he;omega)⟩
   rw[hr] at hm
   cases hm
def vt (ops:Array Oper) (n:Nat):Bool :=
 (List.range ops.size).all λi=>((ops[i]?).bind (·.dst)).all λt=>decide (t<n)&&(List.range ops.size).all λj=>decide (i=j)||((ops[j]?).bind (·.dst)) != some t
theorem zHp {n:Nat} (h:vt ops n=true) {i:Nat} {o:Oper} {t:Tmp} (ho:ops[i]? = some o) (ht:o.dst=some t):t<n:=by
 have hi:i<ops.size:=(Array.getElem?_eq_some_iff.1 ho).1
 have:=(List.all_eq_true.1 h) i (List.mem_range.2 hi)
 rw[ho] at this
 simp[ht] at this
 exact this.1
theorem zHo {n:Nat} (h:vt ops n=true) {i j:Nat} {o o':Oper} {t:Tmp} (ho:ops[i]? = some o) (ht:o.dst=some t) (ho':ops[j]? = some o') (hij:i≠j):o'.dst≠some t:=by
 have hi:i<ops.size:=(Array.getElem?_eq_some_iff.1 ho).1
 have hj:j<ops.size:=(Array.getElem?_eq_some_iff.1 ho').1
 have:=(List.all_eq_true.1 h) i (List.mem_range.2 hi)
 rw[ho] at this
 simp only[Option.bind_some,ht,Option.all_some,Bool.and_eq_true,List.all_eq_true,List.mem_range] at this
 have h2:=this.2 j hj
 rw[ho'] at h2
 simpa[hij] using h2
def yJ (ops:Array Oper) (a:Act) (k:Nat):Value:=match (ops[k]?).bind (·.dst) with
 | some t=>a.tmps.getD t undef
 | none=>undef
def told (o:Oper) (v:Value):Value:=if o.dst.isSome=true then v else undef
structure Known (ops:Array Oper) (φ : Nat->Value->World->Prop) (G:World->Prop) (a0:Act) (listed:Array Bool) (a:Act) (w:World):Prop where
 g:G w
 defers:a.defers=a0.defers
 size:a.tmps.size=a0.tmps.size
 done:∀i o,ops[i]? = some o->listed.getD i false=true -> φ i (yJ ops a i) w
 old:∀t,(ops.all λo=>o.dst != some t)=true->a.tmps.getD t undef=a0.tmps.getD t undef
def OpOk (P:Program) (ops:Array Oper) (Q:Exit->Act->World->Prop) (φ : Nat->Value->World->Prop) (G:World->Prop) (R:World->World->Prop) (a0:Act) (i:Nat) (o:Oper):Prop :=
 ∀(a:Act) (w:World) (K:Act->World->Prop),G w ->
  (∀j,(o.after.any λe=>e.on==j&&Region.binds .any e)=true->(ops[j]?).isSome=true -> φ j (yJ ops a j) w) ->
  (∀t,(ops.all λo=>o.dst != some t)=true->a.tmps.getD t undef=a0.tmps.getD t undef) ->
  a.tmps.size=a0.tmps.size ->
  (∀v w',φ i (told o v) w'->G w'->R w w'->K (a.put o.dst v) w') ->
  if Region.wanted o (yielded ops a.tmps)=true then o.wp P a w K Q else K (a.put o.dst undef) w
def OpsOk (P:Program) (ops:Array Oper) (Q:Exit->Act->World->Prop) (φ : Nat->Value->World->Prop) (G:World->Prop) (R:World->World->Prop) (a0:Act):Nat->List Oper->Prop
 | _,[]=>True
 | i,o::r=>OpOk P ops Q φ G R a0 i o/\OpsOk P ops Q φ G R a0 (i+1) r
theorem OpsOk.nil {φ : Nat->Value->World->Prop} {G:World->Prop} {R:World->World->Prop} {a0:Act} {i:Nat} : OpsOk P ops Q φ G R a0 i []:=trivial
theorem OpsOk.cons {φ : Nat->Value->World->Prop} {G:World->Prop} {R:World->World->Prop} {a0:Act} {i:Nat} {o:Oper} {r:List Oper} (h:OpOk P ops Q φ G R a0 i o) (hr:OpsOk P ops Q φ G R a0 (i+1) r):OpsOk P ops Q φ G R a0 i (o::r):=⟨h,hr⟩
theorem OpsOk.at_ {φ : Nat->Value->World->Prop} {G:World->Prop} {R:World->World->Prop} {a0:Act} : ∀(l:List Oper) (i j:Nat) (o:Oper),OpsOk P ops Q φ G R a0 i l->l[j]? = some o->OpOk P ops Q φ G R a0 (i+j) o
 | [],_,_,_,_,h=>by simp at h
 | o::r,i,0,o',h,hj=>by
  obtain rfl:o=o':=by simpa using hj
  exact h.1
 | o::r,i,j+1,o',h,hj=>by
  have:=OpsOk.at_ r (i+1) j o' h.2 (by simpa using hj)
  rwa [show i+1+j=i+(j+1) by omega] at this
theorem zCg {a:Act} {i:Nat} {o:Oper} {v:Value} (hsl:vt ops a.tmps.size=true) (ho:ops[i]? = some o):yJ ops (a.put o.dst v) i=told o v:=by
 unfold yJ told
 rw[ho]
 simp only[Option.bind_some]
 cases hd:o.dst with
 | none=>rfl
 | some t =>
  have:=zHp hsl ho hd
  simp[Act.put,Array.getD,this]
theorem yu {a:Act} {i k:Nat} {o:Oper} {v:Value} (hsl:vt ops a.tmps.size=true) (ho:ops[i]? = some o) (hk:k≠i):yJ ops (a.put o.dst v) k=yJ ops a k:=by
 unfold yJ
 cases hok:ops[k]? with
 | none=>rfl
 | some ok =>
  simp only[Option.bind_some]
  cases ht:ok.dst with
  | none=>rfl
  | some t =>
   cases hd:o.dst with
   | none=>rfl
   | some u =>
    have hne:u≠t:=λe=>zHo hsl hok ht ho hk (by rw[hd,e])
    simp only[Act.put]
    rw[Array.getD_eq_getD_getElem?,Array.getD_eq_getD_getElem?,Array.getElem?_setIfInBounds,if_neg hne]
theorem zFs {l n:Nat} {o:Oper} {a:Act} {w:World} {K:Act->World->Prop} (hnd:∀c:Call,o.op≠.defer c) (h:o.wp P a w K Q):o.wpIn (Fence.wide.inRound l) n P a w K Q:=by
 refine ⟨λ_ _=>trivial,?_⟩
 rw[Oper.semAt_eq _ _ _ hnd]
 unfold Oper.wp at h
 revert h
 generalize (execOp a.eval o).run P w=r
 intro h
 match r,h with
 | .ok (.value v) w',h=>exact h
 | .ok .skip w',h=>exact h
 | .ok (.defer d) w',h=>exact h
 | .ok (.enter f args) w',h=>exact ⟨zDf _,callsIn_wide.2 h⟩
 | .ok (.row row args) w',h=>exact ⟨zDf _,λc cs _=>let ⟨v,w',r,s⟩:=h c cs;⟨v,w',r,stepsIn_wide.2 s⟩⟩
 | .halt (.panic v) w',h=>exact h
def zPq (ops:Array Oper):Bool:=ops.toList.all λo=>match o.op with | .defer _=>false | _=>true
theorem zHy (h:zPq ops=true) {o:Oper} (ho:o∈ops.toList) (c:Call):o.op≠.defer c:=λe=>by
 have:=List.all_eq_true.1 h o ho
 rw[e] at this
 cases this
theorem yG {l n:Nat} {id:Nat} {a0:Act} {w:World} (φ : Nat->Value->World->Prop) (G:World->Prop) (R:World->World->Prop) (hm:P.follows .mixedOrders=true) (hf:zCv ops=true) (hsl:vt ops a0.tmps.size=true)
 (hnd:zPq ops=true)
 (hR:∀j v w w',φ j v w->R w w' -> φ j v w') (hG:G w.drew) (hops:OpsOk P ops Q φ G R a0 0 ops.toList)
 (hend:∀a w',G w'->a.defers=a0.defers->a.tmps.size=a0.tmps.size->(∀j,(ops[j]?).isSome=true -> φ j (yJ ops a j) w')->(∀t,(ops.all λo=>o.dst != some t)=true->a.tmps.getD t undef=a0.tmps.getD t undef)->Q .normal a w') :
 (Code.region id ops true).wpIn (Fence.wide.inRound l) n P Q a0 w:=by
 refine wpIn_region_any hm ?_
 have h0:Known ops φ G a0 (Array.replicate ops.size false) a0 w.drew :=
  ⟨hG,rfl,rfl,λi o _ h=>by
   exfalso
   simp[Array.getD] at h,λt _=>rfl⟩
 refine zFb (λlisted a w=>Known ops φ G a0 listed a w) ?_ ?_ ops.size (Array.replicate ops.size false) a0 w.drew (by simp) ?_ h0
 . intro i listed a w hs hI hi
   obtain ⟨hun,o,ho,hall⟩:=mem_ready.1 hi
   have hok:=OpsOk.at_ ops.toList 0 i o hops (by simpa using ho)
   rw[Nat.zero_add] at hok
   have hmem:o∈ops.toList:=by simpa using Array.mem_of_getElem? ho
   have hsl':vt ops a.tmps.size=true:=by rw[hI.size];exact hsl
   have hgo:=hok a w (λa' w'=>Known ops φ G a0 (listed.setIfInBounds i true) a' w') hI.g
    (λj he hj=>by
     obtain ⟨e,he1,he2⟩:=Array.any_eq_true'.1 he
     simp only[Bool.and_eq_true,beq_iff_eq] at he2
     obtain ⟨oj,hoj⟩:=Option.isSome_iff_exists.1 hj
     exact hI.done j oj hoj (by have:=hall e he1 he2.2;rwa [he2.1] at this))
    hI.old hI.size
    (λv w' hv hg' hr=>by
     refine ⟨hg',?_,?_,?_,?_⟩
     . cases hd:o.dst<;>simpa[Act.put] using hI.defers
     . cases hd:o.dst<;>simpa[Act.put] using hI.size
     . intro j oj hoj hlj
       by_cases hij:i=j
       . subst hij
         rw[zCg hsl' ho]
         exact hv
       . have hl:listed.getD j false=true:=by rw[getD_set_ne false hij] at hlj;exact hlj
         rw[yu hsl' ho (Ne.symm hij)]
         exact hR j _ _ _ (hI.done j oj hoj hl) hr
     . intro t ht
       have e:(a.put o.dst v).tmps.getD t undef=a.tmps.getD t undef:=by
        cases hd:o.dst with
        | none=>rfl
        | some u =>
         have hne:u≠t:=λe=>by
          have:=Array.all_eq_true'.1 ht o (Array.mem_of_getElem? ho)
          rw[hd,e] at this
          simp at this
         simp only[Act.put]
         rw[Array.getD_eq_getD_getElem?,Array.getD_eq_getD_getElem?,Array.getElem?_setIfInBounds,if_neg hne]
       rw[e]
       exact hI.old t ht)
   unfold wpOpIn
   rw[ho]
   by_cases hw:Region.wanted o (yielded ops a.tmps)=true
   . rw[if_pos hw] at hgo
     simp only[hw,if_true]
     exact zFs (zHy hnd hmem) hgo
   . rw[if_neg hw] at hgo
     simp only[hw]
     exact ⟨λ_ _=>trivial,hgo⟩
 . intro listed a w hs hI hr
   have hal:=zBh hf hs hr
   refine hend a w hI.g hI.defers hI.size (λj hj=>?_) hI.old
   obtain ⟨oj,hoj⟩:=Option.isSome_iff_exists.1 hj
   exact hI.done j oj hoj (hal j (Array.getElem?_eq_some_iff.1 hoj).1)
 . unfold zF
   have:=List.countP_le_length (p:=λb => !b) (l:=(Array.replicate ops.size false).toList)
   simpa using this
theorem qB {o:Oper} {a:Act} {w w':World} {K:Act->World->Prop} {E:Prop} {v:Value} (hw:Region.wanted o (yielded ops a.tmps)=true) (hr:(execOp a.eval o).run P w=.ok (.value v) w') (h:K (a.put o.dst v) w') :
 if Region.wanted o (yielded ops a.tmps)=true then o.wp P a w K Q else E:=by
 rw[if_pos hw]
 unfold Oper.wp
 rw[hr]
 exact h
theorem qM {o:Oper} {a:Act} {w:World} {K:Act->World->Prop} {E:Prop} {f:FuncId} {args:Array Value} (hw:Region.wanted o (yielded ops a.tmps)=true) (hr:(execOp a.eval o).run P w=.ok (.enter f args) w)
 (h:Calls P f args w λe w'=>∃v,e=.returned v/\K (a.put o.dst v) w'):if Region.wanted o (yielded ops a.tmps)=true then o.wp P a w K Q else E:=by
 rw[if_pos hw]
 unfold Oper.wp
 rw[hr]
 refine h.mono ?_
 rintro e w' ⟨v,rfl,hk⟩
 exact hk
theorem zHi {a:Act} {j:Nat} {b:Bool} (h:yJ ops a j=.bool b):yielded ops a.tmps j=some b:=by
 unfold yJ at h
 unfold yielded
 cases hj:(ops[j]?).bind (·.dst) with
 | none=>rw[hj] at h;cases h
 | some t =>
  rw[hj] at h
  simp only[Option.bind_some]
  simp only[Array.getD_eq_getD_getElem?] at h
  cases ht:a.tmps[t]? with
  | none=>rw[ht] at h;cases h
  | some v =>
   rw[ht] at h
   simp only[Option.getD_some] at h
   rw[h]
theorem qE {o:Oper} {a:Act} {j:Nat} {b:Bool} (hg:o.guard=some (j,b)) (h:yJ ops a j=.bool b):Region.wanted o (yielded ops a.tmps)=true:=by
 unfold Region.wanted
 rw[hg]
 simp[zHi h]
theorem qA {o:Oper} {a:Act} (hg:o.guard=none):Region.wanted o (yielded ops a.tmps)=true:=by
 unfold Region.wanted
 rw[hg]
end
end
section
open Go.RowKit Go.Shelf
attribute [local go_sem] Oper.semAt_some
def PagesV (W:World) (C:Nat->Prop) (v:Value) (l:List (List UInt8)):Prop :=
 ∃A c,v=.slice A l.length c/\l.length<=c/\(0<l.length->∃G,A=some ⟨G,0,none⟩/\C G/\∀j (h:j<l.length),PageAt W C ⟨G,j,none⟩ l[j])
theorem zIj:(Tryz.prog.info? 34).map (λi=>(i.zero,i.size,i.bytes))=some (some (.slice none 0 0),1,24):=by kernel_rfl
theorem zNg (n:Nat):madeCells #[Value.slice none 0 0] n=(List.replicate n (Value.slice none 0 0)).toArray:=by
 apply Array.ext
 . simp[madeCells]
 . intro i h1 h2
   simp[madeCells,Nat.mod_one]
theorem zBb (n:Nat) (h:n<=64) (w:World):(Instr.makeSlice 99 (.int .i64 n) (.int .i64 n)).run Tryz.prog w=.ok (.slice (some ⟨w.heap.size,0,none⟩) n n) (w.alloc (.cells (madeCells #[Value.slice none 0 0] n) 34)) :=
 run_make_row' 99 34 (.slice none 0 0) 24 Tryz.underlying99 zIj rfl .i64 .i64 n (by omega) (by omega) w
def noB:Bk:=⟨false,0,0,[]⟩
def qI (S:LS) (b:Int):Bk:=if isL S b=true then zDd S b else noB
def zAy (b:Bk) (w:World) (e:Ending) (w':World):Prop :=
 ∃v,e=.returned (.agg #[.bool b.bad,.int .i64 b.next,.int .i64 b.count,v])/\PagesV w' (λk=>w.heap.size<=k) v b.pages/\Below w.heap.size w w'
theorem zUg (W:World) (C:Nat->Prop):PagesV W C (.slice none 0 0) []:=⟨none,0,rfl,Nat.le_refl _,λh=>absurd h (by simp)⟩
def zSb {N:Nat} (src l:List (List UInt8)) (pre:List (Fin N)):List (List UInt8):=pre.foldl (λl x=>l.set x.val (src.getD x.val [])) l
theorem zNm {N:Nat} (src l:List (List UInt8)) (pre:List (Fin N)) (x:Fin N):zSb src l (pre++[x])=(zSb src l pre).set x.val (src.getD x.val []):=by simp[zSb]
theorem zYy {N:Nat} (src l:List (List UInt8)) (h1:src.length=N) (h2:l.length=N) (k:Nat) (hk:k<=N):zSb src l ((List.finRange N).take k)=src.take k++l.drop k:=by
 induction k with
 | zero=>rfl
 | succ k ih =>
  rw[yc (by omega),zNm,ih (by omega)]
  have e:src.getD k []=src[k]'(by omega):=by simp[List.getD,List.getElem?_eq_getElem (show k<src.length by omega)]
  show (src.take k++l.drop k).set k (src.getD k [])=_
  rw[e]
  apply List.ext_getElem?
  intro j
  rw[List.getElem?_set]
  by_cases hj:k=j
  . subst hj
    rw[if_pos rfl,List.getElem?_append_left (by rw[List.length_take];omega),if_pos (by simp;omega),List.getElem?_take,if_pos (by omega),List.getElem?_eq_getElem (by omega)]
  . rw[if_neg hj]
    by_cases hj2:j<k
    . rw[List.getElem?_append_left (by rw[List.length_take];omega),List.getElem?_append_left (by rw[List.length_take];omega),List.getElem?_take,List.getElem?_take,if_pos hj2,if_pos (by omega)]
    . rw[List.getElem?_append_right (by rw[List.length_take];omega),List.getElem?_append_right (by rw[List.length_take];omega),List.length_take,List.length_take,List.getElem?_drop,List.getElem?_drop]
      congr 1;omega
theorem lays_all {N:Nat} (src l:List (List UInt8)) (h1:src.length=N) (h2:l.length=N):zSb src l (List.finRange N)=src:=by
 rw[<- zQi,zYy src l h1 h2 N nL,List.take_of_length_le (by omega),List.drop_eq_nil_of_le (by omega),List.append_nil]
section
variable {p q cap:Nat} {g:Nat->Nat} {C:Nat->Prop} {S:LS} {w:World}
theorem PageAt.grown {W W':World} {a:Addr} {l:List UInt8} {row:Option Nat} (h:PageAt W C a l) (hg:W.grownBy W' row) (hrow:∀r,row=some r->∃o:Obj,W.heap[r]? = some o/\o.isCells=false):PageAt W' C a l:=by
 obtain ⟨A,c,h1,h2,h4,h3⟩:=h
 exact ⟨A,c,cell_kept h1 hg hrow,h2,h4,h3.grown hg hrow⟩
theorem cells4 {w:World} {p:Nat} {a b c d:Value} {t:TypeId} (h:w.heap[p]? = some (.cells #[a,b,c,d] t (0,0))):w.cell? ⟨p,0,none⟩=some a/\w.cell? ⟨p,1,none⟩=some b/\w.cell? ⟨p,2,none⟩=some c/\w.cell? ⟨p,3,none⟩=some d:=by
 simp[World.cell?,h]
structure BMid (w W:World) (p q cap:Nat) (g:Nat->Nat) (C:Nat->Prop) (S:LS) (i:Nat) (b:Bk) (K:Nat) (l:List (List UInt8)):Prop where
 chip:LAt W p q cap g C S
 boxP:Boxed W w.heap.size 29 (.pointer (some ⟨p,0,none⟩))
 boxI:Boxed W (w.heap.size+1) 3 (.int .i64 i)
 res:W.heap[w.heap.size+1+1]? = some (.cells #[.bool false,.int .i64 0,.int .i64 0,.slice none 0 0] 101 (0,0))
 var:W.heap[K]? = some (.cells #[.bool b.bad,.int .i64 b.next,.int .i64 b.count,.slice (some ⟨K+1,0,none⟩) S.np S.np] 101 (0,0))
 plain:∃cs t,W.heap[K+1]? = some (.cells cs t (0,0))
 len:l.length=S.np
 pages:∀j (h:j<l.length),PageAt W (λk=>K+1<k) ⟨K+1,j,none⟩ l[j]
 below:Below w.heap.size w W
theorem bmid_own {β : Type} {B:Nat} (hB:w.heap.size<=B) (i:Nat) (b:Bk) (K:Nat) (f : β -> List (List UInt8)):OwnFrom B (λs W=>BMid w W p q cap g C S i b K (f s)):=λs X Y row hs hg hr =>
 have hr':=λr e=>(hr r e).2
 ⟨hs.chip.grown hg hr',boxed_own w.heap.size _ (λ_ : β => .pointer (some ⟨p,0,none⟩)) s X Y row hs.boxP hg hr',boxed_own (w.heap.size+1) _ (λ_ : β => .int .i64 (i:Int)) s X Y row hs.boxI hg hr',
  (qm hs.res hg hr').trans hs.res,(qm hs.var hg hr').trans hs.var,by obtain ⟨cs,t,e⟩:=hs.plain;exact ⟨cs,t,(qm e hg hr').trans e⟩,hs.len,
  λj hj=>(hs.pages j hj).grown hg hr',ownFrom_below (β := β) nL hB s X Y row hs.below hg hr⟩
theorem BMid.more {W W':World} {i K:Nat} {b:Bk} {l:List (List UInt8)} (h:BMid w W p q cap g C S i b K l) (hb:Below W.heap.size W W'):BMid w W' p q cap g C S i b K l where
 chip:=h.chip.below hb
 boxP:=(hb.block _ h.boxP.lt).trans h.boxP
 boxI:=(hb.block _ h.boxI.lt).trans h.boxI
 res:=(hb.block _ (qD h.res)).trans h.res
 var:=(hb.block _ (qD h.var)).trans h.var
 plain:=by obtain ⟨cs,t,e⟩:=h.plain;exact ⟨cs,t,(hb.block _ (qD e)).trans e⟩
 len:=h.len
 pages:=λj hj=>by
  obtain ⟨A,c,h1,h2,h4,h3⟩:=h.pages j hj
  refine ⟨A,c,(hb.cell (p:=⟨K+1,j,none⟩) (by obtain ⟨cs,t,e⟩:=h.plain;exact qD e)).trans h1,h2,h4,λhn=>?_⟩
  obtain ⟨ad,e,hb',hc⟩:=h3 hn
  exact ⟨ad,e,hb',λj hj=>(World.cell?_of_block (hb.block _ (by obtain ⟨o,ho,_⟩:=cells_of_cell (hc j hj);exact qD ho))).trans (hc j hj)⟩
 below:=h.below.trans (hb.mono h.below.size)
theorem BMid.facts {W:World} {i K j:Nat} {b:Bk} {l:List (List UInt8)} (h:BMid w W p q cap g C S i b K l) (hi:i<S.bl.length) (hj:j<S.np) :
 W.cell? ⟨w.heap.size,0,none⟩=some (.pointer (some ⟨p,0,none⟩))/\W.cell? ⟨w.heap.size+1,0,none⟩=some (.int .i64 i)/\W.cell? ⟨K,3,none⟩=some (.slice (some ⟨K+1,0,none⟩) S.np S.np) /\
 W.cell? ⟨p,0,none⟩=some (.slice (some ⟨q,0,none⟩) S.bl.length cap)/\W.cell? ⟨q,i * 4+3,none⟩=some (.slice (some ⟨g i,0,none⟩) S.np S.np)/\(∃v,W.cell? ⟨K+1,j,none⟩=some v)/\W.frozen? ⟨K+1,j,none⟩=false:=by
 obtain ⟨c0,_,_,_,_,_,_,_,_,_,_,_,_⟩:=qw h.chip.self
 obtain ⟨cs,ct,hg⟩:=h.plain
 obtain ⟨A,c,hpg,_⟩:=h.pages j (by rw[h.len];exact hj)
 exact ⟨h.boxP.cell,h.boxI.cell,by simp[World.cell?,h.var],c0,(h.chip.blocks i hi).row,⟨_,hpg⟩,qO hg j⟩
theorem BMid.lay {W6:World} {i K x:Nat} {b:Bk} {l:List (List UInt8)} {A:Option Addr} {L:List UInt8} (h6:BMid w W6 p q cap g C S i b K l) (hcb:CB W6 (λk=>K+1<k) A L) (hl:L.length<=2000) (hK:w.heap.size+1+1<K) (hown:∀b,Go.Proofs.YtinkkmlbhkfmnaaGreat.Own p q g C S.bl.length b->b<w.heap.size) :
 BMid w (W6.setCell ⟨K+1,x,none⟩ (.slice A L.length L.length)) p q cap g C S i b K (l.set x L):=by
 have far:∀k,k≠K+1->(W6.setCell ⟨K+1,x,none⟩ (.slice A L.length L.length)).heap[k]? = W6.heap[k]? := λk hk=>Below.heap_setCell W6 ⟨K+1,x,none⟩ _ k hk
 have hsm:∀b,Go.Proofs.YtinkkmlbhkfmnaaGreat.Own p q g C S.bl.length b->b≠K+1:=λb hb e=>by
  have:=hown b hb
  omega
 exact {
  chip:=h6.chip.kept (by simp) (λb hb=>far b (hsm b hb))
  boxP:=(far _ (by omega)).trans h6.boxP
  boxI:=(far _ (by omega)).trans h6.boxI
  res:=(far _ (by omega)).trans h6.res
  var:=(far _ (by omega)).trans h6.var
  plain:=by
   obtain ⟨cs,t,e⟩:=h6.plain
   exact ⟨_,t,heap_setCell_same W6 (K+1) x cs t _ e⟩
  len:=by rw[List.length_set];exact h6.len
  pages:=λk hk=>by
   have hk':k<l.length:=by simpa using hk
   rw[List.getElem_set]
   split
   . next e =>
     subst e
     obtain ⟨A0,c0,h1,_⟩:=h6.pages x hk'
     exact ⟨A,L.length,World.cell?_setCell_same _ _ _ h1,Nat.le_refl _,hl,hcb.keep (λb hb=>far b (by omega)) (λ_ h=>h)⟩
   . next e =>
     obtain ⟨A0,c0,h1,h2,h4,h3⟩:=h6.pages k hk'
     exact ⟨A0,c0,(World.cell?_setCell_other _ _ _ _ (λe'=>by injection e' with _ h2 _;exact e h2)).trans h1,h2,h4,h3.keep (λb hb=>far b (by omega)) λ_ h=>h⟩
  below:=h6.below.setCell (p:=⟨K+1,x,none⟩) (by simp;omega) _ }
theorem qP {B:Nat} {W W':World} (h:Below W.heap.size W W'):KeepsFrom B W W':=⟨h.size,λk _ _ hk _=>(h.block k (Array.getElem?_eq_some_iff.1 hk).1).trans hk⟩
theorem BMid.leave {W:World} {i K D m:Nat} {b:Bk} (h:BMid w W p q cap g C S i b K b.pages) (hD:w.heap.size+1+1<D) (hd:W.heap[D]? = some (.deferred (some []))) (hK:w.heap.size+1+1<K) (tmps:Array Value) (ht:tmps.getD 4 undef=.pointer (some ⟨w.heap.size+1+1,0,none⟩)) :
 LeavesInM Fence.wide m Tryz.prog Tryz.f48 tmps (zAy b w) [{ target:=Target.collected D,args:=#[] }] .returning
  ((((W.setCell ⟨w.heap.size+1+1,0,none⟩ (.bool b.bad)).setCell ⟨w.heap.size+1+1,1,none⟩ (.int .i64 b.next)).setCell ⟨w.heap.size+1+1,2,none⟩ (.int .i64 b.count)).setCell ⟨w.heap.size+1+1,3,none⟩ (.slice (some ⟨K+1,0,none⟩) S.np S.np)):=by
 obtain ⟨W4,hW4⟩:∃W4,W4=((((W.setCell ⟨w.heap.size+1+1,0,none⟩ (.bool b.bad)).setCell ⟨w.heap.size+1+1,1,none⟩ (.int .i64 b.next)).setCell ⟨w.heap.size+1+1,2,none⟩ (.int .i64 b.count)).setCell ⟨w.heap.size+1+1,3,none⟩ (.slice (some ⟨K+1,0,none⟩) S.np S.np)):=⟨_,rfl⟩
 rw[<- hW4]
 have far:∀k,k≠w.heap.size+1+1->W4.heap[k]? = W.heap[k]? := λk hk=>by
  rw[hW4]
  exact (((Below.heap_setCell _ ⟨w.heap.size+1+1,3,none⟩ _ k hk).trans (Below.heap_setCell _ ⟨w.heap.size+1+1,2,none⟩ _ k hk)).trans (Below.heap_setCell _ ⟨w.heap.size+1+1,1,none⟩ _ k hk)).trans (Below.heap_setCell _ ⟨w.heap.size+1+1,0,none⟩ _ k hk)
 have hres:W4.heap[w.heap.size+1+1]? = some (.cells #[.bool b.bad,.int .i64 b.next,.int .i64 b.count,.slice (some ⟨K+1,0,none⟩) S.np S.np] 101 (0,0)):=by
  rw[hW4]
  exact heap_setCell_same _ _ 3 _ _ _ (heap_setCell_same _ _ 2 _ _ _ (heap_setCell_same _ _ 1 _ _ _ (heap_setCell_same W _ 0 _ _ _ h.res)))
 have hsz:W4.heap.size=W.heap.size:=by rw[hW4];simp
 have hb4:Below w.heap.size w W4:=by
  rw[hW4]
  exact (((h.below.setCell (p:=⟨w.heap.size+1+1,0,none⟩) (by simp;omega) _).setCell (p:=⟨w.heap.size+1+1,1,none⟩) (by simp;omega) _).setCell (p:=⟨w.heap.size+1+1,2,none⟩) (by simp;omega) _).setCell (p:=⟨w.heap.size+1+1,3,none⟩) (by simp;omega) _
 have hd4:=(far D (by omega)).trans hd
 have hl:=h.len
 refine ⟨by simp,.inl ⟨_,_,rfl,run_takeDeferred hd4,?_⟩⟩
 have hg:=grownBy_putObj' W4 D (.deferred none)
 have hrow:∀r,some D=some r->∃o:Obj,W4.heap[r]? = some o/\o.isCells=false:=λr e=>by cases e;exact ⟨_,hd4,rfl⟩
 refine ⟨_,results_cell_row rfl _ _ (w.heap.size+1+1) _ _ _ _ ht ((qm hres hg hrow).trans hres) Tryz.underlying101 rfl (by kernel_rfl),_,rfl,⟨some ⟨K+1,0,none⟩,S.np,by rw[hl],by omega,λ_=>⟨K+1,rfl,by omega,λj hj=>?_⟩⟩,hb4.trans (belowK_b (w:=w) nL W4 D _ _ (by omega) hd4 rfl rfl)⟩
 obtain ⟨A,c,h1,h2,h4,h3⟩:=h.pages j hj
 refine PageAt.grown (W:=W4) ⟨A,c,(World.cell?_of_block (a:=⟨K+1,j,none⟩) (far _ (by show K+1≠_;omega))).trans h1,h2,h4,h3.keep (λb hb=>far b (by omega)) (λb hb=>by omega)⟩ hg hrow
theorem zDp {P:Program} {ops:Array Oper} {Q:Exit->Act->World->Prop} {o:Oper} {a:Act} {w w':World} {K:Act->World->Prop} {E:Prop} (hw:Region.wanted o (yielded ops a.tmps)=true) (hr:(execOp a.eval o).run P w=.ok .skip w') (h:K (a.put o.dst undef) w') :
 if Region.wanted o (yielded ops a.tmps)=true then o.wp P a w K Q else E:=by
 rw[if_pos hw]
 unfold Oper.wp
 rw[hr]
 exact h
theorem zQs {W0:World} {i:Nat} {b:Bk} (h0:LAt W0 p q cap g C S) (bP:Boxed W0 w.heap.size 29 (.pointer (some ⟨p,0,none⟩))) (bI:Boxed W0 (w.heap.size+1) 3 (.int .i64 i)) (hr:W0.heap[w.heap.size+1+1]? = some (.cells #[.bool false,.int .i64 0,.int .i64 0,.slice none 0 0] 101 (0,0))) (hB0:Below w.heap.size w W0) (hs:w.heap.size<=W0.heap.size) (W2:World)
 (hW2:W2=((((W0.alloc (.cells #[.bool b.bad,.int .i64 b.next,.int .i64 b.count,.slice (some ⟨W0.heap.size+1,0,none⟩) S.np S.np] 101)).alloc (.cells (madeCells #[Value.slice none 0 0] S.np) 34)).alloc (.cells #[.int .i64 (S.np:Int)] 3)).alloc (.cells #[.int .i64 0] 3)).drew) :
 Boxed W2 (W0.heap.size+1+1) 3 (.int .i64 (S.np:Int))/\Boxed W2 (W0.heap.size+1+1+1) 3 (.int .i64 0)/\BMid w W2 p q cap g C S i b W0.heap.size (List.replicate S.np []):=by
 obtain ⟨Wa,hWa⟩:∃Wa,Wa=W0.alloc (.cells #[.bool b.bad,.int .i64 b.next,.int .i64 b.count,.slice (some ⟨W0.heap.size+1,0,none⟩) S.np S.np] 101):=⟨_,rfl⟩
 obtain ⟨Wb,hWb⟩:∃Wb,Wb=Wa.alloc (.cells (madeCells #[Value.slice none 0 0] S.np) 34):=⟨_,rfl⟩
 rw[<- hWa,<- hWb] at hW2
 have sa:Wa.heap.size=W0.heap.size+1:=by rw[hWa];simp
 have sb:Wb.heap.size=W0.heap.size+1+1:=by rw[hWb];simp[sa]
 have b1:=Boxed.new Wb 3 (.int .i64 (S.np:Int))
 have b2:=Boxed.new (Wb.alloc (.cells #[.int .i64 (S.np:Int)] 3)) 3 (.int .i64 0)
 rw[World.size_alloc] at b2
 rw[sb] at b1 b2
 have hb2:Below Wb.heap.size Wb W2:=by rw[hW2];exact (((Below.refl _ Wb).alloc nL _).alloc (by simp) _).drew
 have hv:Wa.heap[W0.heap.size]? = some (.cells #[.bool b.bad,.int .i64 b.next,.int .i64 b.count,.slice (some ⟨W0.heap.size+1,0,none⟩) S.np S.np] 101 (0,0)):=by rw[hWa];exact heap_alloc_new _ _
 have hrow:Wb.heap[W0.heap.size+1]? = some (.cells (madeCells #[Value.slice none 0 0] S.np) 34 (0,0)):=by rw[hWb,<- sa];exact heap_alloc_new _ _
 have hab:Below Wa.heap.size Wa Wb:=by rw[hWb];exact (Below.refl _ Wa).alloc nL _
 have h0a:Below W0.heap.size W0 Wa:=by rw[hWa];exact (Below.refl _ W0).alloc nL _
 have h0b:Below W0.heap.size W0 Wb:=h0a.trans (hab.mono (by omega))
 refine ⟨by rw[hW2];exact b1.alloc _,by rw[hW2];exact b2,BMid.more (W:=Wb) ?_ hb2⟩
 exact {
  chip:=h0.below h0b
  boxP:=(h0b.block _ bP.lt).trans bP
  boxI:=(h0b.block _ bI.lt).trans bI
  res:=(h0b.block _ (qD hr)).trans hr
  var:=(hab.block _ (qD hv)).trans hv
  plain:=⟨_,_,hrow⟩
  len:=by simp
  pages:=λj hj=>⟨none,0,by
   have hj':j<S.np:=by simpa using hj
   simp[World.cell?,hrow,zNg,hj'],by simp,by simp,by simpa using CB.nil⟩
  below:=hB0.trans (h0b.mono hs) }
theorem yAu (i:Int) (h:LAt w p q cap g C S) (hi:isL S i=false):Calls Tryz.prog 48 #[.pointer (some ⟨p,0,none⟩),.int .i64 i] w (zAy noB w):=by
 have h0:=((h.alloc (.cells #[.pointer (some ⟨p,0,none⟩)] 29)).alloc (.cells #[.int .i64 i] 3)).alloc (.cells #[.bool false,.int .i64 0,.int .i64 0,.slice none 0 0] 101)
 refine callsIn_wide.1 (callsIn_of_wp_marks (n:=3) Tryz.func48 rfl trivial ?_ rfl)
 simp only[Tryz.ntmps48,List.size_toArray,List.length_cons,List.length_nil,Nat.reduceAdd,Nat.reduceSub,Array.replicate_succ,Array.replicate_zero,List.push_toArray,List.append_toArray,List.nil_append,List.cons_append]
 gi_wp2_with (refine ⟨trivial,?_⟩;(try refine ⟨zDf _,?_⟩);gi_at_call 71;refine (callsIn_wide.2 (zBp i h0)).mono ?_;rintro e w1 ⟨rfl,hw1⟩;obtain rfl:=hw1.symm;rw[hi])
 exact ⟨_,results_cell_row rfl _ _ (w.heap.size+1+1) _ _ _ _ rfl (by have:=heap_alloc_new ((w.alloc (.cells #[Value.pointer (some ⟨p,0,none⟩)] 29)).alloc (.cells #[Value.int .i64 i] 3)) (.cells #[Value.bool false,Value.int .i64 0,Value.int .i64 0,Value.slice none 0 0] 101);simp only[World.size_alloc] at this;exact this) Tryz.underlying101 rfl (by kernel_rfl),_,rfl,zUg _ _,(((Below.refl _ w).alloc nL _).alloc (by simp) _).alloc (by simp;omega) _⟩
theorem block_in (i:Nat) (h:LAt w p q cap g C S) (hi:i<S.bl.length):Calls Tryz.prog 48 #[.pointer (some ⟨p,0,none⟩),.int .i64 i] w (zAy S.bl[i] w):=by
 have his:isL S i=true:=by simp[isL];omega
 obtain ⟨W0,hW0⟩:∃W0,((w.alloc (.cells #[.pointer (some ⟨p,0,none⟩)] 29)).alloc (.cells #[.int .i64 i] 3)).alloc (.cells #[.bool false,.int .i64 0,.int .i64 0,.slice none 0 0] 101)=W0:=⟨_,rfl⟩
 have hB0:Below w.heap.size w W0:=by rw[<- hW0];exact (((Below.refl _ w).alloc nL _).alloc (by simp) _).alloc (by simp;omega) _
 have h0:=h.below hB0
 have hb:=h0.blocks i hi
 have r0:=hb.bad
 have r1:=hb.next
 have r2:=hb.count
 have r3:=hb.row
 have bP:Boxed W0 w.heap.size 29 (.pointer (some ⟨p,0,none⟩)):=by rw[<- hW0];exact ((Boxed.new w _ _).alloc _).alloc _
 have bI:Boxed W0 (w.heap.size+1) 3 (.int .i64 i):=by
  rw[<- hW0];have:=Boxed.new (w.alloc (.cells #[.pointer (some ⟨p,0,none⟩)] 29)) 3 (.int .i64 (i:Int));rw[World.size_alloc] at this;exact this.alloc _
 obtain ⟨c0,c1,_,_,_,_,_,_,_,_,_,_,_⟩:=qw h0.self
 have cP:=bP.cell
 have cI:=bI.cell
 have hs0:W0.heap.size=w.heap.size+3:=by rw[<- hW0];simp
 have hp0:=h0.lt p (.inl rfl)
 have hq0:=h0.lt q (.inr (.inl rfl))
 have hx0:w.heap.size<W0.heap.size:=by omega
 have hx1:w.heap.size+1<W0.heap.size:=by omega
 have HS0:=hI hs0
 have hres:W0.heap[w.heap.size+1+1]? = some (.cells #[.bool false,.int .i64 0,.int .i64 0,.slice none 0 0] 101 (0,0)):=by
  rw[<- hW0];have:=heap_alloc_new ((w.alloc (.cells #[.pointer (some ⟨p,0,none⟩)] 29)).alloc (.cells #[.int .i64 i] 3)) (.cells #[.bool false,.int .i64 0,.int .i64 0,.slice none 0 0] 101);simp only[World.size_alloc] at this;exact this
 clear hs0
 have hnp:=h.small.2.1
 have hnp2:=h.small.2.2
 have hbl:=h.small.1
 clear hb
 refine callsIn_wide.1 (callsIn_of_wp_marks (n:=3) Tryz.func48 rfl trivial ?_ rfl)
 simp only[Tryz.ntmps48,List.size_toArray,List.length_cons,List.length_nil,Nat.reduceAdd,Nat.reduceSub,Array.replicate_succ,Array.replicate_zero,List.push_toArray,List.append_toArray,List.nil_append,List.cons_append]
 gi_wp2_with (refine ⟨trivial,?_⟩;(try refine ⟨zDf _,?_⟩);gi_at_call 71;refine (callsIn_wide.2 (zBp i h0)).mono ?_;rintro e w1 ⟨rfl,hw1⟩;obtain rfl:=hw1.symm;rw[his])
 clear hW0
 have hmk:=zBb S.np (by omega)
 gi_region
 gi_wp2_with (refine ⟨trivial,?_⟩;(try refine ⟨zDf _,?_⟩);gi_at_call 47;refine (callsIn_wide.2 (yf _ _ _)).mono ?_;rintro e w1 ⟨rfl,rfl⟩)
 refine vj ?_
 intro W2 hW2
 obtain ⟨bN,bF,hM⟩:=zQs (b:=S.bl[i]) h0 bP bI hres hB0 (by omega) W2 hW2
 have H2:=hI hM
 have HS:=hI (show w.heap.size<=W2.heap.size from hM.below.size)
 have hlen:=(h.blocks i hi).len
 have hown:=h.lt
 have hKs:w.heap.size+1+1<W0.heap.size:=by rw[HS0.out];omega
 obtain ⟨K,hK⟩:∃K,W0.heap.size=K:=⟨_,rfl⟩
 rw[hK] at bN bF H2 hKs ⊢
 clear hW2 hM r0 r1 r2 r3 c0 c1 cP cI hp0 hq0 hx0 hx1 hmk bP bI h0 hB0 hres HS0
 apply wpIn_rangeFunc_ownG rfl (n:=3) (by omega) (gf:=83) (lb:=#[.pointer (some ⟨K+1+1,0,none⟩),.pointer (some ⟨K+1+1+1,0,none⟩)]) rfl trivial vu
  (vC (N:=S.np) (λ_ _=>True) (3 - 1) _ _ (by omega) hnp W2 bN bF) (λ_ _=>trivial) (λ_ _ _ _ _ _ _ _=>trivial) bR (λ_=>rfl)
  (λpre W=>BMid w W p q cap g C S i S.bl[i] K (zSb S.bl[i].pages (List.replicate S.np []) pre))
  (λ_ _ _=>False)
  ?own ?ownx ?start
 case own=>exact bmid_own HS.out i S.bl[i] K (λpre=>zSb S.bl[i].pages (List.replicate S.np []) pre)
 case ownx=>exact λ_ _ _ _ _ h _ _=>h
 case start=>exact H2.out
 case hassign =>
  intro l x W K hK
  gi_wp2
  exact hK
 case hbody =>
  rintro l pre x W hM hlt
  obtain ⟨cP,cI,cV,c0,cr,⟨v,cv⟩,cf⟩:=hM.facts hi x.isLt
  obtain ⟨A,c,hpg,hlc,hl2,hcb⟩:=(hM.chip.blocks i hi).pages x.val (by rw[hlen];exact x.isLt)
  obtain ⟨L0,hL0⟩:∃L0,L0=S.bl[i].pages[x.val]'(by rw[hlen];exact x.isLt):=⟨_,rfl⟩
  rw[<- hL0] at hpg hlc hl2 hcb
  have hL1:S.bl[i].pages.getD x.val []=L0:=by rw[hL0];simp[List.getD,List.getElem?_eq_getElem (show x.val<S.bl[i].pages.length by rw[hlen];exact x.isLt)]
  have HL1:=hI hL1
  clear hL0 hL1
  have HV:=hI (show Value.int .i64 2000=.int .i64 ((2000:Nat):Int) from rfl)
  have hrb:=hcb.rb hM.chip.cl
  have HM:=hI hM
  have hx:=x.isLt
  gi_wp2
  have hl3:L0.length<=140737488355328:=Nat.le_trans hl2 (by decide)
  clear cP cI cV c0 cr cv cf hrb
  refine yG (λj v w'=>(j=14->∃A2 L,v=.slice A2 L.length L.length/\Hid (L=L0)/\CB w' (λk=>K+1<k) A2 L)/\(j=16->BMid w w' p q cap g C S i S.bl[i] K ((zSb S.bl[i].pages (List.replicate S.np []) pre).set x.val L0))/\(j≠14->j≠16->v=(match j with | 0=>.pointer (some ⟨K,3,none⟩) | 1=>.slice (some ⟨K+1,0,none⟩) S.np S.np | 2=>.int .i64 (x.val:Int) | 3=>.pointer (some ⟨p,0,none⟩) | 4=>.pointer (some ⟨p,0,none⟩) | 5=>.pointer (some ⟨p,0,none⟩) | 6=>.slice (some ⟨q,0,none⟩) S.bl.length cap | 7=>.int .i64 (i:Int) | 8=>.pointer (some ⟨q,i * 4,none⟩) | 9=>.pointer (some ⟨q,i * 4+3,none⟩) | 10=>.slice (some ⟨g i,0,none⟩) S.np S.np | 11=>.int .i64 (x.val:Int) | 12=>.pointer (some ⟨g i,x.val,none⟩) | 13=>.slice A L0.length c | 15=>.pointer (some ⟨K+1,x.val,none⟩) | _=>undef:Value)))
   (λw'=>(∃l',(l'=zSb S.bl[i].pages (List.replicate S.np []) pre\/l'=(zSb S.bl[i].pages (List.replicate S.np []) pre).set x.val L0)/\BMid w w' p q cap g C S i S.bl[i] K l')/\w'.cell? ⟨g i,x.val,none⟩=some (.slice A L0.length c)/\CB w' C A L0/\KeepsFrom W2.heap.size W w')
   (λw1 w2=>w1.heap.size<=w2.heap.size/\(∀b,K+1<b->b<w1.heap.size->w2.heap[b]? = w1.heap[b]?)/\(BMid w w1 p q cap g C S i S.bl[i] K ((zSb S.bl[i].pages (List.replicate S.np []) pre).set x.val L0)->BMid w w2 p q cap g C S i S.bl[i] K ((zSb S.bl[i].pages (List.replicate S.np []) pre).set x.val L0)))
   (by kernel_rfl) (by kernel_rfl) (by kernel_rfl) (by kernel_rfl) ?hR ?hG ?hops ?hend
  case hR =>
   intro j v w1 w2 ⟨h1,h2,h3⟩ ⟨r1,r2,r3⟩
   refine ⟨λe=>?_,λe=>r3 (h2 e),h3⟩
   obtain ⟨A2,L,e1,e2,hc⟩:=h1 e
   refine ⟨A2,L,e1,e2,λhn=>?_⟩
   obtain ⟨ad,ea,hb,hcc⟩:=hc hn
   exact ⟨ad,ea,hb,λj hj=>(World.cell?_of_block (r2 _ (by rw[vH];exact hb) (by obtain ⟨o,ho,_⟩:=cells_of_cell (hcc j hj);exact (Array.getElem?_eq_some_iff.1 ho).1))).trans (hcc j hj)⟩
  case hG=>exact ⟨⟨_,.inl rfl,hM.more bR.drew⟩,hpg,hcb,qP bR.drew⟩
  case hops =>
   refine OpsOk.cons ?_ (OpsOk.cons ?_ (OpsOk.cons ?_ (OpsOk.cons ?_ (OpsOk.cons ?_ (OpsOk.cons ?_ (OpsOk.cons ?_ (OpsOk.cons ?_ (OpsOk.cons ?_ (OpsOk.cons ?_ (OpsOk.cons ?_ (OpsOk.cons ?_ (OpsOk.cons ?_ (OpsOk.cons ?_ (OpsOk.cons ?_ (OpsOk.cons ?_ (OpsOk.cons ?_ (OpsOk.nil)))))))))))))))))
   . intro a w1 Kx hG need old hsz hK
     obtain ⟨⟨l',hll,hM1⟩,hcp,hcb1,hkf⟩:=hG
     have e0:a.tmps[5]?.getD undef=.pointer (some ⟨K,0,none⟩):=by
      exact og (old 5 (by kernel_rfl))
     refine qB (v:=.pointer (some ⟨K,3,none⟩)) (qA rfl) ?_ (hK _ w1 ⟨λe=>absurd e (by decide),λe=>absurd e (by decide),λ_ _=>rfl⟩ ⟨⟨l',hll,hM1⟩,hcp,hcb1,hkf⟩ ⟨Nat.le_refl _,λ_ _ _=>rfl,id⟩)
     simp[execOp,go_sem,e0]
   . intro a w1 Kx hG need old hsz hK
     obtain ⟨⟨l',hll,hM1⟩,hcp,hcb1,hkf⟩:=hG
     obtain ⟨cP,cI,cV,c0,cr,⟨v,cv⟩,cf⟩:=hM1.facts hi x.isLt
     clear cv cf
     have e0:a.tmps[31]?.getD undef=.pointer (some ⟨K,3,none⟩):=by
      exact og ((need 0 (by kernel_rfl) (by kernel_rfl)).2.2 (by decide) (by decide))
     refine qB (v:=.slice (some ⟨K+1,0,none⟩) S.np S.np) (qA rfl) ?_ (hK _ w1 ⟨λe=>absurd e (by decide),λe=>absurd e (by decide),λ_ _=>rfl⟩ ⟨⟨l',hll,hM1⟩,hcp,hcb1,hkf⟩ ⟨Nat.le_refl _,λ_ _ _=>rfl,id⟩)
     simp[execOp,go_sem,e0,cV]
   . intro a w1 Kx hG need old hsz hK
     obtain ⟨⟨l',hll,hM1⟩,hcp,hcb1,hkf⟩:=hG
     have e0:a.tmps[6]?.getD undef=.int .i64 (x.val:Int):=by
      exact og (old 6 (by kernel_rfl))
     refine qB (v:=.int .i64 (x.val:Int)) (qA rfl) ?_ (hK _ w1 ⟨λe=>absurd e (by decide),λe=>absurd e (by decide),λ_ _=>rfl⟩ ⟨⟨l',hll,hM1⟩,hcp,hcb1,hkf⟩ ⟨Nat.le_refl _,λ_ _ _=>rfl,id⟩)
     simp[execOp,go_sem,e0]
   . intro a w1 Kx hG need old hsz hK
     obtain ⟨⟨l',hll,hM1⟩,hcp,hcb1,hkf⟩:=hG
     obtain ⟨cP,cI,cV,c0,cr,⟨v,cv⟩,cf⟩:=hM1.facts hi x.isLt
     clear cv cf
     have e0:a.tmps[2]?.getD undef=.pointer (some ⟨w.heap.size,0,none⟩):=by
      exact og (old 2 (by kernel_rfl))
     refine qB (v:=.pointer (some ⟨p,0,none⟩)) (qA rfl) ?_ (hK _ w1 ⟨λe=>absurd e (by decide),λe=>absurd e (by decide),λ_ _=>rfl⟩ ⟨⟨l',hll,hM1⟩,hcp,hcb1,hkf⟩ ⟨Nat.le_refl _,λ_ _ _=>rfl,id⟩)
     simp[execOp,go_sem,e0,cP]
   . intro a w1 Kx hG need old hsz hK
     obtain ⟨⟨l',hll,hM1⟩,hcp,hcb1,hkf⟩:=hG
     have e0:a.tmps[34]?.getD undef=.pointer (some ⟨p,0,none⟩):=by
      exact og ((need 3 (by kernel_rfl) (by kernel_rfl)).2.2 (by decide) (by decide))
     refine qB (v:=.pointer (some ⟨p,0,none⟩)) (qA rfl) ?_ (hK _ w1 ⟨λe=>absurd e (by decide),λe=>absurd e (by decide),λ_ _=>rfl⟩ ⟨⟨l',hll,hM1⟩,hcp,hcb1,hkf⟩ ⟨Nat.le_refl _,λ_ _ _=>rfl,id⟩)
     simp[execOp,go_sem,e0]
   . intro a w1 Kx hG need old hsz hK
     obtain ⟨⟨l',hll,hM1⟩,hcp,hcb1,hkf⟩:=hG
     have e0:a.tmps[35]?.getD undef=.pointer (some ⟨p,0,none⟩):=by
      exact og ((need 4 (by kernel_rfl) (by kernel_rfl)).2.2 (by decide) (by decide))
     refine qB (v:=.pointer (some ⟨p,0,none⟩)) (qA rfl) ?_ (hK _ w1 ⟨λe=>absurd e (by decide),λe=>absurd e (by decide),λ_ _=>rfl⟩ ⟨⟨l',hll,hM1⟩,hcp,hcb1,hkf⟩ ⟨Nat.le_refl _,λ_ _ _=>rfl,id⟩)
     simp[execOp,go_sem,e0]
   . intro a w1 Kx hG need old hsz hK
     obtain ⟨⟨l',hll,hM1⟩,hcp,hcb1,hkf⟩:=hG
     obtain ⟨cP,cI,cV,c0,cr,⟨v,cv⟩,cf⟩:=hM1.facts hi x.isLt
     clear cv cf
     have e0:a.tmps[36]?.getD undef=.pointer (some ⟨p,0,none⟩):=by
      exact og ((need 5 (by kernel_rfl) (by kernel_rfl)).2.2 (by decide) (by decide))
     refine qB (v:=.slice (some ⟨q,0,none⟩) S.bl.length cap) (qA rfl) ?_ (hK _ w1 ⟨λe=>absurd e (by decide),λe=>absurd e (by decide),λ_ _=>rfl⟩ ⟨⟨l',hll,hM1⟩,hcp,hcb1,hkf⟩ ⟨Nat.le_refl _,λ_ _ _=>rfl,id⟩)
     simp[execOp,go_sem,e0,c0]
   . intro a w1 Kx hG need old hsz hK
     obtain ⟨⟨l',hll,hM1⟩,hcp,hcb1,hkf⟩:=hG
     obtain ⟨cP,cI,cV,c0,cr,⟨v,cv⟩,cf⟩:=hM1.facts hi x.isLt
     clear cv cf
     have e0:a.tmps[3]?.getD undef=.pointer (some ⟨w.heap.size+1,0,none⟩):=by
      exact og (old 3 (by kernel_rfl))
     refine qB (v:=.int .i64 (i:Int)) (qA rfl) ?_ (hK _ w1 ⟨λe=>absurd e (by decide),λe=>absurd e (by decide),λ_ _=>rfl⟩ ⟨⟨l',hll,hM1⟩,hcp,hcb1,hkf⟩ ⟨Nat.le_refl _,λ_ _ _=>rfl,id⟩)
     simp[execOp,go_sem,e0,cI]
   . intro a w1 Kx hG need old hsz hK
     obtain ⟨⟨l',hll,hM1⟩,hcp,hcb1,hkf⟩:=hG
     have e0:a.tmps[37]?.getD undef=.slice (some ⟨q,0,none⟩) S.bl.length cap:=by
      exact og ((need 6 (by kernel_rfl) (by kernel_rfl)).2.2 (by decide) (by decide))
     have e1:a.tmps[38]?.getD undef=.int .i64 (i:Int):=by
      exact og ((need 7 (by kernel_rfl) (by kernel_rfl)).2.2 (by decide) (by decide))
     refine qB (v:=.pointer (some ⟨q,i * 4,none⟩)) (qA rfl) ?_ (hK _ w1 ⟨λe=>absurd e (by decide),λe=>absurd e (by decide),λ_ _=>rfl⟩ ⟨⟨l',hll,hM1⟩,hcp,hcb1,hkf⟩ ⟨Nat.le_refl _,λ_ _ _=>rfl,id⟩)
     simp[execOp,go_sem,e0,e1,hi]
   . intro a w1 Kx hG need old hsz hK
     obtain ⟨⟨l',hll,hM1⟩,hcp,hcb1,hkf⟩:=hG
     have e0:a.tmps[39]?.getD undef=.pointer (some ⟨q,i * 4,none⟩):=by
      exact og ((need 8 (by kernel_rfl) (by kernel_rfl)).2.2 (by decide) (by decide))
     refine qB (v:=.pointer (some ⟨q,i * 4+3,none⟩)) (qA rfl) ?_ (hK _ w1 ⟨λe=>absurd e (by decide),λe=>absurd e (by decide),λ_ _=>rfl⟩ ⟨⟨l',hll,hM1⟩,hcp,hcb1,hkf⟩ ⟨Nat.le_refl _,λ_ _ _=>rfl,id⟩)
     simp[execOp,go_sem,e0]
   . intro a w1 Kx hG need old hsz hK
     obtain ⟨⟨l',hll,hM1⟩,hcp,hcb1,hkf⟩:=hG
     obtain ⟨cP,cI,cV,c0,cr,⟨v,cv⟩,cf⟩:=hM1.facts hi x.isLt
     clear cv cf
     have e0:a.tmps[40]?.getD undef=.pointer (some ⟨q,i * 4+3,none⟩):=by
      exact og ((need 9 (by kernel_rfl) (by kernel_rfl)).2.2 (by decide) (by decide))
     refine qB (v:=.slice (some ⟨g i,0,none⟩) S.np S.np) (qA rfl) ?_ (hK _ w1 ⟨λe=>absurd e (by decide),λe=>absurd e (by decide),λ_ _=>rfl⟩ ⟨⟨l',hll,hM1⟩,hcp,hcb1,hkf⟩ ⟨Nat.le_refl _,λ_ _ _=>rfl,id⟩)
     simp[execOp,go_sem,e0,cr]
   . intro a w1 Kx hG need old hsz hK
     obtain ⟨⟨l',hll,hM1⟩,hcp,hcb1,hkf⟩:=hG
     have e0:a.tmps[6]?.getD undef=.int .i64 (x.val:Int):=by
      exact og (old 6 (by kernel_rfl))
     refine qB (v:=.int .i64 (x.val:Int)) (qA rfl) ?_ (hK _ w1 ⟨λe=>absurd e (by decide),λe=>absurd e (by decide),λ_ _=>rfl⟩ ⟨⟨l',hll,hM1⟩,hcp,hcb1,hkf⟩ ⟨Nat.le_refl _,λ_ _ _=>rfl,id⟩)
     simp[execOp,go_sem,e0]
   . intro a w1 Kx hG need old hsz hK
     obtain ⟨⟨l',hll,hM1⟩,hcp,hcb1,hkf⟩:=hG
     have e0:a.tmps[41]?.getD undef=.slice (some ⟨g i,0,none⟩) S.np S.np:=by
      exact og ((need 10 (by kernel_rfl) (by kernel_rfl)).2.2 (by decide) (by decide))
     have e1:a.tmps[42]?.getD undef=.int .i64 (x.val:Int):=by
      exact og ((need 11 (by kernel_rfl) (by kernel_rfl)).2.2 (by decide) (by decide))
     refine qB (v:=.pointer (some ⟨g i,x.val,none⟩)) (qA rfl) ?_ (hK _ w1 ⟨λe=>absurd e (by decide),λe=>absurd e (by decide),λ_ _=>rfl⟩ ⟨⟨l',hll,hM1⟩,hcp,hcb1,hkf⟩ ⟨Nat.le_refl _,λ_ _ _=>rfl,id⟩)
     simp[execOp,go_sem,e0,e1,hx]
   . intro a w1 Kx hG need old hsz hK
     obtain ⟨⟨l',hll,hM1⟩,hcp,hcb1,hkf⟩:=hG
     have e0:a.tmps[43]?.getD undef=.pointer (some ⟨g i,x.val,none⟩):=by
      exact og ((need 12 (by kernel_rfl) (by kernel_rfl)).2.2 (by decide) (by decide))
     refine qB (v:=.slice A L0.length c) (qA rfl) ?_ (hK _ w1 ⟨λe=>absurd e (by decide),λe=>absurd e (by decide),λ_ _=>rfl⟩ ⟨⟨l',hll,hM1⟩,hcp,hcb1,hkf⟩ ⟨Nat.le_refl _,λ_ _ _=>rfl,id⟩)
     simp[execOp,go_sem,e0,hcp]
   . intro a w1 Kx hG need old hsz hK
     obtain ⟨⟨l',hll,hM1⟩,hcp,hcb1,hkf⟩:=hG
     have e0:a.tmps[44]?.getD undef=.slice A L0.length c:=by
      exact og ((need 13 (by kernel_rfl) (by kernel_rfl)).2.2 (by decide) (by decide))
     refine qM (qA rfl) (f:=86) (args:=#[.slice A L0.length c,.int .i64 2000]) ?run ((zCo A c L0 2000 w1 w1.heap.size (hcb1.rb hM1.chip.cl) nL hl3 _ HV.out).mono ?post)
     case run=>simp[go_sem,e0]
     case post =>
      rintro e w2 ⟨A2,L,rfl,hL,hn⟩
      refine ⟨_,rfl,hK _ w2 ⟨λ_=>⟨A2,L,rfl,hL.out.trans (List.take_of_length_le hl2),hn.1.keep (λ_ _=>rfl) (λb hb=>by have:=qD hM1.plain.choose_spec.choose_spec;omega)⟩,λe=>absurd e (by decide),λe=>absurd rfl e⟩ ⟨⟨l',hll,hM1.more hn.2⟩,?_,?_,?_⟩ ⟨hn.2.size,λb _ hb=>hn.2.block b hb,λh=>BMid.more h hn.2⟩⟩
      . exact (hn.2.cell (p:=⟨g i,x.val,none⟩) (qD (hM1.chip.blocks i hi).plain.choose_spec.choose_spec)).trans hcp
      . exact hcb1.keep (λb hb=>hn.2.block b (hM1.chip.cl b hb)) λ_ h=>h
      . exact hkf.trans (qP hn.2)
   . intro a w1 Kx hG need old hsz hK
     obtain ⟨⟨l',hll,hM1⟩,hcp,hcb1,hkf⟩:=hG
     have e0:a.tmps[32]?.getD undef=.slice (some ⟨K+1,0,none⟩) S.np S.np:=by
      exact og ((need 1 (by kernel_rfl) (by kernel_rfl)).2.2 (by decide) (by decide))
     have e1:a.tmps[33]?.getD undef=.int .i64 (x.val:Int):=by
      exact og ((need 2 (by kernel_rfl) (by kernel_rfl)).2.2 (by decide) (by decide))
     refine qB (v:=.pointer (some ⟨K+1,x.val,none⟩)) (qA rfl) ?_ (hK _ w1 ⟨λe=>absurd e (by decide),λe=>absurd e (by decide),λ_ _=>rfl⟩ ⟨⟨l',hll,hM1⟩,hcp,hcb1,hkf⟩ ⟨Nat.le_refl _,λ_ _ _=>rfl,id⟩)
     simp[execOp,go_sem,e0,e1,hx]
   . intro a w1 Kx hG need old hsz hK
     obtain ⟨⟨l',hll,hM1⟩,hcp,hcb1,hkf⟩:=hG
     have e0:a.tmps[46]?.getD undef=.pointer (some ⟨K+1,x.val,none⟩):=by
      exact og ((need 15 (by kernel_rfl) (by kernel_rfl)).2.2 (by decide) (by decide))
     obtain ⟨A2,L,e1',hL,hcb2⟩:=(need 14 (by kernel_rfl) (by kernel_rfl)).1 rfl
     have e1:a.tmps[45]?.getD undef=.slice A2 L.length L.length:=by
      exact og (e1')
     obtain ⟨_,_,_,_,_,⟨v,cv⟩,cf⟩:=hM1.facts hi x.isLt
     have hLe:L=L0:=hL.out
     have hM2:=hM1.lay (x:=x.val) hcb2 (by rw[hLe];exact hl2) hKs hown
     have hle:l'.set x.val L=(zSb S.bl[i].pages (List.replicate S.np []) pre).set x.val L0:=by
      rcases hll with e | e
      . rw[e,hLe]
      . rw[e,hLe,List.set_set]
     rw[hle] at hM2
     have hgK:g i≠K+1:=λe=>by have:=hown (g i) (.inr (.inr (.inl ⟨i,hi,rfl⟩)));omega
     refine zDp (qA rfl) (w':=w1.setCell ⟨K+1,x.val,none⟩ (.slice A2 L.length L.length)) ?_ (hK _ _ ⟨λe=>absurd e (by decide),λ_=>hM2,λ_ e=>absurd rfl e⟩ ⟨⟨_,.inr rfl,hM2⟩,?_,?_,?_⟩ ⟨by simp,λb hb _=>Below.heap_setCell _ ⟨K+1,x.val,none⟩ _ b (Nat.ne_of_gt hb),λ_=>hM2⟩)
     . simp[execOp,go_sem,e0,e1,cv,cf]
     . exact (World.cell?_of_block (a:=⟨g i,x.val,none⟩) (Below.heap_setCell _ ⟨K+1,x.val,none⟩ _ _ hgK)).trans hcp
     . exact hcb1.keep (λb hb=>Below.heap_setCell _ ⟨K+1,x.val,none⟩ _ b (λe=>by have h3:b=K+1:=e;have h4:=hown b (.inr (.inr (.inr hb)));omega)) λ_ h=>h
     . exact hkf.trans ((KeepsOthers.setCell _ _ _).from _)
  case hend =>
   intro a w' hG _ _ hφ _
   have h16:=(hφ 16 (by kernel_rfl)).2.1 rfl
   rw[<- HL1.out] at h16
   refine ⟨hG.2.2.2,trivial,?_⟩
   show BMid w w' p q cap g C S i S.bl[i] K (zSb S.bl[i].pages (List.replicate S.np []) (pre++[x]))
   rw[zNm]
   exact h16
 case hdone =>
  rintro D ys W hD rfl hM hK
  rw[lays_all _ _ hlen (by simp)] at hM
  obtain ⟨v0,v1,v2,v3⟩:=cells4 hM.var
  obtain ⟨r0,r1,r2,r3⟩:=cells4 hM.res
  have f0:=qO hM.res 0
  have f1:=qO hM.res 1
  have f2:=qO hM.res 2
  have f3:=qO hM.res 3
  gi_wp2
  exact hM.leave (by have:=H2.out;have h3:=qD this.plain.choose_spec.choose_spec;omega) hK (by omega) _ rfl
 case hstop =>
  rintro D c pre W hD hpre h hK
  exact h.elim
theorem zOj (i:Int) (h:LAt w p q cap g C S):Calls Tryz.prog 48 #[.pointer (some ⟨p,0,none⟩),.int .i64 i] w (zAy (qI S i) w):=by
 cases hi:isL S i with
 | false =>
  have e:qI S i=noB:=by simp[qI,hi]
  rw[e]
  exact yAu i h hi
 | true =>
  have hi':=hi
  obtain ⟨k,rfl,hk⟩:=zAd hi
  have e:qI S k=S.bl[k]:=by simp only[qI,hi',if_true,vi hk]
  rw[e]
  exact block_in k h hk
end
end
section
open Go.RowKit Go.Shelf
attribute [local go_sem] Oper.semAt_some
section
variable {w:World}
theorem zIk:(Tryz.prog.info? 101).map (λi=>(i.zero,i.size,i.bytes))=some (some (.agg #[.bool false,.int .i64 0,.int .i64 0,.slice none 0 0]),4,48):=by kernel_rfl
theorem zPw (n:Nat) (h:n<=64) (w:World):(Instr.makeSlice 50 (.int .i64 n) (.int .i64 n)).run Tryz.prog w=.ok (.slice (some ⟨w.heap.size,0,none⟩) n n) (w.alloc (.cells (madeCells #[.bool false,.int .i64 0,.int .i64 0,.slice none 0 0] (n * 4)) 101)):=by
 obtain ⟨i,hi,hz,hs,hb⟩:=info_parts zIk
 have:=run_make (P:=Tryz.prog) w 50 101 i _ Tryz.underlying50 hi hz .i64 .i64 n n (by omega) (Int.le_refl _) (by rw[hb];omega) (by omega)
 simp only[Int.toNat_natCast,hs] at this
 exact this
def zCp (np:Nat):Bk:=⟨false,0,0,List.replicate np []⟩
def zC (n np:Nat):LS:=⟨List.replicate n (zCp np),np,0,0,0,false,⟨false,0⟩,⟨false,0⟩,⟨false,0⟩,0⟩
structure NMid (w W:World) (p q k n np:Nat) (g:Nat->Nat) (L:Nat->Prop):Prop where
 boxN:Boxed W w.heap.size 3 (.int .i64 np)
 boxC:Boxed W k 29 (.pointer (some ⟨p,0,none⟩))
 self:W.heap[p]? = some (.cells ((zC n np).cells q n) 97 (0,0))
 plain:∃cs t,W.heap[q]? = some (.cells cs t (0,0))
 cells:∀i,i<n->W.cell? ⟨q,i * 4,none⟩=some (.bool false)/\W.cell? ⟨q,i * 4+1,none⟩=some (.int .i64 0)/\W.cell? ⟨q,i * 4+2,none⟩=some (.int .i64 0)/\∃v,W.cell? ⟨q,i * 4+3,none⟩=some v
 laid:∀i,i<n->L i->W.cell? ⟨q,i * 4+3,none⟩=some (.slice (some ⟨g i,0,none⟩) np np)/\W.heap[g i]? = some (.cells (madeCells #[Value.slice none 0 0] np) 34 (0,0))/\w.heap.size+3<g i
 inj:∀i j,i<n->j<n->L i->L j->g i=g j->i=j
 below:Below w.heap.size w W
structure NAt (w:World) (p q k:Nat):Prop where
 p0:w.heap.size<p/\p<=w.heap.size+3
 q0:w.heap.size<q/\q<=w.heap.size+3
 k0:w.heap.size<k/\k<=w.heap.size+3
 pq:p≠q
 pk:p≠k
 qk:q≠k
section
variable {W W':World} {p q k n np:Nat} {g:Nat->Nat} {L:Nat->Prop}
theorem NMid.more (h:NMid w W p q k n np g L) (hb:Below W.heap.size W W'):NMid w W' p q k n np g L where
 boxN:=(hb.block _ h.boxN.lt).trans h.boxN
 boxC:=(hb.block _ h.boxC.lt).trans h.boxC
 self:=(hb.block _ (qD h.self)).trans h.self
 plain:=by obtain ⟨cs,t,e⟩:=h.plain;exact ⟨cs,t,(hb.block _ (qD e)).trans e⟩
 cells:=λi hi=>by
  obtain ⟨cs,t,e⟩:=h.plain
  obtain ⟨h1,h2,h3,v,h4⟩:=h.cells i hi
  have hq:=hb.block _ (qD e)
  exact ⟨(World.cell?_of_block (a:=⟨q,i * 4,none⟩) hq).trans h1,(World.cell?_of_block (a:=⟨q,i * 4+1,none⟩) hq).trans h2,(World.cell?_of_block (a:=⟨q,i * 4+2,none⟩) hq).trans h3,v,(World.cell?_of_block (a:=⟨q,i * 4+3,none⟩) hq).trans h4⟩
 laid:=λi hi hl=>by
  obtain ⟨cs,t,e⟩:=h.plain
  obtain ⟨h1,h2,h3⟩:=h.laid i hi hl
  exact ⟨(World.cell?_of_block (a:=⟨q,i * 4+3,none⟩) (hb.block _ (qD e))).trans h1,(hb.block _ (qD h2)).trans h2,h3⟩
 inj:=h.inj
 below:=h.below.trans (hb.mono h.below.size)
theorem NMid.grown {row:Option Nat} (h:NMid w W p q k n np g L) (hg:W.grownBy W' row) (hr:∀r,row=some r->w.heap.size<=r/\∃o:Obj,W.heap[r]? = some o/\o.isCells=false):NMid w W' p q k n np g L :=
 have hr':=λr e=>(hr r e).2
 { boxN:=(qm h.boxN hg hr').trans h.boxN
   boxC:=(qm h.boxC hg hr').trans h.boxC
   self:=(qm h.self hg hr').trans h.self
   plain:=by obtain ⟨cs,t,e⟩:=h.plain;exact ⟨cs,t,(qm e hg hr').trans e⟩
   cells:=λi hi=>by
    obtain ⟨h1,h2,h3,v,h4⟩:=h.cells i hi
    exact ⟨cell_kept h1 hg hr',cell_kept h2 hg hr',cell_kept h3 hg hr',v,cell_kept h4 hg hr'⟩
   laid:=λi hi hl=>by
    obtain ⟨h1,h2,h3⟩:=h.laid i hi hl
    exact ⟨cell_kept h1 hg hr',(qm h2 hg hr').trans h2,h3⟩
   inj:=h.inj
   below:=h.below.grown hg h.below.size (λb e=>(hr b e).1) }
theorem NMid.same {L':Nat->Prop} (h:NMid w W p q k n np g L) (hL:∀j,j<n->(L j↔L' j)):NMid w W p q k n np g L' :=
 { h with
   laid:=λi hi hl=>h.laid i hi ((hL i hi).2 hl)
   inj:=λi j hi hj hl hm e=>h.inj i j hi hj ((hL i hi).2 hl) ((hL j hj).2 hm) e }
theorem NMid.lt (h:NMid w W p q k n np g L) {i:Nat} (hi:i<n) (hl:L i):g i<W.heap.size:=qD (h.laid i hi hl).2.1
theorem NMid.lay (h:NMid w W p q k n np g L) (ha:NAt w p q k) {x G:Nat} (hx:x<n) (hG:W.heap[G]? = some (.cells (madeCells #[Value.slice none 0 0] np) 34 (0,0))) (hG2:w.heap.size+3<G) (hne:∀j,j<n->L j->j≠x->g j≠G) :
 NMid w (W.setCell ⟨q,x * 4+3,none⟩ (.slice (some ⟨G,0,none⟩) np np)) p q k n np (λj=>if j=x then G else g j) (λj=>L j\/j=x):=by
 have far:∀b,b≠q->(W.setCell ⟨q,x * 4+3,none⟩ (.slice (some ⟨G,0,none⟩) np np)).heap[b]? = W.heap[b]? := λb hb=>Below.heap_setCell W ⟨q,x * 4+3,none⟩ _ b hb
 have oth:∀o,o≠x * 4+3->(W.setCell ⟨q,x * 4+3,none⟩ (.slice (some ⟨G,0,none⟩) np np)).cell? ⟨q,o,none⟩=W.cell? ⟨q,o,none⟩:=λo ho=>World.cell?_setCell_other _ _ _ _ (λe=>ho (by simpa using e.symm))
 have same:(W.setCell ⟨q,x * 4+3,none⟩ (.slice (some ⟨G,0,none⟩) np np)).cell? ⟨q,x * 4+3,none⟩=some (.slice (some ⟨G,0,none⟩) np np):=by
  obtain ⟨_,_,_,v,h4⟩:=h.cells x hx
  exact World.cell?_setCell_same _ _ _ h4
 have hq:=ha.q0
 exact {
  boxN:=(far _ (by omega)).trans h.boxN
  boxC:=(far _ ha.qk.symm).trans h.boxC
  self:=(far _ ha.pq).trans h.self
  plain:=by obtain ⟨cs,t,e⟩:=h.plain;exact ⟨_,t,heap_setCell_same W q _ cs t _ e⟩
  cells:=λi hi=>by
   obtain ⟨h1,h2,h3,v,h4⟩:=h.cells i hi
   refine ⟨(oth _ (by omega)).trans h1,(oth _ (by omega)).trans h2,(oth _ (by omega)).trans h3,?_⟩
   by_cases e:i=x
   . subst e;exact ⟨_,same⟩
   . exact ⟨v,(oth _ (by omega)).trans h4⟩
  laid:=λi hi hl=>by
   by_cases e:i=x
   . subst e
     simp only[if_true]
     exact ⟨same,(far _ (by omega)).trans hG,hG2⟩
   . simp only[if_neg e]
     obtain ⟨h1,h2,h3⟩:=h.laid i hi (hl.resolve_right e)
     exact ⟨(oth _ (by omega)).trans h1,(far _ (by omega)).trans h2,h3⟩
  inj:=λi j hi hj hl hm e=>by
   by_cases e1:i=x
   . by_cases e2:j=x
     . rw[e1,e2]
     . subst e1
       simp only[if_true,if_neg e2] at e
       exact absurd e.symm (hne j hj (hm.resolve_right e2) e2)
   . by_cases e2:j=x
     . subst e2
       simp only[if_true,if_neg e1] at e
       exact absurd e (hne i hi (hl.resolve_right e1) e1)
     . simp only[if_neg e1,if_neg e2] at e
       exact h.inj i j hi hj (hl.resolve_right e1) (hm.resolve_right e2) e
  below:=h.below.setCell (p:=⟨q,x * 4+3,none⟩) (by show w.heap.size<=q;omega) _ }
theorem NMid.chip (h:NMid w W p q k n np g L) (ha:NAt w p q k) (hL:∀i,i<n->L i) (h2:n<=64) (h3:1<=np) (h4:np<=32):LAt W p q n g (λ_=>False) (zC n np) where
 self:=h.self
 plain:=h.plain
 blocks:=λi hi=>by
  have hi':i<n:=by simpa[zC] using hi
  obtain ⟨h1,h2',h3',v,h4'⟩:=h.cells i hi'
  obtain ⟨l1,l2,l3⟩:=h.laid i hi' (hL i hi')
  have eb:(zC n np).bl[i]=zCp np:=by simp[zC]
  rw[eb]
  exact {
   bad:=h1,next:=h2',count:=h3',row:=l1
   len:=by simp[zCp,zC]
   plain:=⟨_,_,l2⟩
   pages:=λj hj=>⟨none,0,by
    have hj':j<np:=by simpa[zCp] using hj
    simp[zCp,World.cell?,l2,zNg,hj'],by simp[zCp],by simp[zCp],by simpa[zCp] using CB.nil⟩
   nextIn:=⟨Int.le_refl 0,by show (0:Int)<=(np:Int);omega⟩ }
 ne:=ha.pq
 gp:=λi hi=>by
  have hi':i<n:=by simpa[zC] using hi
  obtain ⟨_,_,l3⟩:=h.laid i hi' (hL i hi')
  have:=ha.p0;have:=ha.q0
  exact ⟨by omega,by omega⟩
 gg:=λi j hi hj e=>h.inj i j (by simpa[zC] using hi) (by simpa[zC] using hj) (hL i (by simpa[zC] using hi)) (hL j (by simpa[zC] using hj)) e
 cp:=λb hb=>hb.elim
 cl:=λb hb=>hb.elim
 cap:=by simp[zC]
 small:=⟨by simpa[zC] using h2,h3,h4⟩
 ints:=by simp[zC]
theorem NMid.facts (h:NMid w W p q k n np g L) {x:Nat} (hx:x<n) :
 W.cell? ⟨w.heap.size,0,none⟩=some (.int .i64 np)/\W.cell? ⟨k,0,none⟩=some (.pointer (some ⟨p,0,none⟩))/\W.cell? ⟨p,0,none⟩=some (.slice (some ⟨q,0,none⟩) n n)/\(∃v,W.cell? ⟨q,x * 4+3,none⟩=some v)/\W.frozen? ⟨q,x * 4+3,none⟩=false:=by
 obtain ⟨c0,_⟩:=qw h.self
 obtain ⟨cs,t,e⟩:=h.plain
 exact ⟨h.boxN.cell,h.boxC.cell,by simpa[zC] using c0,(h.cells x hx).2.2.2,qO e _⟩
end
theorem zGw (w:World) (o1 o2 o3 o4:Obj):∃W,W=(((w.alloc o1).alloc o2).alloc o3).alloc o4/\W.heap.size=w.heap.size+4/\W.heap[w.heap.size]? = some o1/\W.heap[w.heap.size+1]? = some o2/\W.heap[w.heap.size+1+1]? = some o3/\W.heap[w.heap.size+1+1+1]? = some o4/\Below w.heap.size w W:=by
 refine ⟨_,rfl,by simp,?_,?_,?_,?_,((((Below.refl _ w).alloc nL _).alloc (by simp) _).alloc (by simp;omega) _).alloc (by simp;omega) _⟩
 . rw[heap_alloc_old _ _ _ (by simp;omega),heap_alloc_old _ _ _ (by simp;omega),heap_alloc_old _ _ _ (by simp),heap_alloc_new]
 . rw[heap_alloc_old _ _ _ (by simp),heap_alloc_old _ _ _ (by simp)]
   have:=heap_alloc_new (w.alloc o1) o2
   rwa [World.size_alloc] at this
 . rw[heap_alloc_old _ _ _ (by simp)]
   have:=heap_alloc_new ((w.alloc o1).alloc o2) o3
   simpa only[World.size_alloc] using this
 . have:=heap_alloc_new (((w.alloc o1).alloc o2).alloc o3) o4
   simpa only[World.size_alloc] using this
theorem zFu {W:World} {p q k n np:Nat} (hN:W.heap[w.heap.size]? = some (.cells #[.int .i64 (np:Int)] 3 (0,0))) (hC:W.heap[k]? = some (.cells #[.pointer (some ⟨p,0,none⟩)] 29 (0,0)))
 (hS:W.heap[p]? = some (.cells #[.slice (some ⟨q,0,none⟩) n n,.int .i64 (np:Int),.int .i64 0,.int .i64 0,.int .i64 0,.bool false,.bool false,.int .i64 0,.bool false,.int .i64 0,.bool false,.int .i64 0,.int .i64 0] 97 (0,0)))
 (hQ:W.heap[q]? = some (.cells (madeCells #[.bool false,.int .i64 0,.int .i64 0,.slice none 0 0] (n * 4)) 101 (0,0))) (hb:Below w.heap.size w W):NMid w W p q k n np (λ_=>0) (λ_=>False):=by
 exact {
  boxN:=hN,boxC:=hC
  self:=by rw[hS];simp[zC,LS.cells]
  plain:=⟨_,_,hQ⟩
  cells:=λi hi=>by
   have e:∀m,m<4->W.cell? ⟨q,i * 4+m,none⟩ = #[Value.bool false,.int .i64 0,.int .i64 0,.slice none 0 0][m]? := λm hm=>by
    have h1:i * 4+m<n * 4:=by omega
    have h2:(i * 4+m) % 4=m:=by omega
    have h3:m=0\/m=1\/m=2\/m=3:=by omega
    rcases h3 with rfl | rfl | rfl | rfl
    . simp at h1 h2
      simp[World.cell?,hQ,madeCells,h1]
    . simp[World.cell?,hQ,madeCells,h1,h2]
    . simp[World.cell?,hQ,madeCells,h1,h2]
    . simp[World.cell?,hQ,madeCells,h1,h2]
   exact ⟨by simpa using e 0 (by omega),by simpa using e 1 (by omega),by simpa using e 2 (by omega),_,by simpa using e 3 (by omega)⟩
  laid:=λi _ hl=>hl.elim
  inj:=λi j _ _ hl=>hl.elim
  below:=hb }
def IntsArg (w:World) (A:Option Addr) (l:List Int):Prop:=0<l.length->∃B o,A=some ⟨B,o,none⟩/\B<w.heap.size/\∀j (h:j<l.length),w.cell? ⟨B,o+j,none⟩=some (.int .i64 l[j])
def vV (bl:List Bk) (b:Int):List Bk:=if 0<=b/\b<(bl.length:Int) then bl.set b.toNat { bl.getD b.toNat noB with bad:=true } else bl
def zGv (bl:List Bk) (l:List Int):List Bk:=l.foldl vV bl
theorem zGu (bl:List Bk) (l:List Int) (b:Int):zGv bl (l++[b])=vV (zGv bl l) b:=by simp[zGv]
theorem zKn (bl:List Bk) (b:Int):(vV bl b).length=bl.length:=by unfold vV;split<;>simp
theorem qj (bl:List Bk) (l:List Int):(zGv bl l).length=bl.length:=by
 induction l generalizing bl with
 | nil=>rfl
 | cons x l ih=>exact (ih (vV bl x)).trans (zKn bl x)
theorem zFf {l:List Int} {j:Nat} (h:j<l.length):l.take (j+1)=l.take j++[l[j]]:=by
 rw[List.take_add_one,List.getElem?_eq_getElem h];rfl
def qZ (n np:Nat) (l:List Int):LS := { zC n np with bl:=zGv (zC n np).bl l }
structure BadMid (w W:World) (D p q k n np:Nat) (g:Nat->Nat) (l:List Int):Prop where
 chip:LAt W p q n g (λ_=>False) (qZ n np l)
 boxC:Boxed W k 29 (.pointer (some ⟨p,0,none⟩))
 below:Below w.heap.size w W
 dfr:W.heap[D]? = some (.deferred (some []))
theorem BadMid.skip {W:World} {D p q k n np:Nat} {g:Nat->Nat} {l:List Int} {b:Int} (h:BadMid w W D p q k n np g l) (hi:isL (qZ n np l) b=false):BadMid w W D p q k n np g (l++[b]):=by
 have e:qZ n np (l++[b])=qZ n np l:=by
  unfold qZ
  rw[zGu]
  have:vV (zGv (zC n np).bl l) b=zGv (zC n np).bl l:=by
   unfold vV
   rw[if_neg (show ¬(0<=b/\b<((zGv (zC n np).bl l).length:Int)) from of_decide_eq_false hi)]
  rw[this]
 exact ⟨by rw[e];exact h.chip,h.boxC,h.below,h.dfr⟩
theorem BadMid.mark {W:World} {D p q k n np:Nat} {g:Nat->Nat} {l:List Int} {i:Nat} (h:BadMid w W D p q k n np g l) (hi:i<(qZ n np l).bl.length) (hq:w.heap.size<=q) (hqD:q<D) (hk:k≠q):BadMid w (W.setCell ⟨q,i * 4,none⟩ (.bool true)) D p q k n np g (l++[(i:Int)]):=by
 have e:qZ n np (l++[(i:Int)]) = { qZ n np l with bl:=(qZ n np l).bl.set i { (qZ n np l).bl[i] with bad:=true } } :=by
  unfold qZ
  rw[zGu]
  have hi':i<(zGv (zC n np).bl l).length:=hi
  have:vV (zGv (zC n np).bl l) (i:Int)=(zGv (zC n np).bl l).set i { (zGv (zC n np).bl l)[i] with bad:=true } :=by
   unfold vV
   rw[if_pos ⟨by omega,by omega⟩]
   simp[List.getD,List.getElem?_eq_getElem hi']
  rw[this]
  rfl
 have far:∀b,b≠q->(W.setCell ⟨q,i * 4,none⟩ (.bool true)).heap[b]? = W.heap[b]? := λb hb=>Below.heap_setCell W ⟨q,i * 4,none⟩ _ b hb
 exact ⟨by rw[e];exact h.chip.row_set (m:=0) (b := { (qZ n np l).bl[i] with bad:=true }) hi (by omega) rfl (h.chip.blocks i hi).nextIn rfl rfl rfl,
  (far _ hk).trans h.boxC,h.below.setCell (p:=⟨q,i * 4,none⟩) hq _,(far _ (by omega)).trans h.dfr⟩
def yBe (n np:Nat) (l:List Int) (w:World) (e:Ending) (w':World):Prop :=
 ∃p q g,e=.returned (.pointer (some ⟨p,0,none⟩))/\LAt w' p q n g (λ_=>False) (qZ n np l)/\(∀b,Own p q g (λ_=>False) n b->w.heap.size<=b)/\Below w.heap.size w w'
theorem BadMid.leave {W:World} {D p q k n np m:Nat} {g:Nat->Nat} {l:List Int} (h:BadMid w W D p q k n np g l) (hD:w.heap.size<=D) (ho:∀b,Go.Proofs.YtinkkmlbhkfmnaaGreat.Own p q g (λ_=>False) n b->w.heap.size<=b) (tmps:Array Value) (ht:tmps.getD 6 undef=.pointer (some ⟨p,0,none⟩)) :
 LeavesInM Fence.wide m Tryz.prog Tryz.f34 tmps (yBe n np l w) [{ target:=Target.collected D,args:=#[] }] .returning W:=by
 refine ⟨by simp,.inl ⟨_,_,rfl,run_takeDeferred h.dfr,?_⟩⟩
 have hg:=grownBy_putObj' W D (.deferred none)
 have hrow:∀r,some D=some r->∃o:Obj,W.heap[r]? = some o/\o.isCells=false:=λr e=>by cases e;exact ⟨_,h.dfr,rfl⟩
 refine ⟨_,results_tmp rfl _ _ _,p,q,g,by rw[ht],h.chip.grown hg hrow,ho,h.below.grown hg h.below.size (λb e=>by cases e;exact hD)⟩
theorem new_yes (n np:Nat) (A:Option Addr) (c:Nat) (l:List Int) (hA:IntsArg w A l) (hlen:l.length<=1000000) (h1:1<=n) (h2:n<=64) (h3:1<=np) (h4:np<=32):Calls Tryz.prog 34 #[.int .i64 n,.int .i64 np,.slice A l.length c] w (yBe n np l w):=by
 refine callsIn_wide.1 (callsIn_of_wp_marks (n:=3) Tryz.func34 rfl trivial ?_ rfl)
 simp only[Tryz.ntmps34,List.size_toArray,List.length_cons,List.length_nil,Nat.reduceAdd,Nat.reduceSub,Array.replicate_succ,Array.replicate_zero,List.push_toArray,List.append_toArray,List.nil_append,List.cons_append]
 have d1:decide (1<=(n:Int)/\(n:Int)<=64)=true:=by simp;omega
 have d2:decide (1<=(np:Int)/\(np:Int)<=32)=true:=by simp;omega
 have hmk:=zPw n h2
 gi_wp2_with (refine ⟨trivial,?_⟩;(try refine ⟨zDf _,?_⟩);gi_at_call 70;refine (callsIn_wide.2 (yI _ _ _)).mono ?_;rintro e w1 ⟨rfl,hw1⟩;obtain rfl:=hw1;first | rw[d1] | rw[d2])
 gi_region
 . gi_wp2_with (refine ⟨trivial,?_⟩;(try refine ⟨zDf _,?_⟩);gi_at_call 47;refine (callsIn_wide.2 (yf _ _ _)).mono ?_;rintro e w1 ⟨rfl,rfl⟩)
   refine vj ?_
   intro W2 hW2
   obtain ⟨bN,bF,hM,ha⟩:Boxed W2 (w.heap.size+1+1+1+1) 3 (.int .i64 (n:Int))/\Boxed W2 (w.heap.size+1+1+1+1+1) 3 (.int .i64 0)/\NMid w W2 (w.heap.size+1+1) (w.heap.size+1) (w.heap.size+1+1+1) n np (λ_=>0) (λ_=>False)/\NAt w (w.heap.size+1+1) (w.heap.size+1) (w.heap.size+1+1+1):=by
    obtain ⟨W4,hW4,hs4,f0,f1,f2,f3,hb4⟩:=zGw w (.cells #[.int .i64 (np:Int)] 3) (.cells (madeCells #[.bool false,.int .i64 0,.int .i64 0,.slice none 0 0] (n * 4)) 101) (.cells #[.slice (some ⟨w.heap.size+1,0,none⟩) n n,.int .i64 (np:Int),.int .i64 0,.int .i64 0,.int .i64 0,.bool false,.bool false,.int .i64 0,.bool false,.int .i64 0,.bool false,.int .i64 0,.int .i64 0] 97) (.cells #[.pointer (some ⟨w.heap.size+1+1,0,none⟩)] 29)
    rw[<- hW4] at hW2
    have ha:NAt w (w.heap.size+1+1) (w.heap.size+1) (w.heap.size+1+1+1):=by constructor<;>omega
    have hb2:Below W4.heap.size W4 W2:=by rw[hW2];exact (((Below.refl _ W4).alloc nL _).alloc (by simp) _).drew
    have b1:=Boxed.new W4 3 (.int .i64 (n:Int))
    have b2:=Boxed.new (W4.alloc (.cells #[.int .i64 (n:Int)] 3)) 3 (.int .i64 0)
    rw[World.size_alloc] at b2
    rw[hs4] at b1 b2
    exact ⟨by rw[hW2];exact b1.alloc _,by rw[hW2];exact b2,(zFu f0 f3 f2 f1 hb4).more hb2,ha⟩
   clear hW2
   have HS:=hI (show w.heap.size+6<=W2.heap.size from by have:=bF.lt;omega)
   revert bN bF hM ha
   generalize e1:w.heap.size+1=a1
   generalize e2:a1+1=a2
   generalize e3:a2+1=a3
   generalize e4:a3+1=a4
   generalize e5:a4+1=a5
   intro bN bF hM ha
   have HW4:=hI (show a1=w.heap.size+1/\a2=w.heap.size+2/\a3=w.heap.size+3 from by omega)
   have H2:=hI hM
   have HA:=hI ha
   clear e1 e2 e3 e4 e5 hM ha
   apply wpIn_rangeFunc_ownG rfl (n:=3) (by omega) (gf:=83) (lb:=#[.pointer (some ⟨a4,0,none⟩),.pointer (some ⟨a5,0,none⟩)]) rfl trivial vu
    (vC (N:=n) (λ_ _=>True) (3 - 1) _ _ (by omega) h1 W2 bN bF) (λ_ _=>trivial) (λ_ _ _ _ _ _ _ _=>trivial) bR (λ_=>rfl)
    (λpre W=>∃g,NMid w W a2 a1 a3 n np g (λj=>∃y∈pre,y.val=j)/\W2.heap.size<=W.heap.size)
    (λ_ _ _=>False)
    ?own ?ownx ?start
   case own=>exact λs X Y row ⟨g,hs,hz⟩ hg hr=>⟨g,hs.grown hg (λr e=>⟨by have:=(hr r e).1;have:=HS.out;omega,(hr r e).2⟩),Nat.le_trans hz hg.size⟩
   case ownx=>exact λ_ _ _ _ _ h _ _=>h
   case start=>exact ⟨_,H2.out.same (λj _=>⟨λh=>h.elim,λ⟨y,hy,_⟩=>by cases hy⟩),Nat.le_refl _⟩
   case hassign =>
    intro l x W K hK
    gi_wp2
    exact hK
   case hbody =>
    rintro l pre x W ⟨g0,hM,hz⟩ hlt
    have HWS:=hI (show w.heap.size+6<=W.heap.size from Nat.le_trans HS.out hz)
    have HZ:=hI hz
    clear hz
    have hx:=x.isLt
    have hgb:∀j,j<n->(∃y∈pre,y.val=j)->g0 j<W.heap.size:=λj hj hl=>hM.lt hj hl
    have hmp:=zBb np (by omega)
    gi_wp2
    refine yG (λj v w'=>(j=6->∃G,v=.slice (some ⟨G,0,none⟩) np np/\w'.heap[G]? = some (.cells (madeCells #[Value.slice none 0 0] np) 34 (0,0))/\W.heap.size<=G)/\(j=9->∃g',NMid w w' a2 a1 a3 n np g' (λj=>∃y∈pre++[x],y.val=j))/\(j≠6->j≠9->v=(match j with | 0=>.pointer (some ⟨a2,0,none⟩) | 1=>.pointer (some ⟨a2,0,none⟩) | 2=>.pointer (some ⟨a2,0,none⟩) | 3=>.slice (some ⟨a1,0,none⟩) n n | 4=>.int .i64 (x.val:Int) | 5=>.int .i64 (np:Int) | 7=>.pointer (some ⟨a1,x.val * 4,none⟩) | 8=>.pointer (some ⟨a1,x.val * 4+3,none⟩) | _=>undef:Value)))
     (λw'=>(∃g' L',NMid w w' a2 a1 a3 n np g' L'/\∀j,j≠x.val->(L' j↔∃y∈pre,y.val=j)/\g' j=g0 j)/\KeepsFrom W2.heap.size W w')
     (λw1 w2=>w1.heap.size<=w2.heap.size/\(∀b,w.heap.size+3<b->b<w1.heap.size->w2.heap[b]? = w1.heap[b]?)/\((∃g',NMid w w1 a2 a1 a3 n np g' (λj=>∃y∈pre++[x],y.val=j))->∃g',NMid w w2 a2 a1 a3 n np g' (λj=>∃y∈pre++[x],y.val=j)))
     (by kernel_rfl) (by kernel_rfl) (by kernel_rfl) (by kernel_rfl) ?hR ?hG ?hops ?hend
    case hR =>
     intro j v w1 w2 ⟨h1,h2,h3⟩ ⟨r1,r2,r3⟩
     refine ⟨λe=>?_,λe=>r3 (h2 e),h3⟩
     obtain ⟨G,e1,e2,e3⟩:=h1 e
     exact ⟨G,e1,(r2 G (by have:=HWS.out;omega) (qD e2)).trans e2,e3⟩
    case hG=>exact ⟨⟨g0,_,hM.more bR.drew,λ_ _=>⟨Iff.rfl,rfl⟩⟩,qP bR.drew⟩
    case hops =>
     refine OpsOk.cons ?_ (OpsOk.cons ?_ (OpsOk.cons ?_ (OpsOk.cons ?_ (OpsOk.cons ?_ (OpsOk.cons ?_ (OpsOk.cons ?_ (OpsOk.cons ?_ (OpsOk.cons ?_ (OpsOk.cons ?_ (OpsOk.nil))))))))))
     . intro a w1 Kx hG need old hsz hK
       obtain ⟨⟨g',L',hM1,hj⟩,hkf⟩:=hG
       obtain ⟨cN,cK,c0,⟨v,cv⟩,cf⟩:=hM1.facts x.isLt
       have e0:a.tmps[7]?.getD undef=.pointer (some ⟨a3,0,none⟩):=by
        exact og (old 7 (by kernel_rfl))
       refine qB (v:=.pointer (some ⟨a2,0,none⟩)) (qA rfl) ?_ (hK _ w1 ⟨λe=>absurd e (by decide),λe=>absurd e (by decide),λ_ _=>rfl⟩ ⟨⟨g',L',hM1,hj⟩,hkf⟩ ⟨Nat.le_refl _,λ_ _ _=>rfl,id⟩)
       simp[execOp,go_sem,e0,cK]
     . intro a w1 Kx hG need old hsz hK
       obtain ⟨⟨g',L',hM1,hj⟩,hkf⟩:=hG
       have e0:a.tmps[27]?.getD undef=.pointer (some ⟨a2,0,none⟩):=by
        exact og ((need 0 (by kernel_rfl) (by kernel_rfl)).2.2 (by decide) (by decide))
       refine qB (v:=.pointer (some ⟨a2,0,none⟩)) (qA rfl) ?_ (hK _ w1 ⟨λe=>absurd e (by decide),λe=>absurd e (by decide),λ_ _=>rfl⟩ ⟨⟨g',L',hM1,hj⟩,hkf⟩ ⟨Nat.le_refl _,λ_ _ _=>rfl,id⟩)
       simp[execOp,go_sem,e0]
     . intro a w1 Kx hG need old hsz hK
       obtain ⟨⟨g',L',hM1,hj⟩,hkf⟩:=hG
       have e0:a.tmps[28]?.getD undef=.pointer (some ⟨a2,0,none⟩):=by
        exact og ((need 1 (by kernel_rfl) (by kernel_rfl)).2.2 (by decide) (by decide))
       refine qB (v:=.pointer (some ⟨a2,0,none⟩)) (qA rfl) ?_ (hK _ w1 ⟨λe=>absurd e (by decide),λe=>absurd e (by decide),λ_ _=>rfl⟩ ⟨⟨g',L',hM1,hj⟩,hkf⟩ ⟨Nat.le_refl _,λ_ _ _=>rfl,id⟩)
       simp[execOp,go_sem,e0]
     . intro a w1 Kx hG need old hsz hK
       obtain ⟨⟨g',L',hM1,hj⟩,hkf⟩:=hG
       obtain ⟨cN,cK,c0,⟨v,cv⟩,cf⟩:=hM1.facts x.isLt
       have e0:a.tmps[29]?.getD undef=.pointer (some ⟨a2,0,none⟩):=by
        exact og ((need 2 (by kernel_rfl) (by kernel_rfl)).2.2 (by decide) (by decide))
       refine qB (v:=.slice (some ⟨a1,0,none⟩) n n) (qA rfl) ?_ (hK _ w1 ⟨λe=>absurd e (by decide),λe=>absurd e (by decide),λ_ _=>rfl⟩ ⟨⟨g',L',hM1,hj⟩,hkf⟩ ⟨Nat.le_refl _,λ_ _ _=>rfl,id⟩)
       simp[execOp,go_sem,e0,c0]
     . intro a w1 Kx hG need old hsz hK
       obtain ⟨⟨g',L',hM1,hj⟩,hkf⟩:=hG
       have e0:a.tmps[8]?.getD undef=.int .i64 (x.val:Int):=by
        exact og (old 8 (by kernel_rfl))
       refine qB (v:=.int .i64 (x.val:Int)) (qA rfl) ?_ (hK _ w1 ⟨λe=>absurd e (by decide),λe=>absurd e (by decide),λ_ _=>rfl⟩ ⟨⟨g',L',hM1,hj⟩,hkf⟩ ⟨Nat.le_refl _,λ_ _ _=>rfl,id⟩)
       simp[execOp,go_sem,e0]
     . intro a w1 Kx hG need old hsz hK
       obtain ⟨⟨g',L',hM1,hj⟩,hkf⟩:=hG
       obtain ⟨cN,cK,c0,⟨v,cv⟩,cf⟩:=hM1.facts x.isLt
       have e0:a.tmps[4]?.getD undef=.pointer (some ⟨w.heap.size,0,none⟩):=by
        exact og (old 4 (by kernel_rfl))
       refine qB (v:=.int .i64 (np:Int)) (qA rfl) ?_ (hK _ w1 ⟨λe=>absurd e (by decide),λe=>absurd e (by decide),λ_ _=>rfl⟩ ⟨⟨g',L',hM1,hj⟩,hkf⟩ ⟨Nat.le_refl _,λ_ _ _=>rfl,id⟩)
       simp[execOp,go_sem,e0,cN]
     . intro a w1 Kx hG need old hsz hK
       obtain ⟨⟨g',L',hM1,hj⟩,hkf⟩:=hG
       have e0:a.tmps[32]?.getD undef=.int .i64 (np:Int):=by
        exact og ((need 5 (by kernel_rfl) (by kernel_rfl)).2.2 (by decide) (by decide))
       have hb:=(Below.refl w1.heap.size w1).alloc nL (.cells (madeCells #[Value.slice none 0 0] np) 34)
       refine qB (v:=.slice (some ⟨w1.heap.size,0,none⟩) np np) (w':=w1.alloc (.cells (madeCells #[Value.slice none 0 0] np) 34)) (qA rfl) ?_ (hK _ _ ⟨λ_=>⟨w1.heap.size,rfl,heap_alloc_new _ _,hkf.size⟩,λe=>absurd e (by decide),λe=>absurd rfl e⟩ ⟨⟨g',L',hM1.more hb,hj⟩,hkf.trans (qP hb)⟩ ⟨hb.size,λb _ h=>hb.block b h,λ⟨g2,h⟩=>⟨g2,h.more hb⟩⟩)
       simp[execOp,go_sem,e0,hmp]
     . intro a w1 Kx hG need old hsz hK
       obtain ⟨⟨g',L',hM1,hj⟩,hkf⟩:=hG
       have e0:a.tmps[30]?.getD undef=.slice (some ⟨a1,0,none⟩) n n:=by
        exact og ((need 3 (by kernel_rfl) (by kernel_rfl)).2.2 (by decide) (by decide))
       have e1:a.tmps[31]?.getD undef=.int .i64 (x.val:Int):=by
        exact og ((need 4 (by kernel_rfl) (by kernel_rfl)).2.2 (by decide) (by decide))
       refine qB (v:=.pointer (some ⟨a1,x.val * 4,none⟩)) (qA rfl) ?_ (hK _ w1 ⟨λe=>absurd e (by decide),λe=>absurd e (by decide),λ_ _=>rfl⟩ ⟨⟨g',L',hM1,hj⟩,hkf⟩ ⟨Nat.le_refl _,λ_ _ _=>rfl,id⟩)
       simp[execOp,go_sem,e0,e1,hx]
     . intro a w1 Kx hG need old hsz hK
       obtain ⟨⟨g',L',hM1,hj⟩,hkf⟩:=hG
       have e0:a.tmps[34]?.getD undef=.pointer (some ⟨a1,x.val * 4,none⟩):=by
        exact og ((need 7 (by kernel_rfl) (by kernel_rfl)).2.2 (by decide) (by decide))
       refine qB (v:=.pointer (some ⟨a1,x.val * 4+3,none⟩)) (qA rfl) ?_ (hK _ w1 ⟨λe=>absurd e (by decide),λe=>absurd e (by decide),λ_ _=>rfl⟩ ⟨⟨g',L',hM1,hj⟩,hkf⟩ ⟨Nat.le_refl _,λ_ _ _=>rfl,id⟩)
       simp[execOp,go_sem,e0]
     . intro a w1 Kx hG need old hsz hK
       obtain ⟨⟨g',L',hM1,hj⟩,hkf⟩:=hG
       obtain ⟨cN,cK,c0,⟨v,cv⟩,cf⟩:=hM1.facts x.isLt
       obtain ⟨G,e1',hG1,hG2⟩:=(need 6 (by kernel_rfl) (by kernel_rfl)).1 rfl
       have e0:a.tmps[35]?.getD undef=.pointer (some ⟨a1,x.val * 4+3,none⟩):=by
        exact og ((need 8 (by kernel_rfl) (by kernel_rfl)).2.2 (by decide) (by decide))
       have e1:a.tmps[33]?.getD undef=.slice (some ⟨G,0,none⟩) np np:=by
        exact og (e1')
       have hM2:=hM1.lay HA.out x.isLt hG1 (by have:=HWS.out;omega) (λj hjn hl hjx e=>by
        obtain ⟨hl',hg'⟩:=hj j hjx
        have:=hgb j hjn (hl'.1 hl)
        omega)
       have hM3:=hM2.same (L':=λj=>(∃y∈pre++[x],y.val=j)) (λj hjn=>by
        by_cases e:j=x.val
        . subst e;simp
        . simp only[e,or_false,(hj j e).1]
          constructor
          . rintro ⟨y,hy,hy2⟩;exact ⟨y,List.mem_append.2 (.inl hy),hy2⟩
          . rintro ⟨y,hy,hy2⟩
            rcases List.mem_append.1 hy with hy | hy
            . exact ⟨y,hy,hy2⟩
            . simp at hy;subst hy;exact absurd hy2.symm e)
       refine zDp (qA rfl) (w':=w1.setCell ⟨a1,x.val * 4+3,none⟩ (.slice (some ⟨G,0,none⟩) np np)) ?_ (hK _ _ ⟨λe=>absurd e (by decide),λ_=>⟨_,hM3⟩,λ_ e=>absurd rfl e⟩ ⟨⟨_,_,hM2,λj hjx=>?_⟩,hkf.trans ((KeepsOthers.setCell _ _ _).from _)⟩ ⟨by simp,λb hb _=>Below.heap_setCell _ ⟨a1,x.val * 4+3,none⟩ _ b (λe=>by have h5:b=a1:=e;have h6:=HA.out.q0;have:=HS.out;have:=HW4.out;omega),λ_=>⟨_,hM3⟩⟩)
       . simp[execOp,go_sem,e0,e1,cv,cf]
       . obtain ⟨h7,h8⟩:=hj j hjx
         exact ⟨⟨λh=>h7.1 (h.resolve_right hjx),λh=>.inl (h7.2 h)⟩,by simp only[if_neg hjx,h8]⟩
    case hend =>
     intro a w' hG _ _ hφ _
     obtain ⟨g',h9⟩:=(hφ 9 (by kernel_rfl)).2.1 rfl
     exact ⟨hG.2,trivial,g',h9,Nat.le_trans HZ.out hG.2.size⟩
   case hdone =>
    rintro D ys W hD rfl ⟨g,hM,hz⟩ hK
    have hC:=hM.chip HA.out (λi hi=>⟨⟨i,hi⟩,by simp,rfl⟩) h2 h3 h4
    have hDq:a1<D:=by have h5:=HA.out.q0;have h6:=HS.out;omega
    have hqk:a3≠a1:=HA.out.qk.symm
    have hqw:w.heap.size<=a1:=by have h5:=HA.out.q0;omega
    have hown:∀b,Go.Proofs.YtinkkmlbhkfmnaaGreat.Own a2 a1 g (λ_=>False) n b->w.heap.size<=b:=λb hb=>by
     have h5:=HA.out.q0
     have h6:=HA.out.p0
     rcases hb with rfl | rfl | ⟨i,hi,rfl⟩ | hb
     . omega
     . omega
     . have:=(hM.laid i hi ⟨⟨i,hi⟩,by simp,rfl⟩).2.2;omega
     . exact hb.elim
    have HB:=hI (show BadMid w W D a2 a1 a3 n np g (l.take 0) from ⟨hC,hM.boxC,hM.below,hK⟩)
    have HO:=hI hown
    clear hC hM hK hown H2 HA hz HW4 HS
    gi_wp2
    gi_loopw [10,38] (λ_ i wr=>∃j:Nat,j<=l.length/\i=.int .i64 j/\BadMid w wr D a2 a1 a3 n np g (l.take j)) (λ_ i _=>l.length - (intOf i).toNat)
    case atStart=>exact ⟨0,Nat.zero_le _,rfl,HB.out⟩
    case round =>
     obtain ⟨j,hj,rfl,hR⟩:=hrel
     by_cases hjl:j<l.length
     . obtain ⟨B,o,rfl,hBw,hcell⟩:=hA (by omega)
       have cb:wr.cell? ⟨B,o+j,none⟩=some (.int .i64 l[j]):=(hR.below.cell (p:=⟨B,o+j,none⟩) hBw).trans (hcell j hjl)
       have ck:=hR.boxC.cell
       have HRR:=hI hR
       have ht:=zFf hjl
       cases hi:isL (qZ n np (l.take j)) l[j] with
       | false =>
        have hs:=hR.skip hi
        rw[<- ht] at hs
        gi_wp2_with (refine ⟨trivial,?_⟩;(try refine ⟨zDf _,?_⟩);gi_at_call 71;refine (callsIn_wide.2 (zBp _ HRR.out.chip)).mono ?_;rintro e w1 ⟨rfl,hw1⟩;obtain rfl:=hw1;rw[hi])
        go_roundw
        case rel=>exact ⟨j+1,by omega,by simp,hs⟩
        case measure=>simp[intOf];omega
       | true =>
        obtain ⟨i,hli,hi'⟩:=zAd hi
        have hs:=hR.mark hi' hqw hDq hqk
        rw[hli] at ht cb hi
        rw[<- ht] at hs
        have hin:i<n:=by simpa[qZ,qj,zC] using hi'
        obtain ⟨c0,_⟩:=qw hR.chip.self
        have cq:=(hR.chip.blocks i hi').bad
        obtain ⟨cs,t,hpl⟩:=hR.chip.plain
        have cf:=qO hpl (i * 4)
        have c0':wr.cell? ⟨a2,0,none⟩=some (.slice (some ⟨a1,0,none⟩) n n):=by simpa[qZ,qj,zC] using c0
        clear hpl c0 hR
        gi_wp2_with (refine ⟨trivial,?_⟩;(try refine ⟨zDf _,?_⟩);gi_at_call 71;refine (callsIn_wide.2 (zBp _ HRR.out.chip)).mono ?_;rintro e w1 ⟨rfl,hw1⟩;obtain rfl:=hw1;rw[hi])
        go_roundw
        case rel=>exact ⟨j+1,by omega,by simp,hs⟩
        case measure=>simp[intOf];omega
     . obtain rfl:j=l.length:=by omega
       rw[List.take_of_length_le nL] at hR
       have ck:=hR.boxC.cell
       gi_wp2
       exact hR.leave (by omega) HO.out _ rfl
   case hstop =>
    rintro D c pre W hD hpre h hK
    exact h.elim
 . gi_wp2_with (refine ⟨trivial,?_⟩;(try refine ⟨zDf _,?_⟩);gi_at_call 47;refine (callsIn_wide.2 (yf _ _ _)).mono ?_;rintro e w1 ⟨rfl,rfl⟩)
   refine vj ?_
   intro W2 hW2
   obtain ⟨bN,bF,hM,ha⟩:Boxed W2 (w.heap.size+1+1+1+1) 3 (.int .i64 (n:Int))/\Boxed W2 (w.heap.size+1+1+1+1+1) 3 (.int .i64 0)/\NMid w W2 (w.heap.size+1+1+1) (w.heap.size+1) (w.heap.size+1+1) n np (λ_=>0) (λ_=>False)/\NAt w (w.heap.size+1+1+1) (w.heap.size+1) (w.heap.size+1+1):=by
    obtain ⟨W4,hW4,hs4,f0,f1,f2,f3,hb4⟩:=zGw w (.cells #[.int .i64 (np:Int)] 3) (.cells (madeCells #[.bool false,.int .i64 0,.int .i64 0,.slice none 0 0] (n * 4)) 101) (.cells #[.pointer (some ⟨w.heap.size+1+1+1,0,none⟩)] 29) (.cells #[.slice (some ⟨w.heap.size+1,0,none⟩) n n,.int .i64 (np:Int),.int .i64 0,.int .i64 0,.int .i64 0,.bool false,.bool false,.int .i64 0,.bool false,.int .i64 0,.bool false,.int .i64 0,.int .i64 0] 97)
    rw[<- hW4] at hW2
    have ha:NAt w (w.heap.size+1+1+1) (w.heap.size+1) (w.heap.size+1+1):=by constructor<;>omega
    have hb2:Below W4.heap.size W4 W2:=by rw[hW2];exact (((Below.refl _ W4).alloc nL _).alloc (by simp) _).drew
    have b1:=Boxed.new W4 3 (.int .i64 (n:Int))
    have b2:=Boxed.new (W4.alloc (.cells #[.int .i64 (n:Int)] 3)) 3 (.int .i64 0)
    rw[World.size_alloc] at b2
    rw[hs4] at b1 b2
    exact ⟨by rw[hW2];exact b1.alloc _,by rw[hW2];exact b2,(zFu f0 f2 f3 f1 hb4).more hb2,ha⟩
   clear hW2
   have HS:=hI (show w.heap.size+6<=W2.heap.size from by have:=bF.lt;omega)
   revert bN bF hM ha
   generalize e1:w.heap.size+1=a1
   generalize e2:a1+1=a2
   generalize e3:a2+1=a3
   generalize e4:a3+1=a4
   generalize e5:a4+1=a5
   intro bN bF hM ha
   have HW4:=hI (show a1=w.heap.size+1/\a2=w.heap.size+2/\a3=w.heap.size+3 from by omega)
   have H2:=hI hM
   have HA:=hI ha
   clear e1 e2 e3 e4 e5 hM ha
   apply wpIn_rangeFunc_ownG rfl (n:=3) (by omega) (gf:=83) (lb:=#[.pointer (some ⟨a4,0,none⟩),.pointer (some ⟨a5,0,none⟩)]) rfl trivial vu
    (vC (N:=n) (λ_ _=>True) (3 - 1) _ _ (by omega) h1 W2 bN bF) (λ_ _=>trivial) (λ_ _ _ _ _ _ _ _=>trivial) bR (λ_=>rfl)
    (λpre W=>∃g,NMid w W a3 a1 a2 n np g (λj=>∃y∈pre,y.val=j)/\W2.heap.size<=W.heap.size)
    (λ_ _ _=>False)
    ?own ?ownx ?start
   case own=>exact λs X Y row ⟨g,hs,hz⟩ hg hr=>⟨g,hs.grown hg (λr e=>⟨by have:=(hr r e).1;have:=HS.out;omega,(hr r e).2⟩),Nat.le_trans hz hg.size⟩
   case ownx=>exact λ_ _ _ _ _ h _ _=>h
   case start=>exact ⟨_,H2.out.same (λj _=>⟨λh=>h.elim,λ⟨y,hy,_⟩=>by cases hy⟩),Nat.le_refl _⟩
   case hassign =>
    intro l x W K hK
    gi_wp2
    exact hK
   case hbody =>
    rintro l pre x W ⟨g0,hM,hz⟩ hlt
    have HWS:=hI (show w.heap.size+6<=W.heap.size from Nat.le_trans HS.out hz)
    have HZ:=hI hz
    clear hz
    have hx:=x.isLt
    have hgb:∀j,j<n->(∃y∈pre,y.val=j)->g0 j<W.heap.size:=λj hj hl=>hM.lt hj hl
    have hmp:=zBb np (by omega)
    gi_wp2
    refine yG (λj v w'=>(j=6->∃G,v=.slice (some ⟨G,0,none⟩) np np/\w'.heap[G]? = some (.cells (madeCells #[Value.slice none 0 0] np) 34 (0,0))/\W.heap.size<=G)/\(j=9->∃g',NMid w w' a3 a1 a2 n np g' (λj=>∃y∈pre++[x],y.val=j))/\(j≠6->j≠9->v=(match j with | 0=>.pointer (some ⟨a3,0,none⟩) | 1=>.pointer (some ⟨a3,0,none⟩) | 2=>.pointer (some ⟨a3,0,none⟩) | 3=>.slice (some ⟨a1,0,none⟩) n n | 4=>.int .i64 (x.val:Int) | 5=>.int .i64 (np:Int) | 7=>.pointer (some ⟨a1,x.val * 4,none⟩) | 8=>.pointer (some ⟨a1,x.val * 4+3,none⟩) | _=>undef:Value)))
     (λw'=>(∃g' L',NMid w w' a3 a1 a2 n np g' L'/\∀j,j≠x.val->(L' j↔∃y∈pre,y.val=j)/\g' j=g0 j)/\KeepsFrom W2.heap.size W w')
     (λw1 w2=>w1.heap.size<=w2.heap.size/\(∀b,w.heap.size+3<b->b<w1.heap.size->w2.heap[b]? = w1.heap[b]?)/\((∃g',NMid w w1 a3 a1 a2 n np g' (λj=>∃y∈pre++[x],y.val=j))->∃g',NMid w w2 a3 a1 a2 n np g' (λj=>∃y∈pre++[x],y.val=j)))
     (by kernel_rfl) (by kernel_rfl) (by kernel_rfl) (by kernel_rfl) ?hR ?hG ?hops ?hend
    case hR =>
     intro j v w1 w2 ⟨h1,h2,h3⟩ ⟨r1,r2,r3⟩
     refine ⟨λe=>?_,λe=>r3 (h2 e),h3⟩
     obtain ⟨G,e1,e2,e3⟩:=h1 e
     exact ⟨G,e1,(r2 G (by have:=HWS.out;omega) (qD e2)).trans e2,e3⟩
    case hG=>exact ⟨⟨g0,_,hM.more bR.drew,λ_ _=>⟨Iff.rfl,rfl⟩⟩,qP bR.drew⟩
    case hops =>
     refine OpsOk.cons ?_ (OpsOk.cons ?_ (OpsOk.cons ?_ (OpsOk.cons ?_ (OpsOk.cons ?_ (OpsOk.cons ?_ (OpsOk.cons ?_ (OpsOk.cons ?_ (OpsOk.cons ?_ (OpsOk.cons ?_ (OpsOk.nil))))))))))
     . intro a w1 Kx hG need old hsz hK
       obtain ⟨⟨g',L',hM1,hj⟩,hkf⟩:=hG
       obtain ⟨cN,cK,c0,⟨v,cv⟩,cf⟩:=hM1.facts x.isLt
       have e0:a.tmps[7]?.getD undef=.pointer (some ⟨a2,0,none⟩):=by
        exact og (old 7 (by kernel_rfl))
       refine qB (v:=.pointer (some ⟨a3,0,none⟩)) (qA rfl) ?_ (hK _ w1 ⟨λe=>absurd e (by decide),λe=>absurd e (by decide),λ_ _=>rfl⟩ ⟨⟨g',L',hM1,hj⟩,hkf⟩ ⟨Nat.le_refl _,λ_ _ _=>rfl,id⟩)
       simp[execOp,go_sem,e0,cK]
     . intro a w1 Kx hG need old hsz hK
       obtain ⟨⟨g',L',hM1,hj⟩,hkf⟩:=hG
       have e0:a.tmps[27]?.getD undef=.pointer (some ⟨a3,0,none⟩):=by
        exact og ((need 0 (by kernel_rfl) (by kernel_rfl)).2.2 (by decide) (by decide))
       refine qB (v:=.pointer (some ⟨a3,0,none⟩)) (qA rfl) ?_ (hK _ w1 ⟨λe=>absurd e (by decide),λe=>absurd e (by decide),λ_ _=>rfl⟩ ⟨⟨g',L',hM1,hj⟩,hkf⟩ ⟨Nat.le_refl _,λ_ _ _=>rfl,id⟩)
       simp[execOp,go_sem,e0]
     . intro a w1 Kx hG need old hsz hK
       obtain ⟨⟨g',L',hM1,hj⟩,hkf⟩:=hG
       have e0:a.tmps[28]?.getD undef=.pointer (some ⟨a3,0,none⟩):=by
        exact og ((need 1 (by kernel_rfl) (by kernel_rfl)).2.2 (by decide) (by decide))
       refine qB (v:=.pointer (some ⟨a3,0,none⟩)) (qA rfl) ?_ (hK _ w1 ⟨λe=>absurd e (by decide),λe=>absurd e (by decide),λ_ _=>rfl⟩ ⟨⟨g',L',hM1,hj⟩,hkf⟩ ⟨Nat.le_refl _,λ_ _ _=>rfl,id⟩)
       simp[execOp,go_sem,e0]
     . intro a w1 Kx hG need old hsz hK
       obtain ⟨⟨g',L',hM1,hj⟩,hkf⟩:=hG
       obtain ⟨cN,cK,c0,⟨v,cv⟩,cf⟩:=hM1.facts x.isLt
       have e0:a.tmps[29]?.getD undef=.pointer (some ⟨a3,0,none⟩):=by
        exact og ((need 2 (by kernel_rfl) (by kernel_rfl)).2.2 (by decide) (by decide))
       refine qB (v:=.slice (some ⟨a1,0,none⟩) n n) (qA rfl) ?_ (hK _ w1 ⟨λe=>absurd e (by decide),λe=>absurd e (by decide),λ_ _=>rfl⟩ ⟨⟨g',L',hM1,hj⟩,hkf⟩ ⟨Nat.le_refl _,λ_ _ _=>rfl,id⟩)
       simp[execOp,go_sem,e0,c0]
     . intro a w1 Kx hG need old hsz hK
       obtain ⟨⟨g',L',hM1,hj⟩,hkf⟩:=hG
       have e0:a.tmps[8]?.getD undef=.int .i64 (x.val:Int):=by
        exact og (old 8 (by kernel_rfl))
       refine qB (v:=.int .i64 (x.val:Int)) (qA rfl) ?_ (hK _ w1 ⟨λe=>absurd e (by decide),λe=>absurd e (by decide),λ_ _=>rfl⟩ ⟨⟨g',L',hM1,hj⟩,hkf⟩ ⟨Nat.le_refl _,λ_ _ _=>rfl,id⟩)
       simp[execOp,go_sem,e0]
     . intro a w1 Kx hG need old hsz hK
       obtain ⟨⟨g',L',hM1,hj⟩,hkf⟩:=hG
       obtain ⟨cN,cK,c0,⟨v,cv⟩,cf⟩:=hM1.facts x.isLt
       have e0:a.tmps[4]?.getD undef=.pointer (some ⟨w.heap.size,0,none⟩):=by
        exact og (old 4 (by kernel_rfl))
       refine qB (v:=.int .i64 (np:Int)) (qA rfl) ?_ (hK _ w1 ⟨λe=>absurd e (by decide),λe=>absurd e (by decide),λ_ _=>rfl⟩ ⟨⟨g',L',hM1,hj⟩,hkf⟩ ⟨Nat.le_refl _,λ_ _ _=>rfl,id⟩)
       simp[execOp,go_sem,e0,cN]
     . intro a w1 Kx hG need old hsz hK
       obtain ⟨⟨g',L',hM1,hj⟩,hkf⟩:=hG
       have e0:a.tmps[32]?.getD undef=.int .i64 (np:Int):=by
        exact og ((need 5 (by kernel_rfl) (by kernel_rfl)).2.2 (by decide) (by decide))
       have hb:=(Below.refl w1.heap.size w1).alloc nL (.cells (madeCells #[Value.slice none 0 0] np) 34)
       refine qB (v:=.slice (some ⟨w1.heap.size,0,none⟩) np np) (w':=w1.alloc (.cells (madeCells #[Value.slice none 0 0] np) 34)) (qA rfl) ?_ (hK _ _ ⟨λ_=>⟨w1.heap.size,rfl,heap_alloc_new _ _,hkf.size⟩,λe=>absurd e (by decide),λe=>absurd rfl e⟩ ⟨⟨g',L',hM1.more hb,hj⟩,hkf.trans (qP hb)⟩ ⟨hb.size,λb _ h=>hb.block b h,λ⟨g2,h⟩=>⟨g2,h.more hb⟩⟩)
       simp[execOp,go_sem,e0,hmp]
     . intro a w1 Kx hG need old hsz hK
       obtain ⟨⟨g',L',hM1,hj⟩,hkf⟩:=hG
       have e0:a.tmps[30]?.getD undef=.slice (some ⟨a1,0,none⟩) n n:=by
        exact og ((need 3 (by kernel_rfl) (by kernel_rfl)).2.2 (by decide) (by decide))
       have e1:a.tmps[31]?.getD undef=.int .i64 (x.val:Int):=by
        exact og ((need 4 (by kernel_rfl) (by kernel_rfl)).2.2 (by decide) (by decide))
       refine qB (v:=.pointer (some ⟨a1,x.val * 4,none⟩)) (qA rfl) ?_ (hK _ w1 ⟨λe=>absurd e (by decide),λe=>absurd e (by decide),λ_ _=>rfl⟩ ⟨⟨g',L',hM1,hj⟩,hkf⟩ ⟨Nat.le_refl _,λ_ _ _=>rfl,id⟩)
       simp[execOp,go_sem,e0,e1,hx]
     . intro a w1 Kx hG need old hsz hK
       obtain ⟨⟨g',L',hM1,hj⟩,hkf⟩:=hG
       have e0:a.tmps[34]?.getD undef=.pointer (some ⟨a1,x.val * 4,none⟩):=by
        exact og ((need 7 (by kernel_rfl) (by kernel_rfl)).2.2 (by decide) (by decide))
       refine qB (v:=.pointer (some ⟨a1,x.val * 4+3,none⟩)) (qA rfl) ?_ (hK _ w1 ⟨λe=>absurd e (by decide),λe=>absurd e (by decide),λ_ _=>rfl⟩ ⟨⟨g',L',hM1,hj⟩,hkf⟩ ⟨Nat.le_refl _,λ_ _ _=>rfl,id⟩)
       simp[execOp,go_sem,e0]
     . intro a w1 Kx hG need old hsz hK
       obtain ⟨⟨g',L',hM1,hj⟩,hkf⟩:=hG
       obtain ⟨cN,cK,c0,⟨v,cv⟩,cf⟩:=hM1.facts x.isLt
       obtain ⟨G,e1',hG1,hG2⟩:=(need 6 (by kernel_rfl) (by kernel_rfl)).1 rfl
       have e0:a.tmps[35]?.getD undef=.pointer (some ⟨a1,x.val * 4+3,none⟩):=by
        exact og ((need 8 (by kernel_rfl) (by kernel_rfl)).2.2 (by decide) (by decide))
       have e1:a.tmps[33]?.getD undef=.slice (some ⟨G,0,none⟩) np np:=by
        exact og (e1')
       have hM2:=hM1.lay HA.out x.isLt hG1 (by have:=HWS.out;omega) (λj hjn hl hjx e=>by
        obtain ⟨hl',hg'⟩:=hj j hjx
        have:=hgb j hjn (hl'.1 hl)
        omega)
       have hM3:=hM2.same (L':=λj=>(∃y∈pre++[x],y.val=j)) (λj hjn=>by
        by_cases e:j=x.val
        . subst e;simp
        . simp only[e,or_false,(hj j e).1]
          constructor
          . rintro ⟨y,hy,hy2⟩;exact ⟨y,List.mem_append.2 (.inl hy),hy2⟩
          . rintro ⟨y,hy,hy2⟩
            rcases List.mem_append.1 hy with hy | hy
            . exact ⟨y,hy,hy2⟩
            . simp at hy;subst hy;exact absurd hy2.symm e)
       refine zDp (qA rfl) (w':=w1.setCell ⟨a1,x.val * 4+3,none⟩ (.slice (some ⟨G,0,none⟩) np np)) ?_ (hK _ _ ⟨λe=>absurd e (by decide),λ_=>⟨_,hM3⟩,λ_ e=>absurd rfl e⟩ ⟨⟨_,_,hM2,λj hjx=>?_⟩,hkf.trans ((KeepsOthers.setCell _ _ _).from _)⟩ ⟨by simp,λb hb _=>Below.heap_setCell _ ⟨a1,x.val * 4+3,none⟩ _ b (λe=>by have h5:b=a1:=e;have h6:=HA.out.q0;have:=HS.out;have:=HW4.out;omega),λ_=>⟨_,hM3⟩⟩)
       . simp[execOp,go_sem,e0,e1,cv,cf]
       . obtain ⟨h7,h8⟩:=hj j hjx
         exact ⟨⟨λh=>h7.1 (h.resolve_right hjx),λh=>.inl (h7.2 h)⟩,by simp only[if_neg hjx,h8]⟩
    case hend =>
     intro a w' hG _ _ hφ _
     obtain ⟨g',h9⟩:=(hφ 9 (by kernel_rfl)).2.1 rfl
     exact ⟨hG.2,trivial,g',h9,Nat.le_trans HZ.out hG.2.size⟩
   case hdone =>
    rintro D ys W hD rfl ⟨g,hM,hz⟩ hK
    have hC:=hM.chip HA.out (λi hi=>⟨⟨i,hi⟩,by simp,rfl⟩) h2 h3 h4
    have hDq:a1<D:=by have h5:=HA.out.q0;have h6:=HS.out;omega
    have hqk:a2≠a1:=HA.out.qk.symm
    have hqw:w.heap.size<=a1:=by have h5:=HA.out.q0;omega
    have hown:∀b,Go.Proofs.YtinkkmlbhkfmnaaGreat.Own a3 a1 g (λ_=>False) n b->w.heap.size<=b:=λb hb=>by
     have h5:=HA.out.q0
     have h6:=HA.out.p0
     rcases hb with rfl | rfl | ⟨i,hi,rfl⟩ | hb
     . omega
     . omega
     . have:=(hM.laid i hi ⟨⟨i,hi⟩,by simp,rfl⟩).2.2;omega
     . exact hb.elim
    have HB:=hI (show BadMid w W D a3 a1 a2 n np g (l.take 0) from ⟨hC,hM.boxC,hM.below,hK⟩)
    have HO:=hI hown
    clear hC hM hK hown H2 HA hz HW4 HS
    gi_wp2
    gi_loopw [10,38] (λ_ i wr=>∃j:Nat,j<=l.length/\i=.int .i64 j/\BadMid w wr D a3 a1 a2 n np g (l.take j)) (λ_ i _=>l.length - (intOf i).toNat)
    case atStart=>exact ⟨0,Nat.zero_le _,rfl,HB.out⟩
    case round =>
     obtain ⟨j,hj,rfl,hR⟩:=hrel
     by_cases hjl:j<l.length
     . obtain ⟨B,o,rfl,hBw,hcell⟩:=hA (by omega)
       have cb:wr.cell? ⟨B,o+j,none⟩=some (.int .i64 l[j]):=(hR.below.cell (p:=⟨B,o+j,none⟩) hBw).trans (hcell j hjl)
       have ck:=hR.boxC.cell
       have HRR:=hI hR
       have ht:=zFf hjl
       cases hi:isL (qZ n np (l.take j)) l[j] with
       | false =>
        have hs:=hR.skip hi
        rw[<- ht] at hs
        gi_wp2_with (refine ⟨trivial,?_⟩;(try refine ⟨zDf _,?_⟩);gi_at_call 71;refine (callsIn_wide.2 (zBp _ HRR.out.chip)).mono ?_;rintro e w1 ⟨rfl,hw1⟩;obtain rfl:=hw1;rw[hi])
        go_roundw
        case rel=>exact ⟨j+1,by omega,by simp,hs⟩
        case measure=>simp[intOf];omega
       | true =>
        obtain ⟨i,hli,hi'⟩:=zAd hi
        have hs:=hR.mark hi' hqw hDq hqk
        rw[hli] at ht cb hi
        rw[<- ht] at hs
        have hin:i<n:=by simpa[qZ,qj,zC] using hi'
        obtain ⟨c0,_⟩:=qw hR.chip.self
        have cq:=(hR.chip.blocks i hi').bad
        obtain ⟨cs,t,hpl⟩:=hR.chip.plain
        have cf:=qO hpl (i * 4)
        have c0':wr.cell? ⟨a3,0,none⟩=some (.slice (some ⟨a1,0,none⟩) n n):=by simpa[qZ,qj,zC] using c0
        clear hpl c0 hR
        gi_wp2_with (refine ⟨trivial,?_⟩;(try refine ⟨zDf _,?_⟩);gi_at_call 71;refine (callsIn_wide.2 (zBp _ HRR.out.chip)).mono ?_;rintro e w1 ⟨rfl,hw1⟩;obtain rfl:=hw1;rw[hi])
        go_roundw
        case rel=>exact ⟨j+1,by omega,by simp,hs⟩
        case measure=>simp[intOf];omega
     . obtain rfl:j=l.length:=by omega
       rw[List.take_of_length_le nL] at hR
       have ck:=hR.boxC.cell
       gi_wp2
       exact hR.leave (by omega) HO.out _ rfl
   case hstop =>
    rintro D c pre W hD hpre h hK
    exact h.elim
 . gi_wp2_with (refine ⟨trivial,?_⟩;(try refine ⟨zDf _,?_⟩);gi_at_call 47;refine (callsIn_wide.2 (yf _ _ _)).mono ?_;rintro e w1 ⟨rfl,rfl⟩)
   refine vj ?_
   intro W2 hW2
   obtain ⟨bN,bF,hM,ha⟩:Boxed W2 (w.heap.size+1+1+1+1) 3 (.int .i64 (n:Int))/\Boxed W2 (w.heap.size+1+1+1+1+1) 3 (.int .i64 0)/\NMid w W2 (w.heap.size+1+1+1) (w.heap.size+1+1) (w.heap.size+1) n np (λ_=>0) (λ_=>False)/\NAt w (w.heap.size+1+1+1) (w.heap.size+1+1) (w.heap.size+1):=by
    obtain ⟨W4,hW4,hs4,f0,f1,f2,f3,hb4⟩:=zGw w (.cells #[.int .i64 (np:Int)] 3) (.cells #[.pointer (some ⟨w.heap.size+1+1+1,0,none⟩)] 29) (.cells (madeCells #[.bool false,.int .i64 0,.int .i64 0,.slice none 0 0] (n * 4)) 101) (.cells #[.slice (some ⟨w.heap.size+1+1,0,none⟩) n n,.int .i64 (np:Int),.int .i64 0,.int .i64 0,.int .i64 0,.bool false,.bool false,.int .i64 0,.bool false,.int .i64 0,.bool false,.int .i64 0,.int .i64 0] 97)
    rw[<- hW4] at hW2
    have ha:NAt w (w.heap.size+1+1+1) (w.heap.size+1+1) (w.heap.size+1):=by constructor<;>omega
    have hb2:Below W4.heap.size W4 W2:=by rw[hW2];exact (((Below.refl _ W4).alloc nL _).alloc (by simp) _).drew
    have b1:=Boxed.new W4 3 (.int .i64 (n:Int))
    have b2:=Boxed.new (W4.alloc (.cells #[.int .i64 (n:Int)] 3)) 3 (.int .i64 0)
    rw[World.size_alloc] at b2
    rw[hs4] at b1 b2
    exact ⟨by rw[hW2];exact b1.alloc _,by rw[hW2];exact b2,(zFu f0 f1 f3 f2 hb4).more hb2,ha⟩
   clear hW2
   have HS:=hI (show w.heap.size+6<=W2.heap.size from by have:=bF.lt;omega)
   revert bN bF hM ha
   generalize e1:w.heap.size+1=a1
   generalize e2:a1+1=a2
   generalize e3:a2+1=a3
   generalize e4:a3+1=a4
   generalize e5:a4+1=a5
   intro bN bF hM ha
   have HW4:=hI (show a1=w.heap.size+1/\a2=w.heap.size+2/\a3=w.heap.size+3 from by omega)
   have H2:=hI hM
   have HA:=hI ha
   clear e1 e2 e3 e4 e5 hM ha
   apply wpIn_rangeFunc_ownG rfl (n:=3) (by omega) (gf:=83) (lb:=#[.pointer (some ⟨a4,0,none⟩),.pointer (some ⟨a5,0,none⟩)]) rfl trivial vu
    (vC (N:=n) (λ_ _=>True) (3 - 1) _ _ (by omega) h1 W2 bN bF) (λ_ _=>trivial) (λ_ _ _ _ _ _ _ _=>trivial) bR (λ_=>rfl)
    (λpre W=>∃g,NMid w W a3 a2 a1 n np g (λj=>∃y∈pre,y.val=j)/\W2.heap.size<=W.heap.size)
    (λ_ _ _=>False)
    ?own ?ownx ?start
   case own=>exact λs X Y row ⟨g,hs,hz⟩ hg hr=>⟨g,hs.grown hg (λr e=>⟨by have:=(hr r e).1;have:=HS.out;omega,(hr r e).2⟩),Nat.le_trans hz hg.size⟩
   case ownx=>exact λ_ _ _ _ _ h _ _=>h
   case start=>exact ⟨_,H2.out.same (λj _=>⟨λh=>h.elim,λ⟨y,hy,_⟩=>by cases hy⟩),Nat.le_refl _⟩
   case hassign =>
    intro l x W K hK
    gi_wp2
    exact hK
   case hbody =>
    rintro l pre x W ⟨g0,hM,hz⟩ hlt
    have HWS:=hI (show w.heap.size+6<=W.heap.size from Nat.le_trans HS.out hz)
    have HZ:=hI hz
    clear hz
    have hx:=x.isLt
    have hgb:∀j,j<n->(∃y∈pre,y.val=j)->g0 j<W.heap.size:=λj hj hl=>hM.lt hj hl
    have hmp:=zBb np (by omega)
    gi_wp2
    refine yG (λj v w'=>(j=6->∃G,v=.slice (some ⟨G,0,none⟩) np np/\w'.heap[G]? = some (.cells (madeCells #[Value.slice none 0 0] np) 34 (0,0))/\W.heap.size<=G)/\(j=9->∃g',NMid w w' a3 a2 a1 n np g' (λj=>∃y∈pre++[x],y.val=j))/\(j≠6->j≠9->v=(match j with | 0=>.pointer (some ⟨a3,0,none⟩) | 1=>.pointer (some ⟨a3,0,none⟩) | 2=>.pointer (some ⟨a3,0,none⟩) | 3=>.slice (some ⟨a2,0,none⟩) n n | 4=>.int .i64 (x.val:Int) | 5=>.int .i64 (np:Int) | 7=>.pointer (some ⟨a2,x.val * 4,none⟩) | 8=>.pointer (some ⟨a2,x.val * 4+3,none⟩) | _=>undef:Value)))
     (λw'=>(∃g' L',NMid w w' a3 a2 a1 n np g' L'/\∀j,j≠x.val->(L' j↔∃y∈pre,y.val=j)/\g' j=g0 j)/\KeepsFrom W2.heap.size W w')
     (λw1 w2=>w1.heap.size<=w2.heap.size/\(∀b,w.heap.size+3<b->b<w1.heap.size->w2.heap[b]? = w1.heap[b]?)/\((∃g',NMid w w1 a3 a2 a1 n np g' (λj=>∃y∈pre++[x],y.val=j))->∃g',NMid w w2 a3 a2 a1 n np g' (λj=>∃y∈pre++[x],y.val=j)))
     (by kernel_rfl) (by kernel_rfl) (by kernel_rfl) (by kernel_rfl) ?hR ?hG ?hops ?hend
    case hR =>
     intro j v w1 w2 ⟨h1,h2,h3⟩ ⟨r1,r2,r3⟩
     refine ⟨λe=>?_,λe=>r3 (h2 e),h3⟩
     obtain ⟨G,e1,e2,e3⟩:=h1 e
     exact ⟨G,e1,(r2 G (by have:=HWS.out;omega) (qD e2)).trans e2,e3⟩
    case hG=>exact ⟨⟨g0,_,hM.more bR.drew,λ_ _=>⟨Iff.rfl,rfl⟩⟩,qP bR.drew⟩
    case hops =>
     refine OpsOk.cons ?_ (OpsOk.cons ?_ (OpsOk.cons ?_ (OpsOk.cons ?_ (OpsOk.cons ?_ (OpsOk.cons ?_ (OpsOk.cons ?_ (OpsOk.cons ?_ (OpsOk.cons ?_ (OpsOk.cons ?_ (OpsOk.nil))))))))))
     . intro a w1 Kx hG need old hsz hK
       obtain ⟨⟨g',L',hM1,hj⟩,hkf⟩:=hG
       obtain ⟨cN,cK,c0,⟨v,cv⟩,cf⟩:=hM1.facts x.isLt
       have e0:a.tmps[7]?.getD undef=.pointer (some ⟨a1,0,none⟩):=by
        exact og (old 7 (by kernel_rfl))
       refine qB (v:=.pointer (some ⟨a3,0,none⟩)) (qA rfl) ?_ (hK _ w1 ⟨λe=>absurd e (by decide),λe=>absurd e (by decide),λ_ _=>rfl⟩ ⟨⟨g',L',hM1,hj⟩,hkf⟩ ⟨Nat.le_refl _,λ_ _ _=>rfl,id⟩)
       simp[execOp,go_sem,e0,cK]
     . intro a w1 Kx hG need old hsz hK
       obtain ⟨⟨g',L',hM1,hj⟩,hkf⟩:=hG
       have e0:a.tmps[27]?.getD undef=.pointer (some ⟨a3,0,none⟩):=by
        exact og ((need 0 (by kernel_rfl) (by kernel_rfl)).2.2 (by decide) (by decide))
       refine qB (v:=.pointer (some ⟨a3,0,none⟩)) (qA rfl) ?_ (hK _ w1 ⟨λe=>absurd e (by decide),λe=>absurd e (by decide),λ_ _=>rfl⟩ ⟨⟨g',L',hM1,hj⟩,hkf⟩ ⟨Nat.le_refl _,λ_ _ _=>rfl,id⟩)
       simp[execOp,go_sem,e0]
     . intro a w1 Kx hG need old hsz hK
       obtain ⟨⟨g',L',hM1,hj⟩,hkf⟩:=hG
       have e0:a.tmps[28]?.getD undef=.pointer (some ⟨a3,0,none⟩):=by
        exact og ((need 1 (by kernel_rfl) (by kernel_rfl)).2.2 (by decide) (by decide))
       refine qB (v:=.pointer (some ⟨a3,0,none⟩)) (qA rfl) ?_ (hK _ w1 ⟨λe=>absurd e (by decide),λe=>absurd e (by decide),λ_ _=>rfl⟩ ⟨⟨g',L',hM1,hj⟩,hkf⟩ ⟨Nat.le_refl _,λ_ _ _=>rfl,id⟩)
       simp[execOp,go_sem,e0]
     . intro a w1 Kx hG need old hsz hK
       obtain ⟨⟨g',L',hM1,hj⟩,hkf⟩:=hG
       obtain ⟨cN,cK,c0,⟨v,cv⟩,cf⟩:=hM1.facts x.isLt
       have e0:a.tmps[29]?.getD undef=.pointer (some ⟨a3,0,none⟩):=by
        exact og ((need 2 (by kernel_rfl) (by kernel_rfl)).2.2 (by decide) (by decide))
       refine qB (v:=.slice (some ⟨a2,0,none⟩) n n) (qA rfl) ?_ (hK _ w1 ⟨λe=>absurd e (by decide),λe=>absurd e (by decide),λ_ _=>rfl⟩ ⟨⟨g',L',hM1,hj⟩,hkf⟩ ⟨Nat.le_refl _,λ_ _ _=>rfl,id⟩)
       simp[execOp,go_sem,e0,c0]
     . intro a w1 Kx hG need old hsz hK
       obtain ⟨⟨g',L',hM1,hj⟩,hkf⟩:=hG
       have e0:a.tmps[8]?.getD undef=.int .i64 (x.val:Int):=by
        exact og (old 8 (by kernel_rfl))
       refine qB (v:=.int .i64 (x.val:Int)) (qA rfl) ?_ (hK _ w1 ⟨λe=>absurd e (by decide),λe=>absurd e (by decide),λ_ _=>rfl⟩ ⟨⟨g',L',hM1,hj⟩,hkf⟩ ⟨Nat.le_refl _,λ_ _ _=>rfl,id⟩)
       simp[execOp,go_sem,e0]
     . intro a w1 Kx hG need old hsz hK
       obtain ⟨⟨g',L',hM1,hj⟩,hkf⟩:=hG
       obtain ⟨cN,cK,c0,⟨v,cv⟩,cf⟩:=hM1.facts x.isLt
       have e0:a.tmps[4]?.getD undef=.pointer (some ⟨w.heap.size,0,none⟩):=by
        exact og (old 4 (by kernel_rfl))
       refine qB (v:=.int .i64 (np:Int)) (qA rfl) ?_ (hK _ w1 ⟨λe=>absurd e (by decide),λe=>absurd e (by decide),λ_ _=>rfl⟩ ⟨⟨g',L',hM1,hj⟩,hkf⟩ ⟨Nat.le_refl _,λ_ _ _=>rfl,id⟩)
       simp[execOp,go_sem,e0,cN]
     . intro a w1 Kx hG need old hsz hK
       obtain ⟨⟨g',L',hM1,hj⟩,hkf⟩:=hG
       have e0:a.tmps[32]?.getD undef=.int .i64 (np:Int):=by
        exact og ((need 5 (by kernel_rfl) (by kernel_rfl)).2.2 (by decide) (by decide))
       have hb:=(Below.refl w1.heap.size w1).alloc nL (.cells (madeCells #[Value.slice none 0 0] np) 34)
       refine qB (v:=.slice (some ⟨w1.heap.size,0,none⟩) np np) (w':=w1.alloc (.cells (madeCells #[Value.slice none 0 0] np) 34)) (qA rfl) ?_ (hK _ _ ⟨λ_=>⟨w1.heap.size,rfl,heap_alloc_new _ _,hkf.size⟩,λe=>absurd e (by decide),λe=>absurd rfl e⟩ ⟨⟨g',L',hM1.more hb,hj⟩,hkf.trans (qP hb)⟩ ⟨hb.size,λb _ h=>hb.block b h,λ⟨g2,h⟩=>⟨g2,h.more hb⟩⟩)
       simp[execOp,go_sem,e0,hmp]
     . intro a w1 Kx hG need old hsz hK
       obtain ⟨⟨g',L',hM1,hj⟩,hkf⟩:=hG
       have e0:a.tmps[30]?.getD undef=.slice (some ⟨a2,0,none⟩) n n:=by
        exact og ((need 3 (by kernel_rfl) (by kernel_rfl)).2.2 (by decide) (by decide))
       have e1:a.tmps[31]?.getD undef=.int .i64 (x.val:Int):=by
        exact og ((need 4 (by kernel_rfl) (by kernel_rfl)).2.2 (by decide) (by decide))
       refine qB (v:=.pointer (some ⟨a2,x.val * 4,none⟩)) (qA rfl) ?_ (hK _ w1 ⟨λe=>absurd e (by decide),λe=>absurd e (by decide),λ_ _=>rfl⟩ ⟨⟨g',L',hM1,hj⟩,hkf⟩ ⟨Nat.le_refl _,λ_ _ _=>rfl,id⟩)
       simp[execOp,go_sem,e0,e1,hx]
     . intro a w1 Kx hG need old hsz hK
       obtain ⟨⟨g',L',hM1,hj⟩,hkf⟩:=hG
       have e0:a.tmps[34]?.getD undef=.pointer (some ⟨a2,x.val * 4,none⟩):=by
        exact og ((need 7 (by kernel_rfl) (by kernel_rfl)).2.2 (by decide) (by decide))
       refine qB (v:=.pointer (some ⟨a2,x.val * 4+3,none⟩)) (qA rfl) ?_ (hK _ w1 ⟨λe=>absurd e (by decide),λe=>absurd e (by decide),λ_ _=>rfl⟩ ⟨⟨g',L',hM1,hj⟩,hkf⟩ ⟨Nat.le_refl _,λ_ _ _=>rfl,id⟩)
       simp[execOp,go_sem,e0]
     . intro a w1 Kx hG need old hsz hK
       obtain ⟨⟨g',L',hM1,hj⟩,hkf⟩:=hG
       obtain ⟨cN,cK,c0,⟨v,cv⟩,cf⟩:=hM1.facts x.isLt
       obtain ⟨G,e1',hG1,hG2⟩:=(need 6 (by kernel_rfl) (by kernel_rfl)).1 rfl
       have e0:a.tmps[35]?.getD undef=.pointer (some ⟨a2,x.val * 4+3,none⟩):=by
        exact og ((need 8 (by kernel_rfl) (by kernel_rfl)).2.2 (by decide) (by decide))
       have e1:a.tmps[33]?.getD undef=.slice (some ⟨G,0,none⟩) np np:=by
        exact og (e1')
       have hM2:=hM1.lay HA.out x.isLt hG1 (by have:=HWS.out;omega) (λj hjn hl hjx e=>by
        obtain ⟨hl',hg'⟩:=hj j hjx
        have:=hgb j hjn (hl'.1 hl)
        omega)
       have hM3:=hM2.same (L':=λj=>(∃y∈pre++[x],y.val=j)) (λj hjn=>by
        by_cases e:j=x.val
        . subst e;simp
        . simp only[e,or_false,(hj j e).1]
          constructor
          . rintro ⟨y,hy,hy2⟩;exact ⟨y,List.mem_append.2 (.inl hy),hy2⟩
          . rintro ⟨y,hy,hy2⟩
            rcases List.mem_append.1 hy with hy | hy
            . exact ⟨y,hy,hy2⟩
            . simp at hy;subst hy;exact absurd hy2.symm e)
       refine zDp (qA rfl) (w':=w1.setCell ⟨a2,x.val * 4+3,none⟩ (.slice (some ⟨G,0,none⟩) np np)) ?_ (hK _ _ ⟨λe=>absurd e (by decide),λ_=>⟨_,hM3⟩,λ_ e=>absurd rfl e⟩ ⟨⟨_,_,hM2,λj hjx=>?_⟩,hkf.trans ((KeepsOthers.setCell _ _ _).from _)⟩ ⟨by simp,λb hb _=>Below.heap_setCell _ ⟨a2,x.val * 4+3,none⟩ _ b (λe=>by have h5:b=a2:=e;have h6:=HA.out.q0;have:=HS.out;have:=HW4.out;omega),λ_=>⟨_,hM3⟩⟩)
       . simp[execOp,go_sem,e0,e1,cv,cf]
       . obtain ⟨h7,h8⟩:=hj j hjx
         exact ⟨⟨λh=>h7.1 (h.resolve_right hjx),λh=>.inl (h7.2 h)⟩,by simp only[if_neg hjx,h8]⟩
    case hend =>
     intro a w' hG _ _ hφ _
     obtain ⟨g',h9⟩:=(hφ 9 (by kernel_rfl)).2.1 rfl
     exact ⟨hG.2,trivial,g',h9,Nat.le_trans HZ.out hG.2.size⟩
   case hdone =>
    rintro D ys W hD rfl ⟨g,hM,hz⟩ hK
    have hC:=hM.chip HA.out (λi hi=>⟨⟨i,hi⟩,by simp,rfl⟩) h2 h3 h4
    have hDq:a2<D:=by have h5:=HA.out.q0;have h6:=HS.out;omega
    have hqk:a1≠a2:=HA.out.qk.symm
    have hqw:w.heap.size<=a2:=by have h5:=HA.out.q0;omega
    have hown:∀b,Go.Proofs.YtinkkmlbhkfmnaaGreat.Own a3 a2 g (λ_=>False) n b->w.heap.size<=b:=λb hb=>by
     have h5:=HA.out.q0
     have h6:=HA.out.p0
     rcases hb with rfl | rfl | ⟨i,hi,rfl⟩ | hb
     . omega
     . omega
     . have:=(hM.laid i hi ⟨⟨i,hi⟩,by simp,rfl⟩).2.2;omega
     . exact hb.elim
    have HB:=hI (show BadMid w W D a3 a2 a1 n np g (l.take 0) from ⟨hC,hM.boxC,hM.below,hK⟩)
    have HO:=hI hown
    clear hC hM hK hown H2 HA hz HW4 HS
    gi_wp2
    gi_loopw [10,38] (λ_ i wr=>∃j:Nat,j<=l.length/\i=.int .i64 j/\BadMid w wr D a3 a2 a1 n np g (l.take j)) (λ_ i _=>l.length - (intOf i).toNat)
    case atStart=>exact ⟨0,Nat.zero_le _,rfl,HB.out⟩
    case round =>
     obtain ⟨j,hj,rfl,hR⟩:=hrel
     by_cases hjl:j<l.length
     . obtain ⟨B,o,rfl,hBw,hcell⟩:=hA (by omega)
       have cb:wr.cell? ⟨B,o+j,none⟩=some (.int .i64 l[j]):=(hR.below.cell (p:=⟨B,o+j,none⟩) hBw).trans (hcell j hjl)
       have ck:=hR.boxC.cell
       have HRR:=hI hR
       have ht:=zFf hjl
       cases hi:isL (qZ n np (l.take j)) l[j] with
       | false =>
        have hs:=hR.skip hi
        rw[<- ht] at hs
        gi_wp2_with (refine ⟨trivial,?_⟩;(try refine ⟨zDf _,?_⟩);gi_at_call 71;refine (callsIn_wide.2 (zBp _ HRR.out.chip)).mono ?_;rintro e w1 ⟨rfl,hw1⟩;obtain rfl:=hw1;rw[hi])
        go_roundw
        case rel=>exact ⟨j+1,by omega,by simp,hs⟩
        case measure=>simp[intOf];omega
       | true =>
        obtain ⟨i,hli,hi'⟩:=zAd hi
        have hs:=hR.mark hi' hqw hDq hqk
        rw[hli] at ht cb hi
        rw[<- ht] at hs
        have hin:i<n:=by simpa[qZ,qj,zC] using hi'
        obtain ⟨c0,_⟩:=qw hR.chip.self
        have cq:=(hR.chip.blocks i hi').bad
        obtain ⟨cs,t,hpl⟩:=hR.chip.plain
        have cf:=qO hpl (i * 4)
        have c0':wr.cell? ⟨a3,0,none⟩=some (.slice (some ⟨a2,0,none⟩) n n):=by simpa[qZ,qj,zC] using c0
        clear hpl c0 hR
        gi_wp2_with (refine ⟨trivial,?_⟩;(try refine ⟨zDf _,?_⟩);gi_at_call 71;refine (callsIn_wide.2 (zBp _ HRR.out.chip)).mono ?_;rintro e w1 ⟨rfl,hw1⟩;obtain rfl:=hw1;rw[hi])
        go_roundw
        case rel=>exact ⟨j+1,by omega,by simp,hs⟩
        case measure=>simp[intOf];omega
     . obtain rfl:j=l.length:=by omega
       rw[List.take_of_length_le nL] at hR
       have ck:=hR.boxC.cell
       gi_wp2
       exact hR.leave (by omega) HO.out _ rfl
   case hstop =>
    rintro D c pre W hD hpre h hK
    exact h.elim
end
end
section
open Go.RowKit
section
variable {P:Program} {ops:Array Oper} {Q:Exit->Act->World->Prop}
theorem zKs {md:Region.Mode} (I:Array Bool->Act->World->Prop)
 (hstep:∀i listed a w,listed.size=ops.size->I listed a w->i∈Region.ready md ops listed->wpOp P ops Q i (λa' w'=>I (listed.setIfInBounds i true) a' w') a w)
 (hend:∀listed a w,listed.size=ops.size->I listed a w->Region.ready md ops listed = []->Q .normal a w) :
 ∀(fuel:Nat) (listed:Array Bool) (a:Act) (w:World),listed.size=ops.size->zF listed<=fuel->I listed a w->wpAny P md ops Q fuel listed a w:=by
 intro fuel
 induction fuel with
 | zero =>
  intro listed a w hs hc hI
  have hr:Region.ready md ops listed = []:=by
   rw[List.eq_nil_iff_forall_not_mem]
   intro i hi
   have h1:=(mem_ready.1 hi).1
   rw[zFd (by omega) i] at h1
   cases h1
  exact ⟨hr,hend _ _ _ hs hI hr⟩
 | succ fuel ih =>
  intro listed a w hs hc hI
  refine ⟨hend _ _ _ hs hI,λi hi=>?_⟩
  refine wpOp_mono (λa' w' h'=>ih _ a' w' (by simpa using hs) ?_ h') (hstep i listed a w hs hI hi)
  have:=zHj (mem_ready.1 hi).1
  omega
def zEh (f:Nat->Value) (i:Nat) (v:Value):Nat->Value:=λk=>if k=i then v else f k
theorem qh (f:Nat->Value) (i:Nat) (v:Value):zEh f i v i=v:=by simp[zEh]
theorem vI (f:Nat->Value) {i k:Nat} (h:k≠i) (v:Value):zEh f i v k=f k:=by simp[zEh,h]
theorem vals_put {a:Act} {i:Nat} {o:Oper} {v:Value} (hsl:vt ops a.tmps.size=true) (ho:ops[i]? = some o):yJ ops (a.put o.dst v)=zEh (yJ ops a) i (told o v):=by
 funext k
 by_cases hk:k=i
 . subst hk;rw[qh,zCg hsl ho]
 . rw[vI _ hk,yu hsl ho hk]
structure KnownS (ops:Array Oper) (φ : Nat->Value->World->Prop) (G:(Nat->Value)->World->Prop) (a0:Act) (listed:Array Bool) (a:Act) (w:World):Prop where
 g:G (yJ ops a) w
 defers:a.defers=a0.defers
 size:a.tmps.size=a0.tmps.size
 done:∀i o,ops[i]? = some o->listed.getD i false=true -> φ i (yJ ops a i) w
 fresh:∀i,listed.getD i false=false->yJ ops a i=yJ ops a0 i
 old:∀t,(ops.all λo=>o.dst != some t)=true->a.tmps.getD t undef=a0.tmps.getD t undef
def OpOkS (P:Program) (ops:Array Oper) (Q:Exit->Act->World->Prop) (φ : Nat->Value->World->Prop) (G:(Nat->Value)->World->Prop) (R:World->World->Prop) (a0:Act) (i:Nat) (o:Oper):Prop :=
 ∀(a:Act) (w:World) (K:Act->World->Prop),G (yJ ops a) w ->
  (∀j,(o.after.any λe=>e.on==j&&Region.binds .any e)=true->(ops[j]?).isSome=true -> φ j (yJ ops a j) w) ->
  (∀t,(ops.all λo=>o.dst != some t)=true->a.tmps.getD t undef=a0.tmps.getD t undef) ->
  a.tmps.size=a0.tmps.size ->
  yJ ops a i=yJ ops a0 i ->
  (∀v w',φ i (told o v) w'->G (zEh (yJ ops a) i (told o v)) w'->R w w'->K (a.put o.dst v) w') ->
  if Region.wanted o (yielded ops a.tmps)=true then o.wp P a w K Q else K (a.put o.dst undef) w
def OpsOkS (P:Program) (ops:Array Oper) (Q:Exit->Act->World->Prop) (φ : Nat->Value->World->Prop) (G:(Nat->Value)->World->Prop) (R:World->World->Prop) (a0:Act):Nat->List Oper->Prop
 | _,[]=>True
 | i,o::r=>OpOkS P ops Q φ G R a0 i o/\OpsOkS P ops Q φ G R a0 (i+1) r
theorem OpsOkS.nil {φ : Nat->Value->World->Prop} {G:(Nat->Value)->World->Prop} {R:World->World->Prop} {a0:Act} {i:Nat} : OpsOkS P ops Q φ G R a0 i []:=trivial
theorem oC {φ : Nat->Value->World->Prop} {G:(Nat->Value)->World->Prop} {R:World->World->Prop} {a0:Act} {i:Nat} {o:Oper} {r:List Oper} (h:OpOkS P ops Q φ G R a0 i o) (hr:OpsOkS P ops Q φ G R a0 (i+1) r):OpsOkS P ops Q φ G R a0 i (o::r):=⟨h,hr⟩
theorem OpsOkS.at_ {φ : Nat->Value->World->Prop} {G:(Nat->Value)->World->Prop} {R:World->World->Prop} {a0:Act} : ∀(l:List Oper) (i j:Nat) (o:Oper),OpsOkS P ops Q φ G R a0 i l->l[j]? = some o->OpOkS P ops Q φ G R a0 (i+j) o
 | [],_,_,_,_,h=>by simp at h
 | o::r,i,0,o',h,hj=>by
  obtain rfl:o=o':=by simpa using hj
  exact h.1
 | o::r,i,j+1,o',h,hj=>by
  have:=OpsOkS.at_ r (i+1) j o' h.2 (by simpa using hj)
  rwa [show i+1+j=i+(j+1) by omega] at this
theorem qR {id:Nat} {a0:Act} {w:World} (φ : Nat->Value->World->Prop) (G:(Nat->Value)->World->Prop) (R:World->World->Prop) (hm:P.follows .mixedOrders=true) (hf:zCv ops=true) (hsl:vt ops a0.tmps.size=true)
 (hR:∀j v w w',φ j v w->R w w' -> φ j v w') (hG:G (yJ ops a0) w.drew) (hops:OpsOkS P ops Q φ G R a0 0 ops.toList)
 (hend:∀a w',G (yJ ops a) w'->a.defers=a0.defers->a.tmps.size=a0.tmps.size->(∀j,(ops[j]?).isSome=true -> φ j (yJ ops a j) w')->(∀t,(ops.all λo=>o.dst != some t)=true->a.tmps.getD t undef=a0.tmps.getD t undef)->Q .normal a w') :
 (Code.region id ops true).wp P Q a0 w:=by
 refine wp_region_any hm ?_
 have h0:KnownS ops φ G a0 (Array.replicate ops.size false) a0 w.drew :=
  ⟨hG,rfl,rfl,λi o _ h=>by
   exfalso
   simp[Array.getD] at h,λ_ _=>rfl,λt _=>rfl⟩
 refine zKs (λlisted a w=>KnownS ops φ G a0 listed a w) ?_ ?_ ops.size (Array.replicate ops.size false) a0 w.drew (by simp) ?_ h0
 . intro i listed a w hs hI hi
   obtain ⟨hun,o,ho,hall⟩:=mem_ready.1 hi
   have hok:=OpsOkS.at_ ops.toList 0 i o hops (by simpa using ho)
   rw[Nat.zero_add] at hok
   have hil:i<listed.size:=by have:=(Array.getElem?_eq_some_iff.1 ho).1;omega
   have hunf:listed.getD i false=false:=by simpa[Array.getD,hil] using hun
   have hsl':vt ops a.tmps.size=true:=by rw[hI.size];exact hsl
   have hgo:=hok a w (λa' w'=>KnownS ops φ G a0 (listed.setIfInBounds i true) a' w') hI.g
    (λj he hj=>by
     obtain ⟨e,he1,he2⟩:=Array.any_eq_true'.1 he
     simp only[Bool.and_eq_true,beq_iff_eq] at he2
     obtain ⟨oj,hoj⟩:=Option.isSome_iff_exists.1 hj
     exact hI.done j oj hoj (by have:=hall e he1 he2.2;rwa [he2.1] at this))
    hI.old hI.size (hI.fresh i hunf)
    (λv w' hv hg' hr=>by
     refine ⟨by rw[vals_put hsl' ho];exact hg',?_,?_,?_,?_,?_⟩
     . cases hd:o.dst<;>simpa[Act.put] using hI.defers
     . cases hd:o.dst<;>simpa[Act.put] using hI.size
     . intro j oj hoj hlj
       by_cases hij:i=j
       . subst hij
         rw[zCg hsl' ho]
         exact hv
       . have hl:listed.getD j false=true:=by rw[getD_set_ne false hij] at hlj;exact hlj
         rw[yu hsl' ho (Ne.symm hij)]
         exact hR j _ _ _ (hI.done j oj hoj hl) hr
     . intro k hk
       have hki:k≠i:=λe=>by
        subst e
        simp[Array.getD,hil] at hk
       rw[yu hsl' ho hki]
       exact hI.fresh k (by rwa [getD_set_ne false (Ne.symm hki)] at hk)
     . intro t ht
       have e:(a.put o.dst v).tmps.getD t undef=a.tmps.getD t undef:=by
        cases hd:o.dst with
        | none=>rfl
        | some u =>
         have hne:u≠t:=λe=>by
          have:=Array.all_eq_true'.1 ht o (Array.mem_of_getElem? ho)
          rw[hd,e] at this
          simp at this
         simp only[Act.put]
         rw[Array.getD_eq_getD_getElem?,Array.getD_eq_getD_getElem?,Array.getElem?_setIfInBounds,if_neg hne]
       rw[e]
       exact hI.old t ht)
   unfold wpOp
   rw[ho]
   by_cases hw:Region.wanted o (yielded ops a.tmps)=true
   . rw[if_pos hw] at hgo
     simp only[hw,if_true]
     exact .inl hgo
   . rw[if_neg hw] at hgo
     simp only[hw]
     exact hgo
 . intro listed a w hs hI hr
   have hal:=zBh hf hs hr
   refine hend a w hI.g hI.defers hI.size (λj hj=>?_) hI.old
   obtain ⟨oj,hoj⟩:=Option.isSome_iff_exists.1 hj
   exact hI.done j oj hoj (hal j (Array.getElem?_eq_some_iff.1 hoj).1)
 . unfold zF
   have:=List.countP_le_length (p:=λb => !b) (l:=(Array.replicate ops.size false).toList)
   simpa using this
end
end
section
open Go.RowKit
def Held (w:World) (p:Nat) (x:Nat->Prop) (S:LS):Prop:=∃q cap g C,LAt w p q cap g C S/\∀b,x b->b<w.heap.size/\¬Own p q g C S.bl.length b
abbrev Safe (x:Nat->Prop) (w w':World):Prop:=Turned (λb=>¬x b) w w'
section
variable {w w':World} {p:Nat} {x y:Nat->Prop} {S S':LS}
theorem Held.below (h:Held w p x S) (hb:Below w.heap.size w w'):Held w' p x S:=by
 obtain ⟨q,cap,g,C,h1,h2⟩:=h
 exact ⟨q,cap,g,C,h1.below hb,λb hx=>⟨Nat.lt_of_lt_of_le (h2 b hx).1 hb.size,(h2 b hx).2⟩⟩
theorem Held.less (h:Held w p x S) (hy:∀b,y b->x b):Held w p y S:=by
 obtain ⟨q,cap,g,C,h1,h2⟩:=h
 exact ⟨q,cap,g,C,h1,λb hb=>h2 b (hy b hb)⟩
theorem Safe.block (h:Safe x w w') {b:Nat} (hb:b<w.heap.size) (hx:x b):w'.heap[b]? = w.heap[b]? := Turned.block h b hb λk=>k hx
theorem qC (hb:Below w.heap.size w w'):Safe x w w':=.of_below hb
theorem Safe.then {w'':World} (h:Safe x w w') (k:Safe x w' w''):Safe x w w'':=Turned.trans h k λ_ _ e=>e
theorem Safe.then' {w'':World} (h:Safe x w w') (k:Safe y w' w'') (hy:∀b,b<w.heap.size->x b->y b):Safe x w w'':=Turned.trans h k λb hb e hx=>e (hy b hb hx)
theorem CB.safe {C D:Nat->Prop} {A:Option Addr} {l:List UInt8} (h:CB w C A l) (hs:Safe x w w') (hC:∀b,C b->x b/\b<w.heap.size) (hD:∀b,C b->D b):CB w' D A l:=h.keep (λb hb=>Safe.block hs (hC b hb).2 (hC b hb).1) hD
theorem zCt {q cap:Nat} {g:Nat->Nat} {C D:Nat->Prop} (h2:∀b,x b->b<w.heap.size/\¬Own p q g C S.bl.length b) (hl:S'.bl.length=S.bl.length) (h:LAt w' p q cap g D S') (hD:∀k,D k->C k\/(w.heap.size<=k/\k<w'.heap.size)) (ht:Turned (Own p q g C S.bl.length) w w'):Held w' p x S'/\Safe x w w':=by
 refine ⟨⟨q,cap,g,D,h,λb hb=>⟨Nat.lt_of_lt_of_le (h2 b hb).1 ht.size,λho=>?_⟩⟩,ht.os,ht.tape,ht.output,ht.size,λi hi hx=>ht.block i hi λho=>hx λhxi=>(h2 i hxi).2 ho⟩
 rw[hl] at ho
 rcases ho with e | e | e | e
 . exact (h2 b hb).2 (.inl e)
 . exact (h2 b hb).2 (.inr (.inl e))
 . exact (h2 b hb).2 (.inr (.inr (.inl e)))
 . rcases hD b e with e | ⟨e,_⟩
   . exact (h2 b hb).2 (.inr (.inr (.inr e)))
   . have:=(h2 b hb).1;omega
theorem zXq (S:LS) (b pg:Int) (l:List UInt8):(qU S b pg l).2.bl.length=S.bl.length:=by
 unfold qU putL
 split
 . rfl
 . split
   . simp
   . split<;>simp
theorem zUx (S:LS) (b:Int):(qf S b).2.bl.length=S.bl.length:=by
 unfold qf
 split
 . rfl
 . split
   . simp
   . split<;>simp
theorem rdL_len (S:LS) (b pg:Int):(rdL S b pg).2.2.bl=S.bl:=by
 unfold rdL
 split
 . rfl
 . split<;>rfl
theorem zZo (A:Option Addr) (c:Nat) (l:List UInt8) (b pg:Int) (h:Held w p x S) (hl:CB w x A l) :
 Calls Tryz.prog 119 #[.pointer (some ⟨p,0,none⟩),.agg #[.int .i64 b,.int .i64 pg],.slice A l.length c] w λe w'=>e=.returned (.int .i64 (qU S b pg l).1)/\Held w' p x (qU S b pg l).2/\Safe x w w':=by
 obtain ⟨q,cap,g,C,h1,h2⟩:=h
 refine (prog_any A c l b pg h1 hl h2).mono ?_
 rintro e w' ⟨rfl,D,h3,h4,h5⟩
 exact ⟨rfl,zCt h2 (zXq S b pg l) h3 h4 h5⟩
theorem zUr (b:Int) (h:Held w p x S) :
 Calls Tryz.prog 166 #[.pointer (some ⟨p,0,none⟩),.int .i64 b] w λe w'=>e=.returned (.int .i64 (qf S b).1)/\Held w' p x (qf S b).2/\Safe x w w':=by
 obtain ⟨q,cap,g,C,h1,h2⟩:=h
 refine (yAa b h1).mono ?_
 rintro e w' ⟨rfl,h3,h5⟩
 exact ⟨rfl,zCt h2 (zUx S b) h3 (λ_ h=>.inl h) h5⟩
theorem zZn (b pg:Int) (h:Held w p x S) :
 Calls Tryz.prog 59 #[.pointer (some ⟨p,0,none⟩),.agg #[.int .i64 b,.int .i64 pg]] w λe w'=>∃A L,e=.returned (.tuple #[.slice A L.length L.length,.int .i64 (rdL S b pg).2.1])/\Hid (L=(rdL S b pg).1)/\CB w' (λk=>w.heap.size<=k/\k<w'.heap.size) A L/\Held w' p (λb=>x b\/(w.heap.size<=b/\b<w'.heap.size)) (rdL S b pg).2.2/\Safe x w w':=by
 obtain ⟨q,cap,g,C,h1,h2⟩:=h
 refine (read_any b pg h1).mono ?_
 rintro e w' ⟨A,L,rfl,hL,hc,h3,h5⟩
 have hbl:=rdL_len S b pg
 obtain ⟨hh,hs⟩:=zCt (x:=x) h2 (by rw[hbl]) h3 (λ_ h=>.inl h) h5
 refine ⟨A,L,rfl,hL,hc,⟨q,cap,g,C,h3,λb hb=>?_⟩,hs⟩
 rcases hb with hb | ⟨h6,h7⟩
 . refine ⟨Nat.lt_of_lt_of_le (h2 b hb).1 h5.size,?_⟩
   rw[hbl];exact (h2 b hb).2
 . refine ⟨h7,?_⟩
   rw[hbl]
   intro ho
   have:=h1.lt b ho
   omega
theorem zBc (i:Int) (h:Held w p x S):Calls Tryz.prog 48 #[.pointer (some ⟨p,0,none⟩),.int .i64 i] w (zAy (qI S i) w):=by
 obtain ⟨q,cap,g,C,h1,h2⟩:=h
 exact zOj i h1
theorem zNt {v:Value} {q cap:Nat} {g:Nat->Nat} {C:Nat->Prop} (h2:∀b,x b->b<w.heap.size/\¬Own p q g C S.bl.length b) {e:Ending} (h:LPost p q cap g C S.bl.length v S' w e w') (hl:S'.bl=S.bl):e=.returned v/\Held w' p x S'/\Safe x w w':=by
 obtain ⟨rfl,h3,h4⟩:=h
 exact ⟨rfl,zCt h2 (by rw[hl]) h3 (λ_ h=>.inl h) h4⟩
theorem zZp (n:Int) (hn:n<=9223372036854775807) (h:Held w p x S):Calls Tryz.prog 13 #[.pointer (some ⟨p,0,none⟩),.int .i64 n] w λe w'=>e=.returned (.tuple #[])/\Held w' p x { S with f:=vY n } /\ Safe x w w':=by
 obtain ⟨q,cap,g,C,h1,h2⟩:=h
 exact (fail_any n hn h1).mono λe w' h=>zNt h2 h rfl
theorem zZm (n:Int) (hn:n<=9223372036854775807) (h:Held w p x S):Calls Tryz.prog 14 #[.pointer (some ⟨p,0,none⟩),.int .i64 n] w λe w'=>e=.returned (.tuple #[])/\Held w' p x { S with w:=vY n } /\ Safe x w w':=by
 obtain ⟨q,cap,g,C,h1,h2⟩:=h
 exact (worn_any n hn h1).mono λe w' h=>zNt h2 h rfl
theorem zNu (h:Held w p x S):Calls Tryz.prog 18 #[.pointer (some ⟨p,0,none⟩)] w λe w'=>e=.returned (.bool S.dark)/\w'=w:=by
 obtain ⟨q,cap,g,C,h1,h2⟩:=h
 exact down_any h1
theorem zNv (h:Held w p x S):Calls Tryz.prog 40 #[.pointer (some ⟨p,0,none⟩)] w λe w'=>e=.returned (.agg #[.int .i64 S.rd,.int .i64 S.pr,.int .i64 S.er])/\Below w.heap.size w w':=by
 obtain ⟨q,cap,g,C,h1,h2⟩:=h
 exact bill_any h1
theorem zSi (n np:Nat) (A:Option Addr) (c:Nat) (l:List Int) (hA:IntsArg w A l) (hlen:l.length<=1000000) (h1:1<=n) (h2:n<=64) (h3:1<=np) (h4:np<=32) :
 Calls Tryz.prog 34 #[.int .i64 n,.int .i64 np,.slice A l.length c] w λe w'=>∃p,e=.returned (.pointer (some ⟨p,0,none⟩))/\Held w' p (λb=>b<w.heap.size) (qZ n np l)/\Below w.heap.size w w':=by
 refine (new_yes n np A c l hA hlen h1 h2 h3 h4).mono ?_
 rintro e w' ⟨p,q,g,rfl,h5,h6,h7⟩
 refine ⟨p,rfl,⟨q,n,g,_,h5,λb hb=>⟨Nat.lt_of_lt_of_le hb h7.size,λho=>?_⟩⟩,h7⟩
 have hl:(qZ n np l).bl.length=n:=by simp[qZ,qj,zC]
 rw[hl] at ho
 have:=h6 b ho
 omega
end
end
end Go.Proofs.YtinkkmlbhkfmnaaGreat
