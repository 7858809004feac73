/- A part of what the last text proves: Gk. -/
import Derived.Laws.AppendOwnNone
import Derived.Test.YtinkkmlbhkfmnaaGreatQGw
set_option maxRecDepth 100000
set_option maxHeartbeats 8000000
namespace Go.Proofs.YtinkkmlbhkfmnaaGreat
section
open Go.RowKit
theorem zZb:∃i,Tryz.prog.info? 3=some i/\i.zero=some (.int .i64 0)/\i.size=1/\i.bytes=8:=by
 have h:=zSe
 cases e:Tryz.prog.info? 3 with
 | none=>rw[e] at h;cases h
 | some i =>
  rw[e] at h
  simp only[Option.map_some,Option.some.injEq,Prod.mk.injEq] at h
  exact ⟨i,rfl,h.1,h.2.1,h.2.2⟩
def IOwn (w:World) (base:Nat) (v:Value) (l:List Int):Prop:=w.ownsRow base 3 1 v l.length (l.map (Value.int .i64))
theorem yAx {w:World} {A:Option Addr} {l:List Int} (h:IA w A l) {ad:Addr} (e:A=some ad):∀(j:Nat) (u:Value),(l.map (Value.int .i64))[j]? = some u->w.cell? (ad.add j)=some u:=λj u hu=>by
 have hj:j<l.length:=by
  rcases Nat.lt_or_ge j l.length with h' | h'
  . exact h'
  . rw[List.getElem?_eq_none (by simpa using h')] at hu;cases hu
 obtain ⟨B,o,e2,_,hc⟩:=h (by omega)
 obtain rfl:ad=⟨B,o,none⟩:=by rw[e] at e2;exact Option.some.inj e2
 have ea:(⟨B,o,none⟩:Addr).add j=⟨B,o+j,none⟩:=by
  unfold Addr.add
  split
  . next e=>subst e;rfl
  . rfl
 rw[ea,hc j hj]
 simpa[hj] using hu
theorem run_app {w:World} {base:Nat} {v:Value} {xs l:List Int} {A:Option Addr} {c:Nat} (ty:TypeId) (hown:IOwn w base v xs) (hl:IA w A l) (hA:A=none->l = []/\c=0) (h63:xs.length+l.length<=1000000) (hbase:base<=w.heap.size) :
 ∃q cap w',(Builtin.append_ #[24,24] ty #[v,.slice A l.length c]).run Tryz.prog w=.ok (.slice q (xs.length+l.length) cap) w'/\IOwn w' base (.slice q (xs.length+l.length) cap) (xs++l)/\w.grownBy w' v.ownBlock:=by
 obtain ⟨i,hi,hz,hs,hb⟩:=zZb
 cases A with
 | some ad =>
  obtain ⟨v',w',hr,h2,h3,_⟩:=run_append_own (P:=Tryz.prog) (w:=w) base 24 ty 3 i (.int .i64 0) 1 8 Tryz.underlying24 hi hz hs hb rfl (by omega) v xs.length (xs.map (Value.int .i64)) hown ad l.length c (l.map (Value.int .i64)) (by simp) (yAx hl rfl) (λu hu=>by obtain ⟨x,_,rfl⟩:=List.mem_map.1 hu;rfl) (by unfold maxLen;omega) (by omega) hbase
  obtain ⟨q,cap,rfl,_⟩:=qN h2
  exact ⟨q,cap,w',hr,by unfold IOwn;rw[List.length_append,List.map_append];exact h2,h3⟩
 | none =>
  obtain ⟨rfl,rfl⟩:=hA rfl
  have hr:=run_append_owned_none (P:=Tryz.prog) (w:=w) base 24 ty 3 i 1 Tryz.underlying24 hi v xs.length (xs.map (Value.int .i64)) hown
  obtain ⟨q,cap,rfl,_⟩:=qN hown
  exact ⟨q,cap,w,hr,by simpa using hown,⟨rfl,rfl,rfl,Nat.le_refl _,λ_ _ _=>rfl⟩⟩
theorem oper_app {w:World} {o:Oper} {a:Act} {K:Act->World->Prop} {Q:Exit->Act->World->Prop} (s x:Operand) (ho:o.op=.call { callee:=.builtin .append,args:=#[s,x],argTypes:=#[24,24] })
 {base:Nat} {v:Value} {xs l:List Int} {A:Option Addr} {c:Nat} (hs:a.eval s=v) (hx:a.eval x=.slice A l.length c) (hown:IOwn w base v xs) (hl:IA w A l) (hA:A=none->l = []/\c=0) (h63:xs.length+l.length<=1000000) (hbase:base<=w.heap.size)
 (h:∀q cap w',IOwn w' base (.slice q (xs.length+l.length) cap) (xs++l)->w.grownBy w' v.ownBlock->K (a.put o.dst (.slice q (xs.length+l.length) cap)) w'):Oper.wp Tryz.prog o a w K Q:=by
 obtain ⟨q,cap,w',hr,h2,h3⟩:=run_app o.type hown hl hA h63 hbase
 unfold Oper.wp execOp
 simp only[ho,resolve,invoke,builtin,Sem.run_bind,Sem.run_pure,Result.andThen_ok,List.map_toArray,List.map_cons,List.map_nil,hs,hx,hr]
 exact h q cap w' h2 h3
theorem zTk {w:World} {ops:Array Oper} {rest:List Oper} {o:Oper} {a:Act} {Q:Exit->Act->World->Prop} (hgd:o.guard=none) (s x:Operand) (ho:o.op=.call { callee:=.builtin .append,args:=#[s,x],argTypes:=#[24,24] })
 (base:Nat) (v:Value) (xs l:List Int) (A:Option Addr) (c:Nat) (hs:a.eval s=v) (hx:a.eval x=.slice A l.length c) (hown:IOwn w base v xs) (hl:IA w A l) (hA:A=none->l = []/\c=0) (h63:xs.length+l.length<=1000000) (hbase:base<=w.heap.size)
 (h:∀q cap w',IOwn w' base (.slice q (xs.length+l.length) cap) (xs++l)->w.grownBy w' v.ownBlock->wpList Tryz.prog ops Q rest (a.put o.dst (.slice q (xs.length+l.length) cap)) w'):wpList Tryz.prog ops Q (o::rest) a w :=
 wpList_plain hgd λ_ hK=>oper_app s x ho hs hx hown hl hA h63 hbase λq cap w' h2 h3=>hK _ _ (h q cap w' h2 h3)
theorem iown_one (w:World) (x:Int):IA (w.alloc (.cells #[.int .i64 x] 3)) (some ⟨w.heap.size,0,none⟩) [x]:=zWz (l:=[x]) (heap_alloc_new w (.cells #[.int .i64 x] 3))
theorem IOwn.arr {w:World} {base c:Nat} {q:Option Addr} {l:List Int} {n:Nat} (h:IOwn w base (.slice q n c) l):IA w q l/\n=l.length/\(∀ad,q=some ad->base<=ad.block):=by
 have hx:n=l.length:=by
  rcases h.2 with ⟨e,e2⟩ | ⟨g,cap,cur,e,_⟩
  . simp at e;omega
  . simp at e;omega
 subst hx
 refine ⟨λhn=>?_,rfl,λad e=>?_⟩
 . rcases h.2 with ⟨_,e⟩ | ⟨g,cap,cur,e,_,hg,_⟩
   . omega
   . simp at e
     obtain ⟨rfl,rfl⟩:=e
     refine ⟨g,0,rfl,(Array.getElem?_eq_some_iff.1 hg).1,λj hj=>?_⟩
     have:=h.cellAt j (by simpa using hj)
     rw[Nat.zero_add,this]
     simp[hj]
 . rcases h.2 with ⟨e2,_⟩ | ⟨g,cap,cur,e2,hb,_⟩
   . rw[e] at e2;cases e2
   . rw[e] at e2
     simp at e2
     obtain ⟨rfl,_⟩:=e2
     exact hb
theorem zAe {W W':World} {B:Nat} {v:Value} {l:List Int} (h:IOwn W B v l) (hb:Below W.heap.size W W'):IOwn W' B v l:=vS h λk e=>hb.block k (World.ownsRow.lt h k e).2
theorem iown_nil (W:World) (B:Nat):IOwn W B (.slice none 0 0) []:=World.ownsRow_nil _ _ _ _
theorem zUo {w0 w w':World} {n:Nat} {v:Value} {xs:List Int} (h:IOwn w n v xs) (hb:Below n w0 w) (hg:w.grownBy w' v.ownBlock) (hn:n<=w.heap.size):Below n w0 w' :=
 hb.grown hg hn λk e=>(World.ownsRow.lt h k e).1
end
section
open Go.RowKit
theorem zZg:(Tryz.prog.info? 4).map (λi=>(i.zero,i.size,i.bytes))=some (some (.bool false),1,1):=by kernel_rfl
theorem zAq {w:World} {g:Nat} {l:List Bool} {t:TypeId} (h:w.heap[g]? = some (.cells (l.map (Value.bool)).toArray t (0,0))) (k:Nat) (hk:k<l.length):w.cell? ⟨g,k,none⟩=some (.bool l[k]):=by
 simp[World.cell?,h,hk]
theorem zBf {w:World} {g:Nat} {l:List Bool} {t:TypeId} (h:w.heap[g]? = some (.cells (l.map (Value.bool)).toArray t (0,0))):BA w (some ⟨g,0,none⟩) l:=λ_ =>
 ⟨g,0,rfl,(Array.getElem?_eq_some_iff.1 h).1,λj hj=>by rw[Nat.zero_add];exact zAq h j hj⟩
theorem bown_one (w:World) (x:Bool):BA (w.alloc (.cells #[.bool x] 4)) (some ⟨w.heap.size,0,none⟩) [x]:=zBf (l:=[x]) (heap_alloc_new w (.cells #[.bool x] 4))
end
section
open Go.RowKit
def qJ (b:Bk):Bool := !b.bad&&b.next==0
def zAc (b:Bk) (pages:Int):Int:=if b.bad=true then 0 else if pages - b.next<0 then 0 else if 9223372036854775807<pages - b.next then 9223372036854775807 else pages - b.next
def qx (l:List Bk):Nat:=l.countP (·.bad)
def qV:Nat->List Bk->List Int
 | _,[]=>[]
 | k,b::r=>if qJ b=true then (k:Int)::qV (k+1) r else qV (k+1) r
def qK (l:List Bk):List Int:=qV 0 l
theorem zGn (k:Nat) (l:List Bk) (b:Bk):qV k (l++[b])=qV k l++if qJ b=true then [((k+l.length:Nat):Int)] else []:=by
 induction l generalizing k with
 | nil=>simp[qV]
 | cons q r ih =>
  simp only[List.cons_append,qV,List.length_cons]
  rw[ih (k+1),show k+1+r.length=k+(r.length+1) by omega]
  split<;>simp
theorem zQp {l:List Bk} {j:Nat} (h:j<l.length):qK (l.take (j+1))=qK (l.take j)++if qJ l[j]=true then [(j:Int)] else []:=by
 unfold qK
 rw[List.take_succ_eq_append_getElem h,zGn]
 simp
 split
 . simp;omega
 . rfl
theorem zHe (k:Nat) (l:List Bk):(qV k l).length=l.countP qJ:=by
 induction l generalizing k with
 | nil=>rfl
 | cons b r ih =>
  simp only[qV,List.countP_cons]
  split<;>simp[ih]
theorem zVe (l:List Bk):(qK l).length=l.countP qJ:=zHe 0 l
theorem zGm (l:List Bk):(qK l).length<=l.length:=by rw[zVe];exact List.countP_le_length
theorem bad_take {l:List Bk} {j:Nat} (h:j<l.length):qx (l.take (j+1))=qx (l.take j)+if l[j].bad=true then 1 else 0:=by
 unfold qx
 rw[List.take_succ_eq_append_getElem h,List.countP_append,List.countP_singleton]
theorem zGt (l:List Bk):qx l<=l.length:=List.countP_le_length
def BkC (w:World) (B k:Nat) (b:Bk):Prop :=
 w.cell? ⟨B,k,none⟩=some (.bool b.bad)/\w.cell? ⟨B,k+1,none⟩=some (.int .i64 b.next)/\w.cell? ⟨B,k+2,none⟩=some (.int .i64 b.count)/\∃A n c,w.cell? ⟨B,k+3,none⟩=some (.slice A n c)
theorem BkC.kept {w w':World} {B k:Nat} {b:Bk} (h:BkC w B k b) (hk:w'.heap[B]? = w.heap[B]?):BkC w' B k b:=by
 obtain ⟨h1,h2,h3,A,n,c,h4⟩:=h
 exact ⟨(World.cell?_of_block (a:=⟨B,k,none⟩) hk).trans h1,(World.cell?_of_block (a:=⟨B,k+1,none⟩) hk).trans h2,(World.cell?_of_block (a:=⟨B,k+2,none⟩) hk).trans h3,A,n,c,(World.cell?_of_block (a:=⟨B,k+3,none⟩) hk).trans h4⟩
def BLies (w:World) (A:Option Addr) (l:List Bk):Prop :=
 0<l.length->∃B o,A=some ⟨B,o,none⟩/\B<w.heap.size/\∀j (h:j<l.length),BkC w B (o+j * 4) l[j]
theorem BLies.below {w w':World} {A:Option Addr} {l:List Bk} (h:BLies w A l) (hb:Below w.heap.size w w'):BLies w' A l:=λhn=>by
 obtain ⟨B,o,e,hB,hc⟩:=h hn
 exact ⟨B,o,e,Nat.lt_of_lt_of_le hB hb.size,λj hj=>(hc j hj).kept (hb.block B hB)⟩
end
section
open Go.RowKit
abbrev bcV (b:Bk) (A:Option Addr) (n c:Nat):Value:=.agg #[.bool b.bad,.int .i64 b.next,.int .i64 b.count,.slice A n c]
theorem zOf (b:Bk) (A:Option Addr) (n c:Nat) (w:World):Calls Tryz.prog 108 #[bcV b A n c] w λe w'=>e=.returned (.bool (qJ b))/\Below w.heap.size w w':=by
 obtain ⟨bad,next,count,pages⟩:=b
 cases bad with
 | true =>
  go_enter Tryz.func108,Tryz.ntmps108
  go_wp2_with fail
  go_ret
  exact ⟨rfl,bR.alloc nL _⟩
 | false =>
  go_enter Tryz.func108,Tryz.ntmps108
  go_wp2_with fail
  go_ret
  exact ⟨ret_bool (by simp[qJ]),bR.alloc nL _⟩
theorem zSa (b:Bk) (A:Option Addr) (n c:Nat) (pages:Int) (w:World) (h1:(Lit.int .i64 b.next).wf=true) (h2:(Lit.int .i64 pages).wf=true):Calls Tryz.prog 161 #[bcV b A n c,.int .i64 pages] w λe w'=>e=.returned (.int .i64 (zAc b pages))/\Below w.heap.size w w':=by
 obtain ⟨bad,next,count,pgs⟩:=b
 obtain ⟨k1,k3⟩:=zOu h1
 obtain ⟨k2,k4⟩:=zOu h2
 have k1' : -9223372036854775808<=next:=k1
 have k3':next<=9223372036854775807:=k3
 clear h1 h2 k1 k3
 cases bad with
 | true =>
  go_enter Tryz.func161,Tryz.ntmps161
  go_wp2_with fail
  go_ret
  exact ⟨rfl,bR.alloc nL _⟩
 | false =>
  by_cases c1:pages<=next
  . go_enter Tryz.func161,Tryz.ntmps161
    go_wp2_with fail
    go_ret
    exact ⟨ret_int (by simp only[zAc];rw[if_neg (by decide)];split;rfl;rw[if_neg (by omega)];omega),bR.alloc nL _⟩
  . by_cases c2:next<0
    . by_cases c3:9223372036854775807+next<pages
      . go_enter Tryz.func161,Tryz.ntmps161
        go_wp2_with fail
        go_ret
        exact ⟨ret_int (by simp only[zAc];rw[if_neg (by decide),if_neg (by omega),if_pos (by omega)]),bR.alloc nL _⟩
      . go_enter Tryz.func161,Tryz.ntmps161
        go_wp2_with fail
        go_ret
        exact ⟨ret_int (by simp only[zAc];rw[if_neg (by decide),if_neg (by omega),if_neg (by omega)]),bR.alloc nL _⟩
    . go_enter Tryz.func161,Tryz.ntmps161
      go_wp2_with fail
      go_ret
      exact ⟨ret_int (by simp only[zAc];rw[if_neg (by decide),if_neg (by omega),if_neg (by omega)]),bR.alloc nL _⟩
def zAk {α β : Type} (f : α -> β) (d : β) (l:List α) (j:Nat):List β := (l.take j).map f++List.replicate (l.length - j) d
theorem zOc {α β : Type} (f : α -> β) (d : β) (l:List α):zAk f d l 0=List.replicate l.length d:=by simp[zAk]
theorem zSr {α β : Type} (f : α -> β) (d : β) (l:List α):zAk f d l l.length=l.map f:=by simp[zAk]
theorem zGd {α β : Type} (f : α -> β) (d : β) (l:List α) (j:Nat) (h:j<=l.length):(zAk f d l j).length=l.length:=by simp[zAk];omega
theorem zSq {α β : Type} (f : α -> β) (d : β) (l:List α) (j:Nat) (h:j<l.length):(zAk f d l j).set j (f l[j])=zAk f d l (j+1):=by
 unfold zAk
 rw[List.take_succ_eq_append_getElem h,List.set_append_right _ _ (by rw[List.length_map,List.length_take];omega),show l.length - j=(l.length - (j+1))+1 by omega,List.replicate_succ]
 have e:j - (List.map f (List.take j l)).length=0:=by rw[List.length_map,List.length_take];omega
 rw[e,List.map_append]
 simp
theorem zDs (n:Nat):madeCells #[Value.bool false] n=((List.replicate n false).map Value.bool).toArray:=by
 apply Array.ext
 . simp[madeCells]
 . intro i h1 h2
   simp[madeCells,Nat.mod_one]
theorem zDr (n:Nat) (h:n<=1000000) (w:World):(Instr.makeSlice 39 (.int .i64 n) (.int .i64 n)).run Tryz.prog w=.ok (.slice (some ⟨w.heap.size,0,none⟩) n n) (w.alloc (.cells (madeCells #[Value.bool false] n) 4)) :=
 run_make_row' 39 4 (.bool false) 1 Tryz.underlying39 zZg rfl .i64 .i64 n (by omega) (by omega) w
theorem zEz {w:World} {g:Nat} {l:List Bool} {t:TypeId} (h:w.heap[g]? = some (.cells (l.map Value.bool).toArray t (0,0))) (k:Nat) (v:Bool):(w.setCell ⟨g,k,none⟩ (.bool v)).heap[g]? = some (.cells ((l.set k v).map Value.bool).toArray t (0,0)):=by
 rw[heap_setCell_same w g k _ t _ h]
 simp[List.map_set]
section
variable (A:Option Addr) (c:Nat) (l:List Bk) (w:World) (hl:l.length<=1000) (hA:BLies w A l)
include hl hA
theorem zQw:Calls Tryz.prog 36 #[.slice A l.length c] w λe w'=>e=.returned (.int .i64 (qx l:Int))/\Below w.heap.size w w':=by
 have HA:=hI hA
 clear hA
 go_enter Tryz.func36,Tryz.ntmps36
 go_wp2_with fail
 go_loopw [3,8] (λv3 v8 wr=>∃j:Nat,j<=l.length/\v8=.int .i64 j/\v3=.int .i64 (qx (l.take j):Int)/\Below w.heap.size w wr) (λ_ v8 _=>l.length - (intOf v8).toNat)
 case atStart=>exact ⟨0,Nat.zero_le _,rfl,rfl,bR⟩
 case round =>
  obtain ⟨j,hj,rfl,rfl,hB⟩:=hrel
  have HB:=hI hB
  have hs:=hB.size
  clear hB
  by_cases hj1:j<l.length
  . obtain ⟨B,o,rfl,hBs,hc⟩:=HA.out (by omega)
    obtain ⟨k0,k1,k2,A1,n1,c1,k3⟩:=(hc j hj1).kept (HB.out.block B hBs)
    have HT:=hI (bad_take hj1)
    have hle:=zGt (l.take j)
    have hle2:(l.take j).length<=1000:=by simp;omega
    clear hc
    generalize qx (l.take j)=v at HT hle ⊢
    generalize l[j]=b at k0 k1 k2 HT
    obtain ⟨bad,next,count,pgs⟩:=b
    cases bad with
    | true =>
     go_wp2_with fail
     go_roundw
     case rel=>exact ⟨j+1,by omega,by go_num,by rw[HT.out];go_num,HB.out.alloc HB.out.size _⟩
     case measure=>simp[intOf];omega
    | false =>
     go_wp2_with fail
     go_roundw
     case rel=>exact ⟨j+1,by omega,by go_num,by rw[HT.out];go_num,HB.out.alloc HB.out.size _⟩
     case measure=>simp[intOf];omega
  . obtain rfl:j=l.length:=by omega
    have hz:=hI (show l.take l.length=l from List.take_length)
    go_wp2_with fail
    go_ret
    exact ⟨ret_int (by rw[hz.out]),HB.out⟩
def zRa (xs:List Int) (w:World) (e:Ending) (w':World):Prop :=
 ∃A c,e=.returned (.slice A xs.length c)/\IA w' A xs/\(∀ad,A=some ad->w.heap.size<=ad.block)/\Below w.heap.size w w'
theorem ym:Calls Tryz.prog 75 #[.slice A l.length c] w (zRa (qK l) w):=by
 have HA:=hI hA
 clear hA
 go_enter Tryz.func75,Tryz.ntmps75
 go_wp2_with fail
 go_loopw [3,8] (λv3 v8 wr=>∃j:Nat,j<=l.length/\v8=.int .i64 j/\IOwn wr w.heap.size v3 (qK (l.take j))/\Below w.heap.size w wr) (λ_ v8 _=>l.length - (intOf v8).toNat)
 case atStart=>exact ⟨0,Nat.zero_le _,rfl,iown_nil _ _,bR⟩
 case round =>
  obtain ⟨j,hj,rfl,hO,hB⟩:=hrel
  have HB:=hI hB
  have HO:=hI hO
  have hs:=hB.size
  clear hB hO
  by_cases hj1:j<l.length
  . obtain ⟨B,o,rfl,hBs,hc⟩:=HA.out (by omega)
    obtain ⟨k0,k1,k2,A1,n1,c1,k3⟩:=(hc j hj1).kept (HB.out.block B hBs)
    have HT:=hI (zQp hj1)
    have hle:=zGm (l.take j)
    have hle2:(l.take j).length<=1000:=by simp;omega
    clear hc
    generalize l[j]=b at k0 k1 k2 HT
    have HC:=hI (λw1=>zOf b A1 n1 c1 w1)
    have HW1:=hI ((Below.refl wr.heap.size wr).alloc nL (.cells #[.bool b.bad,.int .i64 b.next,.int .i64 b.count,.slice A1 n1 c1] 101))
    cases hcb:qJ b with
    | true =>
     rw[hcb] at HC HT
     rw[if_pos rfl] at HT
     clear hcb
     generalize qK (l.take j)=xs at *
     obtain ⟨p,cap,rfl,_⟩:=qN HO.out
     go_wp2_with (first
      | (go_at_call 108;refine (HC.out _).mono ?_;rintro e w2 ⟨rfl,hb2⟩;have HB2:=hI (HW1.out.trans (hb2.mono (by simp)));have hs2:=hb2.size;clear hb2)
      | (at_builtin;refine zTk rfl _ _ rfl w.heap.size _ xs [(j:Int)] _ 1 rfl rfl (zAe (zAe HO.out HB2.out) (bR.alloc nL _)) (iown_one _ _) (by simp) (by simp;omega) (by simp at hs2 ⊢;omega) ?_;intro q cap2 w3 h3 hg3))
     go_roundw
     case rel=>exact ⟨j+1,by omega,by go_num,by rw[HT.out];exact h3,zUo (v:=.slice p xs.length cap) (zAe (zAe HO.out HB2.out) (bR.alloc nL _)) ((HB.out.trans (HB2.out.mono HB.out.size)).alloc (by simp at hs2;omega) _) hg3 (by simp at hs2 ⊢;omega)⟩
     case measure=>simp[intOf];omega
    | false =>
     rw[hcb] at HC HT
     rw[if_neg (by decide),List.append_nil] at HT
     clear hcb
     go_wp2_with (go_at_call 108;refine (HC.out _).mono ?_;rintro e w2 ⟨rfl,hb2⟩;have HB2:=hI (HW1.out.trans (hb2.mono (by simp)));clear hb2)
     go_roundw
     case rel=>exact ⟨j+1,by omega,by go_num,by rw[HT.out];exact zAe HO.out HB2.out,HB.out.trans (HB2.out.mono HB.out.size)⟩
     case measure=>simp[intOf];omega
  . obtain rfl:j=l.length:=by omega
    have hz:=hI (show l.take l.length=l from List.take_length)
    rw[hz.out] at HO
    obtain ⟨p,cap,rfl,_⟩:=qN HO.out
    go_wp2_with fail
    go_ret
    exact ⟨p,cap,rfl,HO.out.arr.1,HO.out.arr.2.2,HB.out⟩
theorem zEa:Calls Tryz.prog 78 #[.slice A l.length c] w (zRa (l.map (λb:Bk=>b.count)) w):=by
 have HA:=hI hA
 clear hA
 have hmk:=λw1:World=>zYs l.length (by omega) w1
 have HX0:=hI (heap_alloc_new w (.cells (madeCells #[Value.int .i64 0] l.length) 3))
 have HB0:=hI ((Below.refl w.heap.size w).alloc nL (.cells (madeCells #[Value.int .i64 0] l.length) 3))
 have HE:=hI (zYt l.length)
 go_enter Tryz.func78,Tryz.ntmps78
 go_wp2_with fail
 rw[HE.out] at HX0 HB0 ⊢
 obtain ⟨G,hG⟩:∃G,G=w.heap.size:=⟨_,rfl⟩
 have HG:=hI hG
 rw[<- hG] at HX0 ⊢
 generalize w.alloc (.cells _ 3)=w1 at HX0 HB0 ⊢
 clear hmk hG
 go_loopw [4,11] (λ_ v11 wr=>∃j:Nat,j<=l.length/\v11=.int .i64 j/\wr.heap[G]? = some (.cells ((zAk (λb:Bk=>b.count) (0:Int) l j).map (Value.int .i64)).toArray 3 (0,0))/\Below w.heap.size w wr) (λ_ v11 _=>l.length - (intOf v11).toNat)
 case atStart=>exact ⟨0,Nat.zero_le _,rfl,by rw[zOc];exact HX0.out,HB0.out⟩
 case round =>
  obtain ⟨j,hj,rfl,hx,hB⟩:=hrel
  have HX:=hI hx
  have HB:=hI hB
  have hs:=hB.size
  have hGs:=(Array.getElem?_eq_some_iff.1 hx).1
  clear hx hB
  by_cases hj1:j<l.length
  . obtain ⟨B,o,rfl,hBs,hc⟩:=HA.out (by omega)
    obtain ⟨k0,k1,k2,A1,n1,c1,k3⟩:=(hc j hj1).kept (HB.out.block B hBs)
    have hjf:j<(zAk (λb:Bk=>b.count) (0:Int) l j).length:=by rw[zGd _ _ _ _ hj];exact hj1
    have HW1:=λcs:Array Value=>hI ((Below.refl wr.heap.size wr).alloc nL (.cells cs 101))
    clear hc
    have HN:=hI (zSq (λb:Bk=>b.count) (0:Int) l j hj1)
    generalize l[j]=b at k0 k1 k2 HN
    have hx2:(wr.alloc (.cells #[.bool b.bad,.int .i64 b.next,.int .i64 b.count,.slice A1 n1 c1] 101)).heap[G]? = some (.cells ((zAk (λb:Bk=>b.count) (0:Int) l j).map (Value.int .i64)).toArray 3 (0,0)):=(qF _ _ hGs).trans HX.out
    have q0:=zRf hx2 j hjf
    have q1:=yq hx2 j
    have HXN:=hI (row_set HX.out j (((λb:Bk=>b.count):Bk->_) b))
    rw[HN.out] at HXN
    clear hx2
    generalize (zAk (λb:Bk=>b.count) (0:Int) l j)[j]=old at q0
    go_wp2_with fail
    go_roundw
    case rel=>exact ⟨j+1,by omega,by go_num,(qF _ _ (by simpa using hGs)).trans HXN.out,(HB.out.setCell (p:=⟨G,j,none⟩) (by rw[HG.out];exact Nat.le_refl _) _).alloc (by simp;omega) _⟩
    case measure=>simp[intOf];omega
  . obtain rfl:j=l.length:=by omega
    have HZ:=hI (zSr (λb:Bk=>b.count) (0:Int) l)
    go_wp2_with fail
    go_ret
    refine ⟨some ⟨G,0,none⟩,l.length,?_,?_,λad e=>?_,HB.out⟩
    . rw[List.length_map];rfl
    . rw[<- HZ.out];exact zWz HX.out
    . cases e;rw[HG.out];exact Nat.le_refl _
end
end
end Go.Proofs.YtinkkmlbhkfmnaaGreat
