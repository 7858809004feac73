/- A part of what the last text proves: PoL1, PoL2, PoL3. -/
import Derived.Test.YtinkkmlbhkfmnaaGreatQMc
import Derived.Test.YtinkkmlbhkfmnaaGreatQPi
set_option maxRecDepth 100000
set_option maxHeartbeats 8000000
namespace Go.Proofs.YtinkkmlbhkfmnaaGreat
section
open Go.RowKit
attribute [local go_sem] Oper.semAt_some
abbrev set3 (V:World) (r:Nat) (a b c:Value):World:=((V.setCell ⟨r,0,none⟩ a).setCell ⟨r,1,none⟩ b).setCell ⟨r,2,none⟩ c
theorem yr {W:World} {g:Nat} {x y z:Value} {t:TypeId} (h:W.heap[g]? = some (.cells #[x,y,z] t (0,0))) (a b c:Value):(set3 W g a b c).heap[g]? = some (.cells #[a,b,c] t (0,0)):=by
 unfold set3
 rw[heap_setCell_same _ _ 2 _ _ _ (heap_setCell_same _ _ 1 _ _ _ (heap_setCell_same _ _ 0 _ _ _ h))];simp
theorem qT {w:World} {p:Nat} {a b c:Value} {t:TypeId} (hh:w.heap[p]? = some (.cells #[a,b,c] t (0,0))):w.cell? ⟨p,0,none⟩=some a/\w.cell? ⟨p,1,none⟩=some b/\w.cell? ⟨p,2,none⟩=some c/\w.frozen? ⟨p,0,none⟩=false/\w.frozen? ⟨p,1,none⟩=false/\w.frozen? ⟨p,2,none⟩=false:=by
 simp[World.cell?,World.frozen?,hh]
theorem vD {W:World} {g:Nat} {x y z:Value} {t:TypeId} (h:W.heap[g]? = some (.cells #[x,y,z] t (0,0))) (a b c:Value):(W.setCell ⟨g,0,none⟩ a).cell? ⟨g,0,none⟩=some a/\((W.setCell ⟨g,0,none⟩ a).setCell ⟨g,1,none⟩ b).cell? ⟨g,1,none⟩=some b/\(set3 W g a b c).cell? ⟨g,2,none⟩=some c:=by
 have h0:=heap_setCell_same W g 0 _ _ a h
 have h1:=heap_setCell_same _ g 1 _ _ b h0
 have h2:=heap_setCell_same _ g 2 _ _ c h1
 refine ⟨?_,?_,?_⟩
 . simp[World.cell?,h0]
 . simp[World.cell?,h1]
 . simp[World.cell?,h2]
def vs (B f:Int):Int:=2 * (B+4) * (f+1)
theorem zMo {B P f:Int} (hB:3<=B/\B<=64) (hP:2<=P/\P<=32) (hf:0<=f/\f<=7):(0<=vs B f/\vs B f<=1088)/\0<=vs B f * P/\vs B f * P<=34816:=by
 have h1:0<=vs B f/\vs B f<=1088:=by
  unfold vs
  obtain rfl | rfl | rfl | rfl | rfl | rfl | rfl | rfl:f=0\/f=1\/f=2\/f=3\/f=4\/f=5\/f=6\/f=7:=by omega
  all_goals omega
 refine ⟨h1,Int.mul_nonneg h1.1 (by omega),?_⟩
 have:=Int.mul_le_mul (a:=vs B f) (b:=P) (c:=1088) (d:=32) h1.2 hP.2 (by omega) (by omega)
 omega
theorem zXr (B P Sp K U f:Int) (w:World) (hm:zEm B P Sp K U) (hf:0<=f/\f<=7) :
 Calls Tryz.prog 74 #[.agg #[.int .i64 B,.int .i64 P,.int .i64 Sp,.int .i64 K,.int .i64 U],.int .i64 1,.int .i64 f] w λe w'=>e=.returned (.agg #[.int .i64 (vs B f * P),.int .i64 (vs B f * P),.int .i64 (vs B f)])/\Below w.heap.size w w':=by
 have hbo:=zMo hm.1 hm.2.1 hf
 obtain ⟨N,hN⟩:∃N,N=vs B f:=⟨_,rfl⟩
 rw[<- hN] at hbo ⊢
 obtain ⟨M,hM⟩:∃M,M=N * P:=⟨_,rfl⟩
 rw[<- hM] at hbo ⊢
 have HM:=hI hm
 have hB:=hm.1
 have e1:IntKind.i64.wrap (B+4)=B+4:=by rw[IntKind.wrap_i64];omega
 have e2:IntKind.i64.wrap (2 * (B+4))=2 * (B+4):=by rw[IntKind.wrap_i64];omega
 have e3:IntKind.i64.wrap (f+1)=f+1:=by rw[IntKind.wrap_i64];omega
 have e4:IntKind.i64.wrap (2 * (B+4) * (f+1))=N:=by
  rw[show 2 * (B+4) * (f+1)=N from hN.symm,IntKind.wrap_i64];omega
 have e5:IntKind.i64.wrap (N * P)=M:=by rw[<- hM,IntKind.wrap_i64];omega
 have W2:=hI (show (w.alloc (.cells #[.int .i64 B,.int .i64 P,.int .i64 Sp,.int .i64 K,.int .i64 U] 23)).heap.size=w.heap.size+1 by simp)
 have hb0:=((Below.refl w.heap.size w).alloc nL (.cells #[.int .i64 B,.int .i64 P,.int .i64 Sp,.int .i64 K,.int .i64 U] 23)).alloc (by simp) (.cells #[.int .i64 0,.int .i64 0,.int .i64 0] 85)
 obtain ⟨V,hV⟩:∃V,V=(w.alloc (.cells #[.int .i64 B,.int .i64 P,.int .i64 Sp,.int .i64 K,.int .i64 U] 23)).alloc (.cells #[.int .i64 0,.int .i64 0,.int .i64 0] 85):=⟨_,rfl⟩
 have hs:V.heap.size=w.heap.size+1+1:=by rw[hV];simp
 have hc1:V.heap[w.heap.size]? = some (.cells #[.int .i64 B,.int .i64 P,.int .i64 Sp,.int .i64 K,.int .i64 U] 23 (0,0)):=by
  rw[hV];exact (qF _ _ (by simp)).trans (heap_alloc_new _ _)
 have hc2:V.heap[w.heap.size+1]? = some (.cells #[.int .i64 0,.int .i64 0,.int .i64 0] 85 (0,0)):=by
  rw[hV]
  have:=heap_alloc_new (w.alloc (.cells #[.int .i64 B,.int .i64 P,.int .i64 Sp,.int .i64 K,.int .i64 U] 23)) (.cells #[.int .i64 0,.int .i64 0,.int .i64 0] 85)
  simpa using this
 have HB0:Hid (Below w.heap.size w V):=hI (by rw[hV];exact hb0)
 have HC:=hI (And.intro hs (And.intro hc1 hc2))
 have HV:=hI hV
 obtain ⟨_,_,_,_,_⟩:=qe hc1
 clear hm hb0 hV hs hc1 hc2 hN hM
 go_enter Tryz.func74,Tryz.ntmps74
 go_upto_region 1 with fail
 rw[<- HV.out]
 go_wp2_with (first
  | (go_at_call 38;(with_reducible refine (vT B P Sp K U _).mono ?_);rintro e w1 ⟨rfl,hb⟩;rw[decide_eq_true HM.out];have HB1:Hid (Below w.heap.size w w1):=hI (HB0.out.trans (hb.mono HB0.out.size));obtain ⟨_,_,_,_,_⟩:=qe ((hb.block w.heap.size (by have:=HC.out.1;omega)).trans HC.out.2.1);have hr:=(hb.block (w.heap.size+1) (by have:=HC.out.1;omega)).trans HC.out.2.2;have HR:=hI hr;obtain ⟨_,_,_,_,_,_⟩:=qT hr;obtain ⟨_,_,_⟩:=vD hr (.int .i64 M) (.int .i64 M) (.int .i64 N);clear hb hr)
  | fail)
 skip
 obtain ⟨m0,m1,m2,-⟩:=qT (yr HR.out (.int .i64 M) (.int .i64 M) (.int .i64 N))
 refine bodyPost_ret (by simp[results,Tryz.results74,go_sem,m0,m1,m2];try rfl) rfl ?_
 exact ⟨rfl,((HB1.out.setCell (Nat.le_succ _) _).setCell (Nat.le_succ _) _).setCell (Nat.le_succ _) _⟩
end
section
open Go.RowKit
structure Pg where
 r:P2
 d:List UInt8
 A:Option Addr
 c:Nat
def GLies (w:World) (A:Option Addr) (l:List Pg):Prop :=
 0<l.length->∃B o,A=some ⟨B,o,none⟩/\B<w.heap.size/\∀j (h:j<l.length),
  w.cell? ⟨B,o+j * 3,none⟩=some (.int .i64 l[j].r.1)/\w.cell? ⟨B,o+j * 3+1,none⟩=some (.int .i64 l[j].r.2)/\w.cell? ⟨B,o+j * 3+2,none⟩=some (.slice l[j].A l[j].d.length l[j].c)
theorem GLies.below {w w':World} {A:Option Addr} {l:List Pg} (h:GLies w A l) (hb:Below w.heap.size w w'):GLies w' A l:=λhn=>by
 obtain ⟨B,o,e,hB,hc⟩:=h hn
 exact ⟨B,o,e,Nat.lt_of_lt_of_le hB hb.size,λj hj=>⟨(hb.cell (p:=⟨B,o+j * 3,none⟩) hB).trans (hc j hj).1,(hb.cell (p:=⟨B,o+j * 3+1,none⟩) hB).trans (hc j hj).2.1,(hb.cell (p:=⟨B,o+j * 3+2,none⟩) hB).trans (hc j hj).2.2⟩⟩
def genc (f:Pg):List Value:=[.int .i64 f.r.1,.int .i64 f.r.2,.slice f.A f.d.length f.c]
def vm (l:List Pg):List Value:=l.flatMap genc
theorem zBy (f:Pg) (l:List Pg):vm (f::l)=genc f++vm l:=rfl
theorem zDv (l m:List Pg):vm (l++m)=vm l++vm m:=by simp[vm]
theorem zBd (l:List Pg):(vm l).length=l.length * 3:=by
 induction l with
 | nil=>rfl
 | cons f l ih=>rw[zBy,List.length_append,ih,List.length_cons];simp[genc];omega
theorem zFz:∀(l:List Pg) (j:Nat) (h:j<l.length) (r:Nat),r<3->(vm l)[j * 3+r]? = (genc l[j])[r]?
 | [],_,h,_,_=>by cases h
 | f::l,0,_,r,hr=>by
  rw[zBy,List.getElem?_append_left (by simp[genc];omega)]
  simp
 | f::l,j+1,h,r,hr=>by
  rw[zBy,List.getElem?_append_right (by simp[genc];omega)]
  have e:(j+1) * 3+r - (genc f).length=j * 3+r:=by simp[genc];omega
  rw[e,zFz l j (by simpa using h) r hr]
  rfl
theorem zDu {l:List Pg} {u:Value} (h:u∈vm l):u.oneCell'=true:=by
 obtain ⟨f,_,hu⟩:=List.mem_flatMap.1 h
 simp[genc] at hu
 rcases hu with rfl | rfl | rfl<;>rfl
theorem GLies.cells {w:World} {A:Option Addr} {l:List Pg} (h:GLies w A l) {ad:Addr} (e:A=some ad):∀(k:Nat) (u:Value),(vm l)[k]? = some u->w.cell? (ad.add k)=some u:=λk u hu=>by
 have hk:k<l.length * 3:=by
  rcases Nat.lt_or_ge k (l.length * 3) with h' | h'
  . exact h'
  . rw[List.getElem?_eq_none (by rw[zBd];exact h')] at hu;cases hu
 obtain ⟨B,o,e2,_,hc⟩:=h (by omega)
 obtain rfl:ad=⟨B,o,none⟩:=by rw[e] at e2;exact Option.some.inj e2
 have ea:(⟨B,o,none⟩:Addr).add k=⟨B,o+k,none⟩:=by
  unfold Addr.add
  split
  . next e=>subst e;rfl
  . rfl
 have hj:k / 3<l.length:=by omega
 have hr:k % 3<3:=Nat.mod_lt _ (by omega)
 have hkk:k=k / 3 * 3+k % 3:=by omega
 obtain ⟨c0,c1,c2⟩:=hc (k / 3) hj
 have hf:=zFz l (k / 3) hj (k % 3) hr
 rw[<- hkk,hu] at hf
 rw[ea,show o+k=o+k / 3 * 3+k % 3 by omega]
 generalize k / 3=j at *
 generalize k % 3=r at *
 rcases (by omega:r=0\/r=1\/r=2) with rfl | rfl | rfl
 . rw[Nat.add_zero,c0,hf];rfl
 . rw[c1,hf];rfl
 . rw[c2,hf];rfl
def GOwn (w:World) (base:Nat) (v:Value) (l:List Pg):Prop:=w.ownsRow base 36 3 v l.length (vm l)
theorem zEv (W:World) (B:Nat):GOwn W B (.slice none 0 0) []:=World.ownsRow_nil _ _ _ _
theorem yS {W W':World} {B:Nat} {v:Value} {l:List Pg} (h:GOwn W B v l) (hb:Below W.heap.size W W'):GOwn W' B v l:=vS h λk e=>hb.block k (World.ownsRow.lt h k e).2
theorem yn {w0 w w':World} {n:Nat} {v:Value} {xs:List Pg} (h:GOwn w n v xs) (hb:Below n w0 w) (hg:w.grownBy w' v.ownBlock) (hn:n<=w.heap.size):Below n w0 w' :=
 hb.grown hg hn λk e=>(World.ownsRow.lt h k e).1
theorem GOwn.lies {w:World} {base c:Nat} {q:Option Addr} {l:List Pg} {n:Nat} (h:GOwn w base (.slice q n c) l):GLies w q l/\n=l.length/\(∀ad,q=some ad->base<=ad.block)/\n<=c:=by
 rcases h.2 with ⟨e,e2⟩ | ⟨g,cap,cur,e,hb,hg,hc,_,_,ht⟩
 . simp at e
   obtain ⟨rfl,rfl,rfl⟩:=e
   exact ⟨λhn=>by omega,by omega,λad e=>(by cases e),Nat.le_refl _⟩
 . simp at e
   obtain ⟨rfl,rfl,rfl⟩:=e
   refine ⟨λhn=>⟨g,0,rfl,qD hg,λj hj=>?_⟩,rfl,λad e=>(by cases e;exact hb),hc⟩
   have key:∀r,r<3->w.cell? ⟨g,0+j * 3+r,none⟩=(genc l[j])[r]? := λr hr=>by
    have hf:=zFz l j hj r hr
    rw[<- ht,List.getElem?_take_of_lt (by omega)] at hf
    rw[<- hf,Nat.zero_add]
    simp[World.cell?,hg]
   exact ⟨key 0 (by omega),key 1 (by omega),key 2 (by omega)⟩
theorem zZe:(Tryz.prog.info? 36).map (λi=>(i.zero,i.size,i.bytes))=some (some (.agg #[.int .i64 0,.int .i64 0,.slice none 0 0]),3,40):=by kernel_rfl
theorem zDo:∃i,Tryz.prog.info? 36=some i/\i.zero=some (.agg #[.int .i64 0,.int .i64 0,.slice none 0 0])/\i.size=3/\i.bytes=40:=by
 have h:=zZe
 cases e:Tryz.prog.info? 36 with
 | none=>rw[e] at h;cases h
 | some i =>
  rw[e] at h
  simp only[Option.map_some,Option.some.injEq,Prod.mk.injEq] at h
  exact ⟨i,rfl,h.1,h.2.1,h.2.2⟩
theorem run_gapp {w:World} {base:Nat} {v:Value} {xs l:List Pg} {A:Option Addr} {c:Nat} (ty:TypeId) (hown:GOwn w base v xs) (hl:GLies w A l) (hA:A=none->l = []/\c=0) (h63:xs.length+l.length<=1000000) (hbase:base<=w.heap.size) :
 ∃q cap w',(Builtin.append_ #[31,31] ty #[v,.slice A l.length c]).run Tryz.prog w=.ok (.slice q (xs.length+l.length) cap) w'/\GOwn w' base (.slice q (xs.length+l.length) cap) (xs++l)/\w.grownBy w' v.ownBlock:=by
 obtain ⟨i,hi,hz,hs,hb⟩:=zDo
 cases A with
 | some ad =>
  obtain ⟨v',w',hr,h2,h3,_⟩:=run_append_own (P:=Tryz.prog) (w:=w) base 31 ty 36 i _ 3 40 Tryz.underlying31 hi hz hs hb rfl (by omega) v xs.length (vm xs) hown ad l.length c (vm l) (zBd l) (hl.cells rfl) (λu hu=>zDu hu) (by unfold maxLen;omega) (by omega) hbase
  obtain ⟨q,cap,rfl,_⟩:=qN h2
  exact ⟨q,cap,w',hr,by unfold GOwn;rw[List.length_append,zDv];exact h2,h3⟩
 | none =>
  obtain ⟨rfl,rfl⟩:=hA rfl
  have hr:=run_append_owned_none (P:=Tryz.prog) (w:=w) base 31 ty 36 i 3 Tryz.underlying31 hi v xs.length (vm xs) hown
  obtain ⟨q,cap,rfl,_⟩:=qN hown
  exact ⟨q,cap,w,hr,by simpa using hown,⟨rfl,rfl,rfl,Nat.le_refl _,λ_ _ _=>rfl⟩⟩
theorem zMx {w:World} {o:Oper} {a:Act} {K:Act->World->Prop} {Q:Exit->Act->World->Prop} (s x:Operand) (ho:o.op=.call { callee:=.builtin .append,args:=#[s,x],argTypes:=#[31,31] })
 {base:Nat} {v:Value} {xs l:List Pg} {A:Option Addr} {c:Nat} (hs:a.eval s=v) (hx:a.eval x=.slice A l.length c) (hown:GOwn w base v xs) (hl:GLies w A l) (hA:A=none->l = []/\c=0) (h63:xs.length+l.length<=1000000) (hbase:base<=w.heap.size)
 (h:∀q cap w',GOwn w' base (.slice q (xs.length+l.length) cap) (xs++l)->w.grownBy w' v.ownBlock->K (a.put o.dst (.slice q (xs.length+l.length) cap)) w'):Oper.wp Tryz.prog o a w K Q:=by
 obtain ⟨q,cap,w',hr,h2,h3⟩:=run_gapp o.type hown hl hA h63 hbase
 unfold Oper.wp execOp
 simp only[ho,resolve,invoke,builtin,Sem.run_bind,Sem.run_pure,Result.andThen_ok,List.map_toArray,List.map_cons,List.map_nil,hs,hx,hr]
 exact h q cap w' h2 h3
theorem zBq {w:World} {ops:Array Oper} {rest:List Oper} {o:Oper} {a:Act} {Q:Exit->Act->World->Prop} (hgd:o.guard=none) (s x:Operand) (ho:o.op=.call { callee:=.builtin .append,args:=#[s,x],argTypes:=#[31,31] })
 (base:Nat) (v:Value) (xs l:List Pg) (A:Option Addr) (c:Nat) (hs:a.eval s=v) (hx:a.eval x=.slice A l.length c) (hown:GOwn w base v xs) (hl:GLies w A l) (hA:A=none->l = []/\c=0) (h63:xs.length+l.length<=1000000) (hbase:base<=w.heap.size)
 (h:∀q cap w',GOwn w' base (.slice q (xs.length+l.length) cap) (xs++l)->w.grownBy w' v.ownBlock->wpList Tryz.prog ops Q rest (a.put o.dst (.slice q (xs.length+l.length) cap)) w'):wpList Tryz.prog ops Q (o::rest) a w :=
 wpList_plain hgd λ_ hK=>zMx s x ho hs hx hown hl hA h63 hbase λq cap w' h2 h3=>hK _ _ (h q cap w' h2 h3)
theorem zBx (w:World) (f:Pg) {k:Nat} (h:k=w.heap.size):GLies (w.alloc (.cells #[.int .i64 f.r.1,.int .i64 f.r.2,.slice f.A f.d.length f.c] 36)) (some ⟨k,0,none⟩) [f]:=by
 subst h
 intro _
 have hn:=heap_alloc_new w (.cells #[.int .i64 f.r.1,.int .i64 f.r.2,.slice f.A f.d.length f.c] 36)
 refine ⟨_,0,rfl,qD hn,λj hj=>?_⟩
 obtain rfl:j=0:=by simpa using hj
 generalize w.alloc _=W at hn ⊢
 simp[World.cell?,hn]
end
section
open Go.RowKit
attribute [local go_sem] Oper.semAt_some
structure Cf where
 B:Int
 P:Int
 Sp:Int
 K:Int
 U:Int
 bad:Int
def PS.cf (Q:PS):Cf:=⟨Q.B,Q.P,Q.Sp,Q.K,Q.U,Q.bad⟩
def vX (c p:Nat) (g:Cf) (vl vf:Value):Array Value :=
 #[.pointer (some ⟨c,0,none⟩),.pointer (some ⟨p,0,none⟩),.int .i64 g.B,.int .i64 g.P,.int .i64 g.Sp,.int .i64 g.K,.int .i64 g.U,.int .i64 g.bad,vl,vf,.int .i64 0,.int .i64 0,.slice none 0 0,.int .i64 0]
def vW (x:Nat->Prop) (s:Nat) (Af:Option Addr) (b:Nat):Prop:=x b/\b≠s/\∀ad,Af=some ad->b≠ad.block
structure StAt (w:World) (s p c:Nat) (x:Nat->Prop) (g:Cf) (Q:PS) (lv fr:List Pg) (Al:Option Addr) (cl:Nat) (Af:Option Addr) (cf:Nat):Prop where
 pool:Pool w p c x Q
 hx:x s
 self:w.heap[s]? = some (.cells (vX c p g (.slice Al lv.length cl) (.slice Af fr.length cf)) 38 (0,0))
 cfg:Q.cf=g
 live:GLies w Al lv
 lives:∀ad,Al=some ad->vW x s Af ad.block
 lnone:Al=none->lv = []/\cl=0
 fresh:GOwn w 0 (.slice Af fr.length cf) fr
 freshs:∀ad,Af=some ad->x ad.block/\ad.block≠s
 data:∀q∈lv++fr,CB w (vW x s Af) q.A q.d/\q.d.length<=2000
section
variable {w w':World} {s p c:Nat} {x k:Nat->Prop} {g:Cf} {Q Q':PS} {lv fr:List Pg} {Al Af:Option Addr} {cl cf:Nat}
theorem StAt.lt (h:StAt w s p c x g Q lv fr Al cl Af cf):s<w.heap.size:=h.pool.there s h.hx
theorem StAt.fnone (h:StAt w s p c x g Q lv fr Al cl Af cf):Af=none->fr = []/\cf=0:=λe=>by
 subst e
 rcases h.fresh.2 with ⟨e,e2⟩ | ⟨g',cap,cur,e,_⟩
 . simp at e
   exact e
 . simp at e
theorem StAt.safe (h:StAt w s p c x g Q lv fr Al cl Af cf) {y:Nat->Prop} (hs:Safe x w w') (hp:Pool w' p c y Q') (hy:∀b,x b->y b) (hc:Q'.cf=g):StAt w' s p c y g Q' lv fr Al cl Af cf where
 pool:=hp
 hx:=hy _ h.hx
 self:=(hs.block h.lt h.hx).trans h.self
 cfg:=hc
 live:=λhn=>by
  obtain ⟨B,o,e,hB,hcell⟩:=h.live hn
  have hk:=hs.block hB (h.lives _ e).1
  exact ⟨B,o,e,Nat.lt_of_lt_of_le hB hs.size,λj hj=>⟨(World.cell?_of_block (a:=⟨B,o+j * 3,none⟩) hk).trans (hcell j hj).1,(World.cell?_of_block (a:=⟨B,o+j * 3+1,none⟩) hk).trans (hcell j hj).2.1,(World.cell?_of_block (a:=⟨B,o+j * 3+2,none⟩) hk).trans (hcell j hj).2.2⟩⟩
 lives:=λad e=>⟨hy _ (h.lives ad e).1,(h.lives ad e).2⟩
 lnone:=h.lnone
 fresh:=vS h.fresh λk e=>by
  have hl:=World.ownsRow.lt h.fresh k e
  refine hs.block hl.2 ?_
  cases Af with
  | none =>
   have e':(none:Option Nat)=some k:=e
   cases e'
  | some ad =>
   have e':some ad.block=some k:=e
   rw[<- Option.some.inj e'];exact (h.freshs ad rfl).1
 freshs:=λad e=>⟨hy _ (h.freshs ad e).1,(h.freshs ad e).2⟩
 data:=λq hq=>⟨(h.data q hq).1.keep (λb hb=>hs.block (h.pool.there b hb.1) hb.1) λb hb=>⟨hy _ hb.1,hb.2⟩,(h.data q hq).2⟩
theorem StAt.below (h:StAt w s p c x g Q lv fr Al cl Af cf) (hb:Below w.heap.size w w'):StAt w' s p c (λb=>x b\/New w w' b) g Q lv fr Al cl Af cf :=
 h.safe (qC hb) (h.pool.more hb) (λ_ k=>.inl k) h.cfg
theorem StAt.cells (h:StAt w s p c x g Q lv fr Al cl Af cf):w.cell? ⟨s,0,none⟩=some (.pointer (some ⟨c,0,none⟩))/\w.cell? ⟨s,1,none⟩=some (.pointer (some ⟨p,0,none⟩))/\w.cell? ⟨s,2,none⟩=some (.int .i64 g.B)/\w.cell? ⟨s,3,none⟩=some (.int .i64 g.P)/\w.cell? ⟨s,4,none⟩=some (.int .i64 g.Sp)/\w.cell? ⟨s,5,none⟩=some (.int .i64 g.K)/\w.cell? ⟨s,6,none⟩=some (.int .i64 g.U)/\w.cell? ⟨s,7,none⟩=some (.int .i64 g.bad)/\w.cell? ⟨s,8,none⟩=some (.slice Al lv.length cl)/\w.cell? ⟨s,9,none⟩=some (.slice Af fr.length cf)/\w.cell? ⟨s,13,none⟩=some (.int .i64 0):=by
 have:=h.self
 unfold vX at this
 simp[World.cell?,this]
theorem zYv (A:Option Addr) (m:Nat) (l0:List Pg) (w:World) (hl:GLies w A l0) (hlen:l0.length<=1000):Calls Tryz.prog 41 #[.slice A l0.length m] w λe w'=>∃A' m',e=.returned (.slice A' (l0.map (·.r)).length m')/\RLies w' A' (l0.map (·.r))/\(∀ad,A'=some ad->w.heap.size<=ad.block/\ad.block<w'.heap.size)/\Below w.heap.size w w':=by
 obtain ⟨i0,hi0,hz0,hs0,hby0⟩:=info_parts zSd
 have HL:=hI hl
 clear hl
 go_enter Tryz.func41,Tryz.ntmps41
 go_wp2_with fail
 go_loopw [3,8] (λv3 v8 wr=>∃j:Nat,j<=l0.length/\v8=.int .i64 j/\ROwn wr w.heap.size v3 ((l0.take j).map (·.r))/\Below w.heap.size w wr) (λ_ v8 _=>l0.length - (intOf v8).toNat)
 case atStart=>exact ⟨0,Nat.zero_le _,rfl,.nil _ _,bR⟩
 case round =>
  obtain ⟨j,hj,rfl,hO,hB⟩:=hrel
  have HB:=hI hB
  have HO:=hI hO
  have hs:=hB.size
  clear hB hO
  by_cases hj1:j<l0.length
  . obtain ⟨B,o,rfl,hBs,hc⟩:=(HL.out.below HB.out) (by omega)
    obtain ⟨k0,k1,k2⟩:=hc j hj1
    have HTK:Hid ((l0.take (j+1)).map (·.r)=(l0.take j).map (·.r)++[l0[j].r]):=hI (by rw[List.take_succ_eq_append_getElem hj1,List.map_append];rfl)
    have hjl:((l0.take j).map (·.r)).length=j:=by simp;omega
    clear hc
    generalize l0[j]=fd at k0 k1 k2 HTK
    obtain ⟨xs,hxs⟩:∃xs,xs=(l0.take j).map (·.r):=⟨_,rfl⟩
    rw[<- hxs] at HO HTK hjl
    have hown:=HO.out
    unfold ROwn at hown
    rw[hjl] at hown
    obtain ⟨V,mv,rfl,_⟩:=qN hown
    have HOW:=hI hown
    have HJL:=hI hjl
    clear hown hjl hxs
    obtain ⟨W2,hW2⟩:∃W2,wr.alloc (.cells #[.int .i64 fd.r.1,.int .i64 fd.r.2,.slice fd.A fd.d.length fd.c] 36)=W2:=⟨_,rfl⟩
    have HB2:Hid (Below wr.heap.size wr W2):=hI (by rw[<- hW2];exact bR.alloc nL _)
    have HG2:Hid (W2.heap[wr.heap.size]? = some (.cells #[.int .i64 fd.r.1,.int .i64 fd.r.2,.slice fd.A fd.d.length fd.c] 36 (0,0))):=hI (by rw[<- hW2];exact heap_alloc_new _ _)
    obtain ⟨b0,b1,b2,-⟩:=qT HG2.out
    obtain ⟨W3,hW3⟩:∃W3,W2.alloc (.cells #[.int .i64 fd.r.1,.int .i64 fd.r.2] 33)=W3:=⟨_,rfl⟩
    have HB3:Hid (Below wr.heap.size wr W3):=hI (by rw[<- hW3];exact HB2.out.alloc HB2.out.size _)
    have HG3:Hid (W3.heap[W2.heap.size]? = some (.cells #[.int .i64 fd.r.1,.int .i64 fd.r.2] 33 (0,0))):=hI (by rw[<- hW3];exact heap_alloc_new _ _)
    have HOW3:Hid (W3.ownsRow w.heap.size 33 2 (.slice V j mv) j (yP xs)):=hI (vS HOW.out λk e=>HB3.out.block k (World.ownsRow.lt HOW.out k e).2)
    have hs3:w.heap.size<=W3.heap.size:=Nat.le_trans hs HB3.out.size
    go_wp2_with (at_builtin;refine yC rfl _ _ _ rfl w.heap.size 33 i0 _ 2 16 Tryz.underlying64 hi0 hz0 hs0 hby0 rfl (by decide) (.slice V j mv) j (yP xs) rfl HOW3.out ⟨W2.heap.size,0,none⟩ 1 1 [.int .i64 fd.r.1,.int .i64 fd.r.2] rfl rfl (λk u hu=>by match k,hu with | 0,hu=>(simp at hu;subst hu;simp[World.cell?,HG3.out,Addr.add]) | 1,hu=>(simp at hu;subst hu;simp[World.cell?,HG3.out,Addr.add]) | n+2,hu=>simp at hu) (λu hu=>by simp at hu;rcases hu with rfl | rfl<;>rfl) (by unfold maxLen;omega) (by omega) hs3 ?_;intro q3 cap3 w4 hown4 hg4 hob4)
    have HO4:Hid (ROwn w4 w.heap.size (.slice q3 (j+1) cap3) (xs++[fd.r])):=hI (by unfold ROwn;rw[zFq,List.length_append,HJL.out];exact hown4)
    have HB4:Hid (Below w.heap.size w w4):=hI ((HB.out.trans (HB3.out.mono hs)).grown hg4 hs3 λk e=>(World.ownsRow.lt HOW3.out k e).1)
    clear hown4 hg4 hob4 hW2 hW3
    go_roundw
    case rel=>exact ⟨j+1,by omega,by go_num,by rw[HTK.out];exact HO4.out,HB4.out⟩
    case measure=>simp[intOf];omega
  . obtain rfl:j=l0.length:=by omega
    have hz:(l0.take l0.length)=l0:=List.take_length
    rw[hz] at HO
    obtain ⟨V,mv,hv,_⟩:=qN HO.out
    rw[hv] at HO ⊢
    clear hz hv
    go_wp2_with fail
    go_ret
    exact ⟨V,mv,rfl,HO.out.lies.1,HO.out.lies.2,HB.out⟩
end
end
end Go.Proofs.YtinkkmlbhkfmnaaGreat
