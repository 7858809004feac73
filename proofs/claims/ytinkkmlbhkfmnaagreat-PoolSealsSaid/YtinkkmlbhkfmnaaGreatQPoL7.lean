/- A part of what the last text proves: PoL7. -/
import Derived.Test.YtinkkmlbhkfmnaaGreatQLc
import Derived.Test.YtinkkmlbhkfmnaaGreatQGr
set_option maxRecDepth 100000
set_option maxHeartbeats 40000000
namespace Go.Proofs.YtinkkmlbhkfmnaaGreat
open Go.RowKit
attribute [local go_sem] Oper.semAt_some
theorem zFg {P:Program} {w:World} {ops:Array Oper} {o:Oper} {a:Act} {K:Act->World->Prop} {Q:Exit->Act->World->Prop} {E:Prop} (hgd:o.guard=none) (s x:Operand) (t:TypeId)
 (ho:o.op=.call { callee:=.builtin .append,args:=#[s,x],argTypes:=#[t,t] })
 (base:Nat) (e:TypeId) (i:TypeInfo) (z:Value) (size bytes:Nat) (ht:P.underlying t=some (.slice e)) (hi:P.info? e=some i) (hz:i.zero=some z)
 (hsize:i.size=size) (hby:i.bytes=bytes) (hzs:z.cells.size=size) (hsz:0<size)
 (v:Value) (n:Nat) (xs:List Value) (hs:a.eval s=v) (hown:w.ownsRow base e size v n xs)
 (A:Option Addr) (m c:Nat) (news:List Value) (hx:a.eval x=.slice A m c) (hl:news.length=m * size) (hA:A=none->m=0/\c=0) (hnews:∀ad,A=some ad->∀j u,news[j]? = some u->w.cell? (ad.add j)=some u) (h1:∀u∈news,u.oneCell'=true)
 (h63:n+m<=maxLen) (hbytes:(n+m) * bytes<=140737488355328) (hbase:base<=w.heap.size)
 (h:∀q cap w',w'.ownsRow base e size (.slice q (n+m) cap) (n+m) (xs++news)->w.grownBy w' v.ownBlock->K (a.put o.dst (.slice q (n+m) cap)) w') :
 if Region.wanted o (yielded ops a.tmps)=true then Oper.wp P o a w K Q else E:=by
 have hw:Region.wanted o (yielded ops a.tmps)=true:=by simp[Region.wanted,hgd]
 rw[if_pos hw]
 cases A with
 | some ad =>
  obtain ⟨v',w',hr,h2,h3,_⟩:=run_append_own (P:=P) (w:=w) base t o.type e i z size bytes ht hi hz hsize hby hzs hsz v n xs hown ad m c news hl (hnews ad rfl) h1 h63 hbytes hbase
  obtain ⟨q,cap,rfl,_⟩:=qN h2
  unfold Oper.wp execOp
  simp only[ho,resolve,invoke,builtin,Sem.run_bind,Sem.run_pure,Result.andThen_ok,List.map_toArray,List.map_cons,List.map_nil,hs,hx,hr]
  exact h q cap w' h2 h3
 | none =>
  obtain ⟨rfl,rfl⟩:=hA rfl
  have hnil:news = []:=List.eq_nil_of_length_eq_zero (by simpa using hl)
  subst hnil
  have hr:=run_append_owned_none (P:=P) (w:=w) base t o.type e i size ht hi v n xs hown
  obtain ⟨q,cap,rfl,_⟩:=qN hown
  unfold Oper.wp execOp
  simp only[ho,resolve,invoke,builtin,Sem.run_bind,Sem.run_pure,Result.andThen_ok,List.map_toArray,List.map_cons,List.map_nil,hs,hx,hr]
  exact h q cap w (by simpa using hown) ⟨rfl,rfl,rfl,Nat.le_refl _,λ_ _ _=>rfl⟩
theorem zMa {w:World} {ops:Array Oper} {o:Oper} {a:Act} {K:Act->World->Prop} {Q:Exit->Act->World->Prop} {E:Prop} (hgd:o.guard=none) (s x:Operand) (ho:o.op=.call { callee:=.builtin .append,args:=#[s,x],argTypes:=#[31,31] })
 (base:Nat) (v:Value) (n:Nat) (xs:List Pg) (m:Nat) (l:List Pg) (ad:Addr) (c:Nat) (hs:a.eval s=v) (hx:a.eval x=.slice (some ad) m c) (hn:xs.length=n) (hm:l.length=m) (hown:GOwn w base v xs) (hl:GLies w (some ad) l) (h63:n+m<=1000000) (hbase:base<=w.heap.size)
 (h:∀q cap w',GOwn w' base (.slice q (n+m) cap) (xs++l)->w.grownBy w' v.ownBlock->((Value.slice q (n+m) cap).ownBlock=v.ownBlock\/(Value.slice q (n+m) cap).ownBlock=some w.heap.size)->K (a.put o.dst (.slice q (n+m) cap)) w') :
 if Region.wanted o (yielded ops a.tmps)=true then Oper.wp Tryz.prog o a w K Q else E:=by
 subst hn
 subst hm
 rw[if_pos (by simp[Region.wanted,hgd])]
 obtain ⟨i,hi,hz,hsz,hb⟩:=zDo
 obtain ⟨v',w',hr,h2,h3,-,h5⟩:=run_append_own_at (P:=Tryz.prog) w base 31 o.type 36 i _ 3 40 Tryz.underlying31 hi hz hsz hb rfl (by omega) v xs.length (vm xs) hown ad l.length c (vm l) (zBd l) (hl.cells rfl) (λu hu=>zDu hu) (by unfold maxLen;omega) (by omega) hbase
 obtain ⟨q,cap,rfl,_⟩:=qN h2
 unfold Oper.wp execOp
 simp only[ho,resolve,invoke,builtin,Sem.run_bind,Sem.run_pure,Result.andThen_ok,List.map_toArray,List.map_cons,List.map_nil,hs,hx,hr]
 exact h q cap w' (by unfold GOwn;rw[List.length_append,zDv];exact h2) h3 h5
section
variable {w w':World} {s p c l f:Nat} {x k:Nat->Prop} {g:Cf} {Q Q':PS} {D:Dat} {lv fr:List Pg} {Al Af:Option Addr} {cl cf:Nat}
theorem zOm {W V:World} (h:∀V,Below W.heap.size W V->Parts V p c l f Q) (hV:Below W.heap.size W V):Calls Tryz.prog 40 #[.pointer (some ⟨c,0,none⟩)] V λe w'=>e=.returned (.agg #[.int .i64 Q.S.rd,.int .i64 Q.S.pr,.int .i64 Q.S.er])/\Below W.heap.size W w'/\Below V.heap.size V w':=by
 refine (zNv (h V hV).chip).mono ?_
 rintro e w' ⟨rfl,hb⟩
 exact ⟨rfl,hV.trans (hb.mono hV.size),hb⟩
theorem zOn {W V:World} (h:∀V,Below W.heap.size W V->Parts V p c l f Q) (ok:Ok Q) (hV:Below W.heap.size W V):Calls Tryz.prog 32 #[.pointer (some ⟨p,0,none⟩)] V λe w'=>e=.returned (.int .i64 Q.bads)/\Below W.heap.size W w'/\Below V.heap.size V w':=by
 refine (zMm (h V hV) ok).mono ?_
 rintro e w' ⟨rfl,hb⟩
 exact ⟨rfl,hV.trans (hb.mono hV.size),hb⟩
theorem seq_from {W V:World} (h:∀V,Below W.heap.size W V->Parts V p c l f Q) (hV:Below W.heap.size W V):Calls Tryz.prog 31 #[.pointer (some ⟨p,0,none⟩)] V λe w'=>e=.returned (.int .i64 Q.seq)/\V=w':=q_seq (h V hV)
theorem put_from {W V:World} {y:Nat->Prop} {A:Option Addr} {m:Nat} {page:Int} {d:List UInt8} {er:Int} {r:P2} {Q1:PS} (hP:Pool W p c y Q) (ok:Ok Q) (hV:Below W.heap.size W V) (hd:RB W W.heap.size A d) (hm:Q.put 100 page d=some (er,r,Q1)) :
 Calls Tryz.prog 25 #[.pointer (some ⟨p,0,none⟩),.int .i64 page,.slice A d.length m] V λe w'=>e=.returned (.tuple #[P2V r,.int .i64 er])/\Pool w' p c (λb=>y b\/New W V b) Q1/\Safe y W w'/\Safe (λb=>y b\/New W V b) V w':=by
 refine (q_put 100 page A m d (hP.more hV) ok ((hd.below hV nL).mono hV.size) hm).mono ?_
 rintro e w' ⟨rfl,h1,h2⟩
 exact ⟨rfl,h1,(qC hV).then' h2 λ_ _ k=>.inl k,h2⟩
theorem zTq (X Y:Nat) (h:Y<=X):(4611686018427387904:Int) - (X:Int)<=4611686018427387904 - (Y:Int):=by omega
theorem Bud.less {c c':Nat} (h:Bud Q c) (hc:c'<=c):Bud Q c':=⟨h.low.spent (Spent.refl _) ⟨by omega,by omega,by omega⟩,λho b hb=>by
 have h7:=h.cnt ho b hb
 refine ⟨h7.1,Int.le_trans h7.2 ?_⟩
 have e9:c' * 10000<=(c) * 10000:=Nat.mul_le_mul_right _ hc
 exact zTq _ _ e9⟩
def PutHow (Q Q':PS) (lv fr fr':List Pg) (page:Int) (d:List UInt8):Prop :=
 (Q'=Q/\fr'=fr/\((page=0\/¬vg page (Q.seq+1) d)\/Q.K+6<=(lv.length:Int)+fr.length))\/(Q'.over=true/\fr' = []/\Q'.seq<=Q.seq+1)\/(Q'.over=false/\Q'.seq=Q.seq+1/\∃A c,fr'=fr++[⟨(page,Q.seq+1),d,A,c⟩])
def zEe (w:World) (s p c:Nat) (x:Nat->Prop) (g:Cf) (Q:PS) (lv fr:List Pg) (Al:Option Addr) (cl:Nat) (Af:Option Addr) (page:Int) (d:List UInt8) (cc:Nat) (e:Ending) (w':World):Prop :=
 e=.returned (.bool true)/\∃Q' D' fr' Af' cf' y,StAt w' s p c y g Q' lv fr' Al cl Af' cf'/\Inv Q' D' (qY lv) (qY fr')/\(∀q∈lv++fr',D' q.r=q.d)/\Bud Q' cc/\(∀b,vW x s Af b->vW y s Af' b)/\Safe (vW x s Af) w w'/\Keeps Q.S Q'.S/\PutHow Q Q' lv fr fr' page d
theorem StAt.clear (h:StAt w s p c x g Q lv fr Al cl Af cf):StAt (w.setCell ⟨s,9,none⟩ (.slice none 0 0)) s p c x g Q lv [] Al cl none 0/\Turned (λb=>b=s) w (w.setCell ⟨s,9,none⟩ (.slice none 0 0)):=by
 have ht:Turned (λb=>b=s) w (w.setCell ⟨s,9,none⟩ (.slice none 0 0)):=(Turned.refl (λb=>b=s) w).setCell (p:=⟨s,9,none⟩) (λ_=>rfl) _
 have hb:∀b,b<w.heap.size->b≠s->(w.setCell ⟨s,9,none⟩ (.slice none 0 0)).heap[b]? = w.heap[b]? := λb hl hn=>ht.block b hl hn
 refine ⟨⟨h.pool.turned (ht.mono' λb e=>by rw[e];exact h.hx),h.hx,?_,h.cfg,λhn=>?_,λad e=>⟨(h.lives ad e).1,(h.lives ad e).2.1,λ_ e2=>(by cases e2)⟩,h.lnone,zEv _ _,λad e=>(by cases e),λq hq=>?_⟩,ht⟩
 . have:=heap_setCell_same w s 9 _ _ (.slice none 0 0) h.self
   rw[this]
   rfl
 . obtain ⟨B,o,e,hB,hc⟩:=h.live hn
   have hk:=hb B hB (h.lives _ e).2.1
   exact ⟨B,o,e,Nat.lt_of_lt_of_le hB ht.size,λj hj=>⟨(World.cell?_of_block (a:=⟨B,o+j * 3,none⟩) hk).trans (hc j hj).1,(World.cell?_of_block (a:=⟨B,o+j * 3+1,none⟩) hk).trans (hc j hj).2.1,(World.cell?_of_block (a:=⟨B,o+j * 3+2,none⟩) hk).trans (hc j hj).2.2⟩⟩
 . have hq':q∈lv++fr:=by
    rw[List.append_nil] at hq
    exact List.mem_append_left _ hq
   obtain ⟨h1,h2⟩:=h.data q hq'
   exact ⟨h1.keep (λb hb'=>hb b (h.pool.there b hb'.1) hb'.2.1) λb hb'=>⟨hb'.1,hb'.2.1,λ_ e=>(by cases e)⟩,h2⟩
theorem StAt.away_lt (h:StAt w s p c x g Q lv fr Al cl Af cf) {b:Nat} (e:(Value.slice Af fr.length cf).ownBlock=some b):b<w.heap.size:=by
 cases Af with
 | none=>have e':(none:Option Nat)=some b:=e;cases e'
 | some ad =>
  have e':some ad.block=some b:=e
  rw[<- Option.some.inj e']
  exact h.pool.there _ (h.freshs ad rfl).1
theorem cb5 {W4 w5 W6 w7:World} {q5:Option Addr} {cap5:Nat} {dd:List UInt8} {v:Value} (h:w5.ownsRow W4.heap.size 5 1 (.slice q5 dd.length cap5) dd.length (dd.map ub)) (hg:W6.grownBy w7 v.ownBlock) (hz:∀b,b<w5.heap.size->W6.heap[b]? = w5.heap[b]? /\ b<W6.heap.size) (hv:∀b,v.ownBlock=some b->b<W4.heap.size):CB w7 (λb=>W4.heap.size<=b/\b<W6.heap.size) q5 dd:=λhn=>by
 obtain ⟨ad,ea,_,hc⟩:=(RB.of_own h) hn
 subst ea
 have hl:=World.ownsRow.lt h ad.block rfl
 refine ⟨ad,rfl,⟨hl.1,(hz _ hl.2).2⟩,λj hj=>?_⟩
 have hk:w7.heap[ad.block]? = w5.heap[ad.block]? := (hg.block _ (hz _ hl.2).2 λe=>by have:=hv _ e.symm;omega).trans (hz _ hl.2).1
 have hk':w7.heap[(ad.add j).block]? = w5.heap[(ad.add j).block]? :=by
  have e:(ad.add j).block=ad.block:=by unfold Addr.add;split<;>rfl
  rw[e];exact hk
 exact (World.cell?_of_block hk').trans (hc j hj)
theorem StAt.push {W4 W6 w7:World} (h:StAt W4 s p c x g Q lv fr Al cl Af cf) (pg:Pg) {q:Option Addr} {cap:Nat} (hb6:Below W4.heap.size W4 W6) (hown:GOwn w7 0 (.slice q (fr.length+1) cap) (fr++[pg])) (hg:W6.grownBy w7 (Value.slice Af fr.length cf).ownBlock) (hat:(Value.slice q (fr.length+1) cap).ownBlock=(Value.slice Af fr.length cf).ownBlock\/(Value.slice q (fr.length+1) cap).ownBlock=some W6.heap.size) (hd:CB w7 (λb=>W4.heap.size<=b/\b<W6.heap.size) pg.A pg.d/\pg.d.length<=2000) :
 StAt (w7.setCell ⟨s,9,none⟩ (.slice q (fr.length+1) cap)) s p c (λb=>x b\/New W4 (w7.setCell ⟨s,9,none⟩ (.slice q (fr.length+1) cap)) b) g Q lv (fr++[pg]) Al cl q cap/\(∀b,vW x s Af b->vW (λb=>x b\/New W4 (w7.setCell ⟨s,9,none⟩ (.slice q (fr.length+1) cap)) b) s q b)/\Turned (λb=>b=s\/∃ad,Af=some ad/\b=ad.block) W4 (w7.setCell ⟨s,9,none⟩ (.slice q (fr.length+1) cap))/\w7.heap[s]? = W4.heap[s]? :=by
 have hs:=h.lt
 have hrow:∀b,some b=(Value.slice Af fr.length cf).ownBlock->∃ad,Af=some ad/\b=ad.block:=λb e=>by
  cases Af with
  | none=>have e':some b=(none:Option Nat):=e;cases e'
  | some ad=>have e':some b=some ad.block:=e;exact ⟨ad,rfl,Option.some.inj e'⟩
 have hk:∀b,b<W4.heap.size->(∀ad,Af=some ad->b≠ad.block)->w7.heap[b]? = W4.heap[b]? := λb hl hn =>
  (hg.block b (Nat.lt_of_lt_of_le hl hb6.size) λe=>by obtain ⟨ad,e1,e2⟩:=hrow b e;exact hn ad e1 e2).trans (hb6.block b hl)
 have hsA:∀ad,Af=some ad->s≠ad.block:=λad e e2=>(h.freshs ad e).2 e2.symm
 have hs7:w7.heap[s]? = W4.heap[s]? := hk s hs hsA
 have hsz:W4.heap.size<=w7.heap.size:=Nat.le_trans hb6.size hg.size
 have ht0:Turned (λb=>b=s\/∃ad,Af=some ad/\b=ad.block) W4 w7:=⟨hg.os.trans hb6.os,hg.tape.trans hb6.tape,hg.output.trans hb6.output,hsz,λb hl hn=>hk b hl λad e e2=>hn (.inr ⟨ad,e,e2⟩)⟩
 have ht:Turned (λb=>b=s\/∃ad,Af=some ad/\b=ad.block) W4 (w7.setCell ⟨s,9,none⟩ (.slice q (fr.length+1) cap)):=ht0.setCell (p:=⟨s,9,none⟩) (λ_=>.inl rfl) _
 have hsc:∀b,b≠s->(w7.setCell ⟨s,9,none⟩ (.slice q (fr.length+1) cap)).heap[b]? = w7.heap[b]? := λb hn=>Below.heap_setCell w7 _ _ b hn
 have hqb:∀ad,q=some ad->(∃a0,Af=some a0/\ad.block=a0.block)\/ad.block=W6.heap.size:=λad e=>by
  subst e
  rcases hat with k | k
  . exact .inl (hrow ad.block k)
  . exact .inr (Option.some.inj k)
 have hqlt:∀ad,q=some ad->ad.block<w7.heap.size:=λad e=>by
  subst e
  exact (World.ownsRow.lt hown ad.block rfl).2
 have haw:∀b,vW x s Af b->vW (λb=>x b\/New W4 (w7.setCell ⟨s,9,none⟩ (.slice q (fr.length+1) cap)) b) s q b:=λb hb=>⟨.inl hb.1,hb.2.1,λad e e2=>by
  have hl:=h.pool.there b hb.1
  rcases hqb ad e with ⟨a0,k1,k2⟩ | k
  . exact hb.2.2 a0 k1 (e2.trans k2)
  . have:=hb6.size;omega⟩
 have hyx:∀i,(i=s\/∃ad,Af=some ad/\i=ad.block)->x i:=λi k=>by
  rcases k with k | ⟨ad,k1,k2⟩
  . rw[k];exact h.hx
  . rw[k2];exact (h.freshs ad k1).1
 have hkeep:∀b,vW x s Af b->(w7.setCell ⟨s,9,none⟩ (.slice q (fr.length+1) cap)).heap[b]? = W4.heap[b]? := λb hb=>ht.block b (h.pool.there b hb.1) (by
  rintro (k | ⟨ad,k1,k2⟩)
  . exact hb.2.1 k
  . exact hb.2.2 ad k1 k2)
 have hsq:∀ad,q=some ad->ad.block≠s:=λad e e2=>by
  rcases hqb ad e with ⟨a0,k1,k2⟩ | k
  . exact hsA a0 k1 (e2.symm.trans k2)
  . have:=hb6.size;omega
 refine ⟨⟨h.pool.grow (ht.mono' hyx),.inl h.hx,?_,h.cfg,λhn=>?_,λad e=>haw _ (h.lives ad e),h.lnone,?_,λad e=>⟨?_,hsq ad e⟩,λa ha=>?_⟩,haw,ht,hs7⟩
 . have:=heap_setCell_same w7 s 9 _ _ (.slice q (fr.length+1) cap) (hs7.trans h.self)
   rw[this,List.length_append]
   rfl
 . obtain ⟨B,o,e,hB,hc⟩:=h.live hn
   have hk:=hkeep B (h.lives _ e)
   exact ⟨B,o,e,Nat.lt_of_lt_of_le hB ht.size,λj hj=>⟨(World.cell?_of_block (a:=⟨B,o+j * 3,none⟩) hk).trans (hc j hj).1,(World.cell?_of_block (a:=⟨B,o+j * 3+1,none⟩) hk).trans (hc j hj).2.1,(World.cell?_of_block (a:=⟨B,o+j * 3+2,none⟩) hk).trans (hc j hj).2.2⟩⟩
 . rw[List.length_append]
   exact vS hown λk e=>by
    refine hsc k λe2=>?_
    cases q with
    | none=>have e':(none:Option Nat)=some k:=e;cases e'
    | some ad=>have e':some ad.block=some k:=e;exact hsq ad rfl ((Option.some.inj e').trans e2)
 . rcases hqb ad e with ⟨a0,k1,k2⟩ | k
   . rw[k2];exact .inl (h.freshs a0 k1).1
   . refine .inr ⟨by rw[k];exact hb6.size,?_⟩
     have:=hqlt ad e
     simpa using this
 . rcases List.mem_append.1 ha with k | k
   . obtain ⟨h1,h2⟩:=h.data a (List.mem_append_left _ k)
     exact ⟨h1.keep (λb hb=>hkeep b hb) haw,h2⟩
   . rcases List.mem_append.1 k with k | k
     . obtain ⟨h1,h2⟩:=h.data a (List.mem_append_right _ k)
       exact ⟨h1.keep (λb hb=>hkeep b hb) haw,h2⟩
     . rw[List.mem_singleton] at k
       subst k
       refine ⟨hd.1.keep (λb hb=>hsc b (by omega)) λb hb=>⟨.inr ⟨hb.1,?_⟩,by omega,λad e e2=>?_⟩,hd.2⟩
       . have:=hg.size
         have:b<w7.heap.size:=by omega
         simpa using this
       . rcases hqb ad e with ⟨a0,k1,k2⟩ | k
         . have:=h.pool.there _ (h.freshs a0 k1).1
           omega
         . omega
theorem zRu (d:Cal) (cc:Nat) (h:StAt w s p c x g Q lv fr Al cl Af cf) (hi:Inv Q D (qY lv) (qY fr)) (hd:∀q∈lv++fr,D q.r=q.d) (hb:Bud Q (cc+1)) (hcd:CB w (vW x s Af) d.A d.d) (hdl:d.d.length<=60) (hdn:d.A=none->d.d.length=0/\d.c=0) :
 Calls Tryz.prog 15 #[.pointer (some ⟨s,0,none⟩),.agg #[.int .i64 d.dO,.int .i64 d.n,.int .i64 d.keep,.int .i64 d.page,.slice d.A d.d.length d.c,.slice d.A2 d.pk.length d.c2]] w (zEe w s p c x g Q lv fr Al cl Af d.page d.d cc):=by
 obtain ⟨W,hW⟩:∃W,W=w.alloc (.cells #[.int .i64 d.dO,.int .i64 d.n,.int .i64 d.keep,.int .i64 d.page,.slice d.A d.d.length d.c,.slice d.A2 d.pk.length d.c2] 41):=⟨_,rfl⟩
 have hbW:Below w.heap.size w W:=by rw[hW];exact bR.alloc nL _
 have HXC:Hid (W.heap[w.heap.size]? = some (.cells #[.int .i64 d.dO,.int .i64 d.n,.int .i64 d.keep,.int .i64 d.page,.slice d.A d.d.length d.c,.slice d.A2 d.pk.length d.c2] 41 (0,0))):=hI (by rw[hW];exact heap_alloc_new _ _)
 have HTW:=hI (h.below hbW)
 have HBW:=hI hbW
 have HI:=hI hi
 have HOK:=hI hi.mid.ok
 have HD:=hI hd
 have HBud:=hI hb
 have HCD:=hI hcd
 have HT:=hI h
 obtain ⟨lp,fp,hpt⟩:=HTW.out.pool.parts
 have HPK:Hid (∀V,Below W.heap.size W V->Parts V p c lp fp Q):=hI λV hV=>hpt.below hV
 have HSK:Hid (∀V,Below W.heap.size W V->V.cell? ⟨s,0,none⟩=some (.pointer (some ⟨c,0,none⟩))/\V.cell? ⟨s,1,none⟩=some (.pointer (some ⟨p,0,none⟩))):=hI λV hV=>⟨(HTW.out.sc.below hV).c0,(HTW.out.sc.below hV).c1⟩
 have hc1:=(HSK.out W bR).1
 have hc2:=(HSK.out W bR).2
 have HWE:=hI hW
 have HDN:=hI hdn
 have HCF:=hI h.cfg
 clear h hi hd hb hcd hpt hbW hW hdn
 go_enter Tryz.func15,Tryz.ntmps15
 go_upto_region 1 with fail
 rw[<- HWE.out]
 go_cut [5,6] from 10 to 19 (λv5 v6 wx=>∃b5,v5=.pointer (some ⟨b5,0,none⟩)/\v6=.int .i64 Q.bads/\wx.heap[b5]? = some (.cells #[.int .i64 Q.S.rd,.int .i64 Q.S.pr,.int .i64 Q.S.er] 85 (0,0))/\W.heap.size<=b5/\Below W.heap.size W wx)
 case first=>as_aux_lemma =>
  go_region_held3 (λV=>V.cell? ⟨s,0,none⟩=some (.pointer (some ⟨c,0,none⟩))/\V.cell? ⟨s,1,none⟩=some (.pointer (some ⟨p,0,none⟩)))
   (exact HSK.out _ (by first | exact bR.drew | exact bR | exact HBa.out | exact HBb.out | exact (bR.alloc nL _).drew | exact (bR.alloc nL _) | exact (HBa.out.alloc HBa.out.size _) | exact (HBb.out.alloc HBb.out.size _) | exact (((HBa.out.setCell (by first | exact Nat.le_refl _ | exact HBa.out.size | exact HBb.out.size | simp | omega) _).setCell (by first | exact Nat.le_refl _ | exact HBa.out.size | exact HBb.out.size | simp | omega) _).setCell (by first | exact Nat.le_refl _ | exact HBa.out.size | exact HBb.out.size | simp | omega) _) | exact (((HBb.out.setCell (by first | exact Nat.le_refl _ | exact HBa.out.size | exact HBb.out.size | simp | omega) _).setCell (by first | exact Nat.le_refl _ | exact HBa.out.size | exact HBb.out.size | simp | omega) _).setCell (by first | exact Nat.le_refl _ | exact HBa.out.size | exact HBb.out.size | simp | omega) _)))
   (first
    | (go_at_call 40;(with_reducible refine (zOm HPK.out (by first | exact bR.drew | exact bR | exact HBa.out | exact HBb.out | exact (bR.alloc nL _).drew | exact (bR.alloc nL _) | exact (HBa.out.alloc HBa.out.size _) | exact (HBb.out.alloc HBb.out.size _) | exact (((HBa.out.setCell (by first | exact Nat.le_refl _ | exact HBa.out.size | exact HBb.out.size | simp | omega) _).setCell (by first | exact Nat.le_refl _ | exact HBa.out.size | exact HBb.out.size | simp | omega) _).setCell (by first | exact Nat.le_refl _ | exact HBa.out.size | exact HBb.out.size | simp | omega) _) | exact (((HBb.out.setCell (by first | exact Nat.le_refl _ | exact HBa.out.size | exact HBb.out.size | simp | omega) _).setCell (by first | exact Nat.le_refl _ | exact HBa.out.size | exact HBb.out.size | simp | omega) _).setCell (by first | exact Nat.le_refl _ | exact HBa.out.size | exact HBb.out.size | simp | omega) _))).mono ?_);rintro e wa ⟨rfl,hw,hv⟩;have HBa:=hI hw;have HVa:=hI hv;(first | (have hbx:=(hv.block W.heap.size (by simp)).trans (heap_alloc_new W (.cells #[.int .i64 0,.int .i64 0,.int .i64 0] 85));have HBX:=hI hbx;obtain ⟨_,_,_,_,_,_⟩:=qT hbx;obtain ⟨_,_,_⟩:=vD hbx (.int .i64 Q.S.rd) (.int .i64 Q.S.pr) (.int .i64 Q.S.er);clear hbx) | (have hbx:=(hv.block wb.heap.size (by simp)).trans (heap_alloc_new wb (.cells #[.int .i64 0,.int .i64 0,.int .i64 0] 85));have HBX:=hI hbx;obtain ⟨_,_,_,_,_,_⟩:=qT hbx;obtain ⟨_,_,_⟩:=vD hbx (.int .i64 Q.S.rd) (.int .i64 Q.S.pr) (.int .i64 Q.S.er);clear hbx) | (have hbx:=(hv.block _ (qD HBX.out)).trans HBX.out;have HBX:=hI hbx;obtain ⟨_,_,_,_,_,_⟩:=qT hbx;obtain ⟨_,_,_⟩:=vD hbx (.int .i64 Q.S.rd) (.int .i64 Q.S.pr) (.int .i64 Q.S.er);clear hbx) | skip);clear hw hv)
    | (go_at_call 32;(with_reducible refine (zOn HPK.out HOK.out (by first | exact bR.drew | exact bR | exact HBa.out | exact HBb.out | exact (bR.alloc nL _).drew | exact (bR.alloc nL _) | exact (HBa.out.alloc HBa.out.size _) | exact (HBb.out.alloc HBb.out.size _) | exact (((HBa.out.setCell (by first | exact Nat.le_refl _ | exact HBa.out.size | exact HBb.out.size | simp | omega) _).setCell (by first | exact Nat.le_refl _ | exact HBa.out.size | exact HBb.out.size | simp | omega) _).setCell (by first | exact Nat.le_refl _ | exact HBa.out.size | exact HBb.out.size | simp | omega) _) | exact (((HBb.out.setCell (by first | exact Nat.le_refl _ | exact HBa.out.size | exact HBb.out.size | simp | omega) _).setCell (by first | exact Nat.le_refl _ | exact HBa.out.size | exact HBb.out.size | simp | omega) _).setCell (by first | exact Nat.le_refl _ | exact HBa.out.size | exact HBb.out.size | simp | omega) _))).mono ?_);rintro e wb ⟨rfl,hw,hv⟩;have HBb:=hI hw;have HVb:=hI hv;(first | (have hbx:=(hv.block W.heap.size (by simp)).trans (heap_alloc_new W (.cells #[.int .i64 0,.int .i64 0,.int .i64 0] 85));have HBX:=hI hbx;obtain ⟨_,_,_,_,_,_⟩:=qT hbx;obtain ⟨_,_,_⟩:=vD hbx (.int .i64 Q.S.rd) (.int .i64 Q.S.pr) (.int .i64 Q.S.er);clear hbx) | (have hbx:=(hv.block wa.heap.size (by simp)).trans (heap_alloc_new wa (.cells #[.int .i64 0,.int .i64 0,.int .i64 0] 85));have HBX:=hI hbx;obtain ⟨_,_,_,_,_,_⟩:=qT hbx;obtain ⟨_,_,_⟩:=vD hbx (.int .i64 Q.S.rd) (.int .i64 Q.S.pr) (.int .i64 Q.S.er);clear hbx) | (have hbx:=(hv.block _ (qD HBX.out)).trans HBX.out;have HBX:=hI hbx;obtain ⟨_,_,_,_,_,_⟩:=qT hbx;obtain ⟨_,_,_⟩:=vD hbx (.int .i64 Q.S.rd) (.int .i64 Q.S.pr) (.int .i64 Q.S.er);clear hbx) | skip);clear hw hv))
  all_goals
   go_wp2_with fail
   go_meet
   case rel =>
    refine ⟨_,rfl,rfl,?_,?_,?_⟩
    . (first | exact heap_alloc_new _ _ | exact (HVb.out.block _ (by simp)).trans (heap_alloc_new _ _) | exact yr HBX.out _ _ _ | exact (HVb.out.block _ (by simp;exact qD HBX.out)).trans (yr HBX.out _ _ _))
    . first | exact Nat.le_refl _ | exact HBa.out.size | exact HBb.out.size
    . exact (by first | exact bR.drew | exact bR | exact HBa.out | exact HBb.out | exact (bR.alloc nL _).drew | exact (bR.alloc nL _) | exact (HBa.out.alloc HBa.out.size _) | exact (HBb.out.alloc HBb.out.size _) | exact (((HBa.out.setCell (by first | exact Nat.le_refl _ | exact HBa.out.size | exact HBb.out.size | simp | omega) _).setCell (by first | exact Nat.le_refl _ | exact HBa.out.size | exact HBb.out.size | simp | omega) _).setCell (by first | exact Nat.le_refl _ | exact HBa.out.size | exact HBb.out.size | simp | omega) _) | exact (((HBb.out.setCell (by first | exact Nat.le_refl _ | exact HBa.out.size | exact HBb.out.size | simp | omega) _).setCell (by first | exact Nat.le_refl _ | exact HBa.out.size | exact HBb.out.size | simp | omega) _).setCell (by first | exact Nat.le_refl _ | exact HBa.out.size | exact HBb.out.size | simp | omega) _))
 case rest =>
  obtain ⟨b5,rfl,rfl,hx5,hb5,hbw⟩:=hcut
  obtain ⟨W1,rfl⟩:∃W1,W1=wc:=⟨_,rfl⟩
  have HX5:=hI hx5
  have HB5:=hI hb5
  have HB1:=hI hbw
  have HP1:=hI (HPK.out _ hbw)
  have HPK1:Hid (∀V,Below W1.heap.size W1 V->Parts V p c lp fp Q):=hI λV hV=>HP1.out.below hV
  have HXC1:=hI ((HB1.out.block w.heap.size (qD HXC.out)).trans HXC.out)
  have HSK1:Hid (∀V,Below W1.heap.size W1 V->V.cell? ⟨s,1,none⟩=some (.pointer (some ⟨p,0,none⟩))/\V.cell? ⟨w.heap.size,3,none⟩=some (.int .i64 d.page)/\V.cell? ⟨w.heap.size,4,none⟩=some (.slice d.A d.d.length d.c)):=hI λV hV=>by
   obtain ⟨-,-,-,e3,e4,-⟩:=zEk ((hV.block _ (qD HXC1.out)).trans HXC1.out)
   exact ⟨((HTW.out.sc.below HB1.out).below hV).c1,e3,e4⟩
  have eseq:IntKind.i64.wrap (Q.seq+1)=Q.seq+1:=qp _ (by have:=HOK.out.seq;omega)
  have c1:=(HSK1.out W1 bR).1
  have k3:=(HSK1.out W1 bR).2.1
  have k4:=(HSK1.out W1 bR).2.2
  clear hx5 hb5 hbw hc1 hc2
  go_upto_region 2 with fail
  go_cut [7] from 20 to 30 (λv7 wx=>∃b7,v7=.pointer (some ⟨b7,0,none⟩)/\wx.heap[b7]? = some (.cells #[.int .i64 d.page,.int .i64 (Q.seq+1),.slice d.A d.d.length d.c] 47 (0,0))/\W1.heap.size<=b7/\Below W1.heap.size W1 wx)
  case first=>as_aux_lemma =>
   go_region_held3 (λV=>V.cell? ⟨s,1,none⟩=some (.pointer (some ⟨p,0,none⟩))/\V.cell? ⟨w.heap.size,3,none⟩=some (.int .i64 d.page)/\V.cell? ⟨w.heap.size,4,none⟩=some (.slice d.A d.d.length d.c))
    (exact HSK1.out _ (by first | exact bR.drew | exact bR | exact (bR.alloc nL _).drew | exact (bR.alloc nL _) | exact ((((bR.alloc nL _).setCell nL _).setCell nL _).setCell nL _)))
    (first
     | (go_at_call 31;(with_reducible refine (seq_from HPK1.out (by first | exact bR.drew | exact bR | exact (bR.alloc nL _).drew | exact (bR.alloc nL _) | exact ((((bR.alloc nL _).setCell nL _).setCell nL _).setCell nL _))).mono ?_);rintro e wa ⟨rfl,hw⟩;obtain rfl:=hw))
   all_goals
    go_wp2_with fail
    go_meet
    case rel =>
     refine ⟨_,rfl,?_,?_,?_⟩
     . first | exact heap_alloc_new _ _ | exact yr (heap_alloc_new _ _) _ _ _
     . first | exact Nat.le_refl _
     . exact (by first | exact bR.drew | exact bR | exact (bR.alloc nL _).drew | exact (bR.alloc nL _) | exact ((((bR.alloc nL _).setCell nL _).setCell nL _).setCell nL _))
  case rest =>
   obtain ⟨b7,rfl,hx7,hb7,hbw2⟩:=hcut
   obtain ⟨W2,rfl⟩:∃W2,W2=wc:=⟨_,rfl⟩
   clear c1 k3 k4 eseq
   have HX7:=hI hx7
   have HB7:=hI hb7
   have HB2:Hid (Below w.heap.size w W2):=hI ((HBW.out.trans (HB1.out.mono HBW.out.size)).trans (hbw2.mono (HBW.out.trans (HB1.out.mono HBW.out.size)).size))
   have HX52:=hI ((hbw2.block _ (qD HX5.out)).trans HX5.out)
   have HXC2:=hI ((hbw2.block _ (qD HXC1.out)).trans HXC1.out)
   have HST2:=hI (HT.out.below HB2.out)
   have HPL2:=hI HST2.out.pool
   have HRB2:Hid (RB W2 W2.heap.size d.A d.d):=hI (((HCD.out.rb (B:=w.heap.size) λb hb=>HT.out.pool.there b hb.1).below HB2.out nL).mono HB2.out.size)
   obtain ⟨er,r,Q1,hpm,hpe⟩:=put_spec HI.out HBud.out d.page d.d
   have HPM:=hI hpm
   have HPE:=hI hpe
   have hwC:w.heap.size<W2.heap.size:=qD HXC2.out
   have HSK2:Hid (∀V,Safe (λb=>x b\/New w W2 b) W2 V->V.cell? ⟨s,1,none⟩=some (.pointer (some ⟨p,0,none⟩))/\V.cell? ⟨w.heap.size,3,none⟩=some (.int .i64 d.page)/\V.cell? ⟨w.heap.size,4,none⟩=some (.slice d.A d.d.length d.c)):=hI λV hV=>by
    obtain ⟨-,-,-,e3,e4,-⟩:=zEk ((hV.block (qD HXC2.out) (.inr ⟨Nat.le_refl _,qD HXC2.out⟩)).trans HXC2.out)
    exact ⟨(HST2.out.sc.block (hV.block HST2.out.lt HST2.out.hx)).c1,e3,e4⟩
   have c1:=(HSK2.out W2 (Turned.refl _ _)).1
   have k3:=(HSK2.out W2 (Turned.refl _ _)).2.1
   have k4:=(HSK2.out W2 (Turned.refl _ _)).2.2
   clear hx7 hb7 hbw2 hpm hpe
   go_upto_region 3 with fail
   go_cut [8,9] from 31 to 42 (λv8 v9 wx=>∃b8,v8=.pointer (some ⟨b8,0,none⟩)/\v9=.int .i64 er/\wx.heap[b8]? = some (.cells #[.int .i64 r.1,.int .i64 r.2] 33 (0,0))/\W2.heap.size<=b8/\Pool wx p c (λb=>x b\/New w W2 b) Q1/\Safe (λb=>x b\/New w W2 b) W2 wx)
   case first=>as_aux_lemma =>
    go_region_held3 (λV=>V.cell? ⟨s,1,none⟩=some (.pointer (some ⟨p,0,none⟩))/\V.cell? ⟨w.heap.size,3,none⟩=some (.int .i64 d.page)/\V.cell? ⟨w.heap.size,4,none⟩=some (.slice d.A d.d.length d.c))
     (first | exact HSK2.out _ (qC (by first | exact bR.drew | exact bR | exact (bR.alloc nL _).drew | exact (bR.alloc nL _) | exact ((((bR.alloc nL _).setCell nL _).setCell nL _).setCell nL _))) | exact HSK2.out _ HSa.out | exact HSK2.out _ (HSa.out.then (qC (bR.alloc nL _))) | exact HSK2.out _ (vz HSa.out nL _ _))
     (first
      | (go_at_call 25;(with_reducible refine (put_from HPL2.out HOK.out (by first | exact bR.drew | exact bR | exact (bR.alloc nL _).drew | exact (bR.alloc nL _) | exact ((((bR.alloc nL _).setCell nL _).setCell nL _).setCell nL _)) HRB2.out HPM.out).mono ?_);rintro e wa ⟨rfl,hp3,hs3,hs4⟩;have HPa:=hI hp3;have HSa:=hI hs3;(first | (have hbx:=(hs4.block (by simp) (.inr ⟨Nat.le_refl W2.heap.size,by simp⟩)).trans (heap_alloc_new W2 (.cells #[.int .i64 0,.int .i64 0] 33));have HBX:=hI hbx;obtain ⟨_,_,_,_⟩:=qG hbx;clear hbx) | skip);clear hp3 hs3 hs4))
    all_goals
     go_wp2_with fail
     go_meet
     case rel =>
      refine ⟨_,rfl,rfl,?_,?_,?_,?_⟩
      . first | exact heap_alloc_new _ _ | exact vB HBX.out _ _
      . first | exact HSa.out.size | exact Nat.le_refl _
      . first | exact (HPa.out.below (bR.alloc nL _)).less λb k=>.inl k | exact (HPa.out.two (.inr ⟨Nat.le_refl _,by simp⟩) _ _).less λb k=>.inl k
      . first | exact HSa.out.then (qC (bR.alloc nL _)) | exact vz HSa.out nL _ _
   case rest =>
    obtain ⟨b8,rfl,rfl,hx8,hb8,hp8,hs8⟩:=hcut
    obtain ⟨W3,rfl⟩:∃W3,W3=wc:=⟨_,rfl⟩
    clear c1 k3 k4
    have HX8:=hI hx8
    have HP8:=hI hp8
    have HS8:=hI hs8
    have HN8:=hI hb8
    have hW2:=HB2.out.size
    have HX53:=hI ((HS8.out.block (qD HX52.out) (.inr ⟨by have:=HB5.out;have:=HBW.out.size;omega,qD HX52.out⟩)).trans HX52.out)
    have HX73:=hI ((HS8.out.block (qD HX7.out) (.inr ⟨by have:=HB7.out;have:=HB1.out.size;have:=HBW.out.size;omega,qD HX7.out⟩)).trans HX7.out)
    have HXC3:=hI ((HS8.out.block (qD HXC2.out) (.inr ⟨Nat.le_refl _,qD HXC2.out⟩)).trans HXC2.out)
    have HRB3:Hid (RB W3 W3.heap.size d.A d.d):=hI (by
     have q1:=HCD.out.keep (λb hb=>HB2.out.block b (HT.out.pool.there b hb.1)) (λb hb=>hb)
     have q2:=q1.keep (λb hb=>HS8.out.block (Nat.lt_of_lt_of_le (HT.out.pool.there b hb.1) HB2.out.size) (.inl hb.1)) (λb hb=>hb)
     exact q2.rb (B:=W3.heap.size) λb hb=>Nat.lt_of_lt_of_le (Nat.lt_of_lt_of_le (HT.out.pool.there b hb.1) HB2.out.size) HS8.out.size)
    have HSx:Hid (Safe x w W3):=hI ((qC HB2.out).then' HS8.out λ_ _ k=>.inl k)
    obtain ⟨-,-,-,k3,-,-⟩:=zEk HXC3.out
    obtain ⟨r0,r1,-,-⟩:=qG HX8.out
    obtain ⟨m0,m1,m2,-⟩:=qT HX73.out
    clear hx8 hp8 hs8 hb8
    have hpe:=HPE.out
    clear HPE
    cases hpe with
    | arg ha =>
     have HST3:=hI (HST2.out.safe HS8.out HP8.out (λ_ k=>k) HCF.out)
     have HFIN:Hid (∀w9,Below W3.heap.size W3 w9->zEe w s p c x g Q lv fr Al cl Af d.page d.d cc (.returned (.bool true)) w9):=hI λw9 h9=>⟨rfl,Q,D,fr,Af,cf,_,HST3.out.below h9,HI.out,HD.out,HBud.out.less (Nat.le_succ _),λb hb=>⟨.inl (.inl hb.1),hb.2⟩,(HSx.out.then (qC h9)).mono' λb hb k=>hb k.1,Keeps.refl _,.inl ⟨rfl,rfl,.inl ha⟩⟩
     by_cases hp0:d.page=0
     . rw[hp0] at k3
       have HP0:=hI hp0
       clear hp0 ha
       have e00:Sem.run Tryz.prog (binOp BinOp.eql 33 (P2V (0,0)) (P2V (0,0))) W3=.ok (.bool true) W3:=zDz (0,0) (0,0) W3
       go_wp2_with fail
       go_ret
       exact HFIN.out _ bR
     . have HMF:Hid (decide (vg d.page (Q.seq+1) d.d)=false):=hI (decide_eq_false (ha.resolve_left hp0))
       go_wp2_with (go_at_call 45;(with_reducible refine (yA W3.heap.size d.page (Q.seq+1) d.A d.c d.d W3 HRB3.out nL).mono ?_);rintro e w9 ⟨rfl,hb9⟩;rw[HMF.out];have HB9:=hI hb9;clear hb9 r0 r1;obtain ⟨r0,r1,-,-⟩:=qG ((HB9.out.block _ (qD HX8.out)).trans HX8.out);have e00:Sem.run Tryz.prog (binOp BinOp.eql 33 (P2V (0,0)) (P2V (0,0))) w9=.ok (.bool true) w9:=zDz (0,0) (0,0) w9)
       go_ret
       exact HFIN.out _ HB9.out
    | full ha hb =>
     have HFL:=hI hb
     have HST3:=hI (HST2.out.safe HS8.out HP8.out (λ_ k=>k) HCF.out)
     have hp0:¬d.page=0:=λk=>ha (.inl k)
     have hp0b:(d.page==0)=false:=by simpa using hp0
     have HMT:Hid (decide (vg d.page (Q.seq+1) d.d)=true):=hI (decide_eq_true (Classical.not_not.1 λk=>ha (.inr k)))
     have HA:=hI ha
     have hKg:g.K=Q.K:=by rw[<- HCF.out];rfl
     have hK:=HI.out.mid.ok.may.2.2.2.1
     have hlA:=HI.out.lenA
     rw[List.length_map,List.length_map] at hlA hb
     clear ha
     go_upto_region 6 with (go_at_call 45;(with_reducible refine (yA W3.heap.size d.page (Q.seq+1) d.A d.c d.d W3 HRB3.out nL).mono ?_);rintro e w9 ⟨rfl,hb9⟩;rw[HMT.out];have HB9:=hI hb9;clear hb9 r0 r1 m0 m1 m2 k3)
     have HST9:=hI (HST3.out.below HB9.out)
     have c8:=HST9.out.sc.c8
     have c9:=HST9.out.sc.c9
     have c5:=HST9.out.sc.c5
     rw[hKg] at c5
     have e1:IntKind.i64.wrap ((lv.length:Int)+(fr.length:Int))=(lv.length:Int)+(fr.length:Int):=qp _ (by omega)
     have e2:IntKind.i64.wrap (Q.K+1)=Q.K+1:=qp _ (by omega)
     have e3:IntKind.i64.wrap (Q.K+1+5)=Q.K+1+5:=qp _ (by omega)
     have e4:decide (Q.K+1+5<=(lv.length:Int)+(fr.length:Int))=true:=by rw[decide_eq_true_eq];omega
     clear hp0 hp0b
     go_quiet (fail)
     obtain ⟨w10,hw10⟩:∃w10,w10=w9.drewN nq:=⟨_,rfl⟩
     have HB10:Hid (Below W3.heap.size W3 w10):=hI (by rw[hw10];exact qS HB9.out _)
     have HX80:=hI ((HB10.out.block _ (qD HX8.out)).trans HX8.out)
     obtain ⟨r0,r1,-,-⟩:=qG HX80.out
     have HFIN:Hid (∀w9,Below W3.heap.size W3 w9->zEe w s p c x g Q lv fr Al cl Af d.page d.d cc (.returned (.bool true)) w9):=hI λw9 h9=>⟨rfl,Q,D,fr,Af,cf,_,HST3.out.below h9,HI.out,HD.out,HBud.out.less (Nat.le_succ _),λb hb=>⟨.inl (.inl hb.1),hb.2⟩,(HSx.out.then (qC h9)).mono' λb hb k=>hb k.1,Keeps.refl _,.inl ⟨rfl,rfl,.inr (by have:=HFL.out;rw[List.length_map,List.length_map] at this;exact this)⟩⟩
     have e00:Sem.run Tryz.prog (binOp BinOp.eql 33 (P2V (0,0)) (P2V (0,0))) w10=.ok (.bool true) w10:=zDz (0,0) (0,0) w10
     clear hb hlA hK
     rw[<- hw10]
     clear hw10
     go_wp2_with fail
     go_ret
     exact HFIN.out _ HB10.out
    | over0 ha hb ho =>
     have HST3:=hI (HST2.out.safe HS8.out HP8.out (λ_ k=>k) HCF.out)
     have HOK1:=HOK
     have HOV:Hid (Q.over=true):=hI ho
     have hfr:fr = []:=by
      have:=HI.out.none ho
      unfold qY at this
      simpa using this
     have HI1:Hid (Inv Q D (qY lv) []):=hI (by have:=HI.out;rw[hfr] at this;exact this)
     clear hfr
     have HKP:Hid (Keeps Q.S Q.S):=hI (Keeps.refl _)
     have HBD1:Hid (Bud Q cc):=hI (HBud.out.less (Nat.le_succ _))
     have HSP:Hid (decide (Q.Sp<Q.bads)=true):=hI (by have:=ho;unfold PS.over at this;exact this)
     have hp0:¬d.page=0:=λk=>ha (.inl k)
     have hp0b:(d.page==0)=false:=by simpa using hp0
     have HMT:Hid (decide (vg d.page (Q.seq+1) d.d)=true):=hI (decide_eq_true (Classical.not_not.1 λk=>ha (.inr k)))
     have HA:=hI ha
     have hKg:g.K=Q.K:=by rw[<- HCF.out];rfl
     have hK:=HI.out.mid.ok.may.2.2.2.1
     have hlA:=HI.out.lenA
     rw[List.length_map,List.length_map] at hlA hb
     clear ha
     go_upto_region 6 with (go_at_call 45;(with_reducible refine (yA W3.heap.size d.page (Q.seq+1) d.A d.c d.d W3 HRB3.out nL).mono ?_);rintro e w9 ⟨rfl,hb9⟩;rw[HMT.out];have HB9:=hI hb9;clear hb9 r0 r1 m0 m1 m2 k3)
     have HST9:=hI (HST3.out.below HB9.out)
     have c8:=HST9.out.sc.c8
     have c9:=HST9.out.sc.c9
     have c5:=HST9.out.sc.c5
     rw[hKg] at c5
     have e1:IntKind.i64.wrap ((lv.length:Int)+(fr.length:Int))=(lv.length:Int)+(fr.length:Int):=qp _ (by omega)
     have e2:IntKind.i64.wrap (Q.K+1)=Q.K+1:=qp _ (by omega)
     have e3:IntKind.i64.wrap (Q.K+1+5)=Q.K+1+5:=qp _ (by omega)
     have e4:decide (Q.K+1+5<=(lv.length:Int)+(fr.length:Int))=false:=by rw[decide_eq_false_iff_not];omega
     clear hp0 hp0b
     go_quiet (fail)
     obtain ⟨w10,hw10⟩:∃w10,w10=w9.drewN nq:=⟨_,rfl⟩
     have HB10:Hid (Below W3.heap.size W3 w10):=hI (by rw[hw10];exact qS HB9.out _)
     have HX80:=hI ((HB10.out.block _ (qD HX8.out)).trans HX8.out)
     obtain ⟨r0,r1,-,-⟩:=qG HX80.out
     rw[<- hw10]
     clear hw10 hb hlA hK ho
     have HST10:=hI (HST3.out.below HB10.out)
     obtain ⟨hcl,htr⟩:=HST10.out.clear
     have HST11:=hI hcl
     have HTR:=hI htr
     have hsl:=HST10.out.lt
     have hse:=HST10.out.self
     have f9:w10.frozen? ⟨s,9,none⟩=false:=by
      unfold vX at hse
      simp[World.frozen?,hse]
     have c9':=HST10.out.sc.c9
     clear hse c8 c9 c5
     obtain ⟨W11,hW11⟩:∃W11,W11=w10.setCell ⟨s,9,none⟩ (.slice none 0 0):=⟨_,rfl⟩
     rw[<- hW11] at HST11 HTR
     go_upto_region 10 with fail
     rw[<- hW11]
     clear hW11 c9' f9 r0 r1
     have hne8:b8≠s:=λe=>by
      have h1:=HX80.out
      have h2:=HST10.out.self
      rw[e,h2] at h1
      simp[vX] at h1
     have hne5:b5≠s:=λe=>by
      have h1:=(HB10.out.block _ (qD HX53.out)).trans HX53.out
      have h2:=HST10.out.self
      rw[e,h2] at h1
      simp[vX] at h1
     have HX81:=hI ((HTR.out.block b8 (qD HX80.out) hne8).trans HX80.out)
     have hx510:=(HB10.out.block _ (qD HX53.out)).trans HX53.out
     have HX51:=hI ((HTR.out.block b5 (qD hx510) hne5).trans hx510)
     clear hx510
     obtain ⟨l11,f11,hpt11⟩:=HST11.out.pool.parts
     have HPT11:=hI hpt11
     clear hpt11
     have c1:=HST11.out.sc.c1
     have HFIN:Hid (∀w9,Below W11.heap.size W11 w9->zEe w s p c x g Q lv fr Al cl Af d.page d.d cc (.returned (.bool true)) w9):=hI λw9 h9=>by
      have hsf:Safe (vW x s Af) w w9:=((HSx.out.then (qC HB10.out)).mono' (G:=λb=>¬vW x s Af b) λb hb k=>hb k.1).trans ((HTR.out.mono' (G:=λb=>¬vW x s Af b) λb e k=>k.2.1 e).trans ((Turned.of_below (F:=λb=>¬vW x s Af b) h9)) λ_ _ k=>k) λ_ _ k=>k
      exact ⟨rfl,Q,D,[],none,0,_,HST11.out.below h9,HI1.out,λq hq=>HD.out q (by rw[List.append_nil] at hq;exact List.mem_append_left _ hq),HBD1.out,λb hb=>⟨.inl (.inl (.inl hb.1)),hb.2.1,λ_ e=>(by cases e)⟩,hsf,HKP.out,.inr (.inl ⟨HOV.out,rfl,by omega⟩)⟩
     have hSg:g.Sp=Q.Sp:=by rw[<- HCF.out];rfl
     have e5:=HSP.out
     go_wp2_with (first
      | (go_at_call 33;(with_reducible refine (zAb HPT11.out HOK1.out).mono ?_);rintro e w12 ⟨rfl,hb12⟩;rw[HOV.out];have HB12:=hI hb12;obtain ⟨r0,r1,-,-⟩:=qG ((hb12.block b8 (qD HX81.out)).trans HX81.out);obtain ⟨m0,m1,m2,-⟩:=qT ((hb12.block b5 (qD HX51.out)).trans HX51.out);have e00:Sem.run Tryz.prog (binOp BinOp.eql 33 (P2V (0,0)) (P2V (0,0))) w12=.ok (.bool true) w12:=zDz (0,0) (0,0) w12;have c4:=(HST11.out.sc.below hb12).c4;rw[hSg] at c4;clear hb12)
      | fail)
     go_ret
     exact HFIN.out _ (HB12.out)
    | over _ ha hb ho ho1 hi1 hc1 hs1 hbd1 =>
     have hcf1:Q1.cf=g:=by
      obtain ⟨s1,s2,s3,s4,s5,s6⟩:=hc1.same
      rw[<- HCF.out]
      unfold PS.cf
      rw[s1,s2,s3,s4,s5,s6]
     have HST3:=hI (HST2.out.safe HS8.out HP8.out (λ_ k=>k) hcf1)
     have HCF1:=hI hcf1
     have HOK1:=hI hi1.mid.ok
     have HOV:Hid (Q1.over=true):=hI ho1
     have HI1:Hid (Inv Q1 D (qY lv) []):=hI hi1
     have HKP:Hid (Keeps Q.S Q1.S):=hI hc1.keeps
     have HBD1:Hid (Bud Q1 cc):=hI hbd1
     have HSQ:Hid (Q1.seq=Q.seq+1):=hI hs1
     have HSP:Hid (decide (Q.Sp<Q.bads)=false):=hI (by have:=ho;unfold PS.over at this;exact this)
     obtain ⟨dr,dp,de,t,hfit⟩:=zSo (c:=cc * 1000000) HI.out.mid hi1 (HBud.out.less (Nat.le_succ cc)).low hbd1.low hc1
     have HFIT:=hI hfit
     clear hfit hcf1 ho1 hi1 hc1 hs1 hbd1
     have hp0:¬d.page=0:=λk=>ha (.inl k)
     have hp0b:(d.page==0)=false:=by simpa using hp0
     have HMT:Hid (decide (vg d.page (Q.seq+1) d.d)=true):=hI (decide_eq_true (Classical.not_not.1 λk=>ha (.inr k)))
     have HA:=hI ha
     have hKg:g.K=Q.K:=by rw[<- HCF.out];rfl
     have hK:=HI.out.mid.ok.may.2.2.2.1
     have hlA:=HI.out.lenA
     rw[List.length_map,List.length_map] at hlA hb
     clear ha
     go_upto_region 6 with (go_at_call 45;(with_reducible refine (yA W3.heap.size d.page (Q.seq+1) d.A d.c d.d W3 HRB3.out nL).mono ?_);rintro e w9 ⟨rfl,hb9⟩;rw[HMT.out];have HB9:=hI hb9;clear hb9 r0 r1 m0 m1 m2 k3)
     have HST9:=hI (HST3.out.below HB9.out)
     have c8:=HST9.out.sc.c8
     have c9:=HST9.out.sc.c9
     have c5:=HST9.out.sc.c5
     rw[hKg] at c5
     have e1:IntKind.i64.wrap ((lv.length:Int)+(fr.length:Int))=(lv.length:Int)+(fr.length:Int):=qp _ (by omega)
     have e2:IntKind.i64.wrap (Q.K+1)=Q.K+1:=qp _ (by omega)
     have e3:IntKind.i64.wrap (Q.K+1+5)=Q.K+1+5:=qp _ (by omega)
     have e4:decide (Q.K+1+5<=(lv.length:Int)+(fr.length:Int))=false:=by rw[decide_eq_false_iff_not];omega
     clear hp0 hp0b
     go_quiet (fail)
     obtain ⟨w10,hw10⟩:∃w10,w10=w9.drewN nq:=⟨_,rfl⟩
     have HB10:Hid (Below W3.heap.size W3 w10):=hI (by rw[hw10];exact qS HB9.out _)
     have HX80:=hI ((HB10.out.block _ (qD HX8.out)).trans HX8.out)
     obtain ⟨r0,r1,-,-⟩:=qG HX80.out
     rw[<- hw10]
     clear hw10 hb hlA hK ho
     have HST10:=hI (HST3.out.below HB10.out)
     obtain ⟨hcl,htr⟩:=HST10.out.clear
     have HST11:=hI hcl
     have HTR:=hI htr
     have hsl:=HST10.out.lt
     have hse:=HST10.out.self
     have f9:w10.frozen? ⟨s,9,none⟩=false:=by
      unfold vX at hse
      simp[World.frozen?,hse]
     have c9':=HST10.out.sc.c9
     clear hse c8 c9 c5
     obtain ⟨W11,hW11⟩:∃W11,W11=w10.setCell ⟨s,9,none⟩ (.slice none 0 0):=⟨_,rfl⟩
     rw[<- hW11] at HST11 HTR
     go_upto_region 10 with fail
     rw[<- hW11]
     clear hW11 c9' f9 r0 r1
     have hne8:b8≠s:=λe=>by
      have h1:=HX80.out
      have h2:=HST10.out.self
      rw[e,h2] at h1
      simp[vX] at h1
     have hne5:b5≠s:=λe=>by
      have h1:=(HB10.out.block _ (qD HX53.out)).trans HX53.out
      have h2:=HST10.out.self
      rw[e,h2] at h1
      simp[vX] at h1
     have HX81:=hI ((HTR.out.block b8 (qD HX80.out) hne8).trans HX80.out)
     have hx510:=(HB10.out.block _ (qD HX53.out)).trans HX53.out
     have HX51:=hI ((HTR.out.block b5 (qD hx510) hne5).trans hx510)
     clear hx510
     obtain ⟨l11,f11,hpt11⟩:=HST11.out.pool.parts
     have HPT11:=hI hpt11
     clear hpt11
     have c1:=HST11.out.sc.c1
     have HFIN:Hid (∀w9,Below W11.heap.size W11 w9->zEe w s p c x g Q lv fr Al cl Af d.page d.d cc (.returned (.bool true)) w9):=hI λw9 h9=>by
      have hsf:Safe (vW x s Af) w w9:=((HSx.out.then (qC HB10.out)).mono' (G:=λb=>¬vW x s Af b) λb hb k=>hb k.1).trans ((HTR.out.mono' (G:=λb=>¬vW x s Af b) λb e k=>k.2.1 e).trans ((Turned.of_below (F:=λb=>¬vW x s Af b) h9)) λ_ _ k=>k) λ_ _ k=>k
      exact ⟨rfl,Q1,D,[],none,0,_,HST11.out.below h9,HI1.out,λq hq=>HD.out q (by rw[List.append_nil] at hq;exact List.mem_append_left _ hq),HBD1.out,λb hb=>⟨.inl (.inl (.inl hb.1)),hb.2.1,λ_ e=>(by cases e)⟩,hsf,HKP.out,.inr (.inl ⟨HOV.out,rfl,Int.le_of_eq HSQ.out⟩)⟩
     have hSg:g.Sp=Q.Sp:=by rw[<- HCF.out];rfl
     have e5:=HSP.out
     go_wp2_with (first
      | (go_at_call 33;(with_reducible refine (zAb HPT11.out HOK1.out).mono ?_);rintro e w12 ⟨rfl,hb12⟩;rw[HOV.out];have HB12:=hI hb12;obtain ⟨r0,r1,-,-⟩:=qG ((hb12.block b8 (qD HX81.out)).trans HX81.out);obtain ⟨m0,m1,m2,-⟩:=qT ((hb12.block b5 (qD HX51.out)).trans HX51.out);have e00:Sem.run Tryz.prog (binOp BinOp.eql 33 (P2V (0,0)) (P2V (0,0))) w12=.ok (.bool true) w12:=zDz (0,0) (0,0) w12;have c4:=(HST11.out.sc.below hb12).c4;rw[hSg] at c4;clear hb12)
      | (go_at_call 42;(with_reducible refine (zCr (HST11.out.sc.below HB12.out) HCF1.out (HPT11.out.below HB12.out) HOK1.out Q.S.rd Q.S.pr Q.S.er Q.bads dr dp de t HFIT.out).mono ?_);rintro e w13 ⟨rfl,hb13⟩;have HB13:=hI hb13;clear hb13)
      | fail)
     go_ret
     exact HFIN.out _ ((HB12.out.trans (HB13.out.mono HB12.out.size)))
    | ok _ ha hb ho ho1 hi1 hc1 hs1 hbd1 =>
     have hcf1:Q1.cf=g:=by
      obtain ⟨s1,s2,s3,s4,s5,s6⟩:=hc1.same
      rw[<- HCF.out]
      unfold PS.cf
      rw[s1,s2,s3,s4,s5,s6]
     have HST3:=hI (HST2.out.safe HS8.out HP8.out (λ_ k=>k) hcf1)
     have HCF1:=hI hcf1
     have HOK1:=hI hi1.mid.ok
     have HOV:Hid (Q1.over=false):=hI ho1
     have HI1:=hI hi1
     have HKP:Hid (Keeps Q.S Q1.S):=hI hc1.keeps
     have HBD1:Hid (Bud Q1 cc):=hI hbd1
     have HSQ:Hid (Q1.seq=Q.seq+1):=hI hs1
     obtain ⟨dr,dp,de,t,hfit⟩:=zSo (c:=cc * 1000000) (HI.out.mid.upd (d:=d.d) (HI.out.new d.page)) hi1 (HBud.out.less (Nat.le_succ cc)).low hbd1.low hc1
     have HFIT:=hI hfit
     clear hfit hcf1 ho1 hi1 hc1 hs1 hbd1
     have hp0:¬d.page=0:=λk=>ha (.inl k)
     have hp0b:(d.page==0)=false:=by simpa using hp0
     have HMT:Hid (decide (vg d.page (Q.seq+1) d.d)=true):=hI (decide_eq_true (Classical.not_not.1 λk=>ha (.inr k)))
     have HA:=hI ha
     have hKg:g.K=Q.K:=by rw[<- HCF.out];rfl
     have hK:=HI.out.mid.ok.may.2.2.2.1
     have hlA:=HI.out.lenA
     rw[List.length_map,List.length_map] at hlA hb
     clear ha
     go_upto_region 6 with (go_at_call 45;(with_reducible refine (yA W3.heap.size d.page (Q.seq+1) d.A d.c d.d W3 HRB3.out nL).mono ?_);rintro e w9 ⟨rfl,hb9⟩;rw[HMT.out];have HB9:=hI hb9;clear hb9 r0 r1 m0 m1 m2 k3)
     have HST9:=hI (HST3.out.below HB9.out)
     have c8:=HST9.out.sc.c8
     have c9:=HST9.out.sc.c9
     have c5:=HST9.out.sc.c5
     rw[hKg] at c5
     have e1:IntKind.i64.wrap ((lv.length:Int)+(fr.length:Int))=(lv.length:Int)+(fr.length:Int):=qp _ (by omega)
     have e2:IntKind.i64.wrap (Q.K+1)=Q.K+1:=qp _ (by omega)
     have e3:IntKind.i64.wrap (Q.K+1+5)=Q.K+1+5:=qp _ (by omega)
     have e4:decide (Q.K+1+5<=(lv.length:Int)+(fr.length:Int))=false:=by rw[decide_eq_false_iff_not];omega
     clear hp0 hp0b
     go_quiet (fail)
     obtain ⟨w10,hw10⟩:∃w10,w10=w9.drewN nq:=⟨_,rfl⟩
     have HB10:Hid (Below W3.heap.size W3 w10):=hI (by rw[hw10];exact qS HB9.out _)
     have HX80:=hI ((HB10.out.block _ (qD HX8.out)).trans HX8.out)
     obtain ⟨r0,r1,-,-⟩:=qG HX80.out
     rw[<- hw10]
     clear hb hlA hK ho c8 c9 c5
     have HST10:=hI (HST3.out.below HB10.out)
     obtain ⟨W4,hW4⟩:∃W4,W4=w10:=⟨_,rfl⟩
     rw[<- hW4] at HST10 HB10 HX80 r0 r1 hw10
     have HRB4:Hid (RB W4 W4.heap.size d.A d.d):=hI ((HRB3.out.below HB10.out nL).mono HB10.out.size)
     have HXC4:=hI ((HB10.out.block _ (qD HXC3.out)).trans HXC3.out)
     have HX54:=hI ((HB10.out.block _ (qD HX53.out)).trans HX53.out)
     have HX74:=hI ((HB10.out.block _ (qD HX73.out)).trans HX73.out)
     obtain ⟨-,-,-,-,k4,-⟩:=zEk HXC4.out
     have c9:=HST10.out.sc.c9
     obtain ⟨i0,hi0,hz0,hs0,hby0⟩:=info_parts vP
     have HE:Hid ((W4.alloc (.cells #[] 5)).drew.ownsRow W4.heap.size 5 1 (.slice (some ⟨W4.heap.size,0,none⟩) 0 0) 0 []):=hI (World.ownsRow.drew (World.ownsRow_lit (base:=W4.heap.size) (e:=5) (size:=1) W4 #[] 0 nL (by omega) rfl))
     have HBE:Hid (Below W4.heap.size W4 (W4.alloc (.cells #[] 5)).drew):=hI (bR.alloc nL _).drew
     have HNW:Hid (∀ad,d.A=some ad->∀j u,(d.d.map ub)[j]? = some u->(W4.alloc (.cells #[] 5)).drew.cell? (ad.add j)=some u):=hI λad e j u hu=>by
      have hj:j<d.d.length:=by
       rcases Nat.lt_or_ge j d.d.length with k | k
       . exact k
       . rw[List.getElem?_eq_none (by simpa using k)] at hu;cases hu
      obtain ⟨ad',e',_,hc⟩:=(HRB4.out.below HBE.out nL) (by omega)
      rw[e] at e'
      obtain rfl:=Option.some.inj e'
      rw[hc j hj]
      rw[List.getElem?_map,List.getElem?_eq_getElem hj] at hu
      exact hu
     have HUB:Hid (∀u∈d.d.map ub,u.oneCell'=true):=hI λu hu=>by obtain ⟨b,_,rfl⟩:=List.mem_map.1 hu;rfl
     have hfrl:fr.length<=1000:=by have h9:=HI.out.lenA;have:=HI.out.mid.ok.may.2.2.2.1;rw[List.length_map,List.length_map] at h9;omega
     have hs4:=HST10.out.lt
     have hsd:=(HST10.out.sc.below (bR.alloc nL (.cells #[] 5))).c9
     have hwc4:w.heap.size<W4.heap.size:=qD HXC4.out
     have hb84:b8<W4.heap.size:=qD HX80.out
     go_upto_region 14 with fail
     rw[<- hW4]
     clear hW4 hw10
     go_cut [] from 128 to 142 (λwx=>∃(Af':Option Addr) (cf':Nat) (A5:Option Addr) (c5:Nat) (y:Nat->Prop),StAt wx s p c y g Q1 lv (fr++[⟨(d.page,Q.seq+1),d.d,A5,c5⟩]) Al cl Af' cf'/\(∀b,vW x s Af b->vW y s Af' b)/\Safe (λb=>b≠s/\∀ad,Af=some ad->b≠ad.block) W4 wx)
     case first=>as_aux_lemma =>
      go_region_law (first
       | (refine zFg rfl (.tmp 134) (.tmp 136) 34 rfl W4.heap.size 5 i0 _ 1 1 Tryz.underlying34 hi0 hz0 hs0 hby0 rfl (by decide) (.slice (some ⟨W4.heap.size,0,none⟩) 0 0) 0 [] rfl HE.out d.A d.d.length d.c (d.d.map ub) rfl (by simp) HDN.out HNW.out HUB.out (by unfold maxLen;omega) (by omega) HBE.out.size ?_;intro q5 cap5 w5 hown hgr;have HO5:Hid (w5.ownsRow W4.heap.size 5 1 (.slice q5 d.d.length cap5) d.d.length (d.d.map ub)):=hI (by simpa using hown);have HB5:Hid (Below W4.heap.size W4 w5):=hI (HBE.out.grown hgr HBE.out.size λk e=>(World.ownsRow.lt HE.out k e).1);have c9':=(HST10.out.sc.below HB5.out).c9;obtain ⟨r0',r1',-,-⟩:=qG ((HB5.out.block _ (qD HX80.out)).trans HX80.out);have hlt5:=HB5.out.size;have hs5:s<w5.heap.size:=Nat.lt_of_lt_of_le hs4 hlt5;have hb85:b8<w5.heap.size:=Nat.lt_of_lt_of_le hb84 hlt5;have HB6:Hid (Below W4.heap.size W4 (w5.alloc (.cells #[.int .i64 d.page,.int .i64 (Q.seq+1),.slice q5 d.d.length cap5] 36))):=hI (HB5.out.alloc HB5.out.size _);clear hown hgr)
       | (refine zMa rfl (.tmp 132) (.tmp 139) rfl 0 (.slice Af fr.length cf) fr.length fr 1 [⟨(d.page,Q.seq+1),d.d,q5,cap5⟩] ⟨w5.heap.size,0,none⟩ 1 rfl rfl rfl rfl (yS HST10.out.fresh HB6.out) (zBx w5 ⟨(d.page,Q.seq+1),d.d,q5,cap5⟩ rfl) (by omega) (Nat.zero_le _) ?_;intro q7 cap7 w7 hown hgr hat;have HPU:=hI (HST10.out.push ⟨(d.page,Q.seq+1),d.d,q5,cap5⟩ HB6.out hown hgr hat ⟨cb5 HO5.out hgr (λb hb=>⟨Below.block (B:=w5.heap.size) (bR.alloc nL _) b hb,by simp;omega⟩) (λb e=>HST10.out.away_lt e),by show d.d.length<=2000;omega⟩);have hse7:=HPU.out.2.2.2.trans HST10.out.self;have f9:w7.frozen? ⟨s,9,none⟩=false:=(by unfold vX at hse7;simp[World.frozen?,hse7]);have c97:w7.cell? ⟨s,9,none⟩=some (.slice Af fr.length cf):=(by unfold vX at hse7;simp[World.cell?,hse7]);clear hown hgr hat hse7))
      all_goals
       go_wp2_with fail
       go_meet
       case rel=>exact ⟨q7,cap7,q5,cap5,_,HPU.out.1,λb hb=>HPU.out.2.1 b ⟨.inl (.inl hb.1),hb.2⟩,HPU.out.2.2.1.mono' λb k=>by rintro ⟨k1,k2⟩;rcases k with k | ⟨ad,k3,k4⟩;exact k1 k;exact k2 ad k3 k4⟩
     case rest =>
      obtain ⟨Af',cf',A5,c5,y,hst,haw,hsf⟩:=hcut
      obtain ⟨W5,rfl⟩:∃W5,W5=wc:=⟨_,rfl⟩
      have HST5:=hI hst
      have HAW:=hI haw
      have HSF:=hI hsf
      have hAf:∀b,w.heap.size<=b->∀ad,Af=some ad->b≠ad.block:=λb hb ad e e2=>by
       have:=HT.out.pool.there _ (HT.out.freshs ad e).1
       omega
      have hsw:=HT.out.lt
      have hw0:w.heap.size<=W.heap.size:=HBW.out.size
      have h5w:w.heap.size<=b5:=Nat.le_trans hw0 HB5.out
      have h7w:w.heap.size<=b7:=by have:=HB7.out;have:=HB1.out.size;omega
      have h8w:w.heap.size<=b8:=by have:=HN8.out;have:=HB2.out.size;omega
      have HX55:=hI ((HSF.out.block (qD HX54.out) ⟨by omega,hAf b5 h5w⟩).trans HX54.out)
      have HX75:=hI ((HSF.out.block (qD HX74.out) ⟨by omega,hAf b7 h7w⟩).trans HX74.out)
      have HX85:=hI ((HSF.out.block (qD HX80.out) ⟨by omega,hAf b8 h8w⟩).trans HX80.out)
      clear r0 r1 k4 c9 hst haw hsf hAf h5w h7w h8w hw0 hsw hsd hs4 hwc4 hb84
      obtain ⟨r0,r1,-,-⟩:=qG HX85.out
      obtain ⟨m0,m1,-,-⟩:=qT HX75.out
      have e11:Sem.run Tryz.prog (binOp BinOp.eql 33 (P2V (d.page,Q.seq+1)) (P2V (d.page,Q.seq+1))) W5=.ok (.bool true) W5:=(zDz (d.page,Q.seq+1) (d.page,Q.seq+1) W5).trans (by rw[decide_eq_true (p:=(d.page,Q.seq+1)=(d.page,Q.seq+1)) rfl])
      have c1:=HST5.out.sc.c1
      obtain ⟨l11,f11,hpt11⟩:=HST5.out.pool.parts
      have HPT11:=hI hpt11
      clear hpt11
      have HDD:Hid (∀q∈lv++(fr++[(⟨(d.page,Q.seq+1),d.d,A5,c5⟩:Pg)]),zTp D (d.page,Q.seq+1) d.d q.r=q.d):=hI λq hq=>by
       rw[<- List.append_assoc] at hq
       rcases List.mem_append.1 hq with k | k
       . have hr:q.r∈qY lv++qY fr:=by rw[<- List.map_append];exact List.mem_map_of_mem k
         have hne:q.r≠(d.page,Q.seq+1):=λe=>by
          have:=HI.out.seqs _ hr
          rw[e] at this
          have:Q.seq+1<=Q.seq:=this
          omega
         exact (if_neg hne).trans (HD.out q k)
       . rw[List.mem_singleton] at k
         subst k
         exact if_pos rfl
      have HFIN:Hid (∀w9,Below W5.heap.size W5 w9->zEe w s p c x g Q lv fr Al cl Af d.page d.d cc (.returned (.bool true)) w9):=hI λw9 h9=>by
       have hsa:Safe (vW x s Af) w w9:=((HSx.out.then (qC HB10.out)).mono' (G:=λb=>¬vW x s Af b) λb hb k=>hb k.1).trans (Turned.trans (HSF.out.mono' (G:=λb=>¬vW x s Af b) λb e k=>e k.2) (Turned.of_below (F:=λb=>¬vW x s Af b) h9) λ_ _ k=>k) λ_ _ k=>k
       refine ⟨rfl,Q1,zTp D (d.page,Q.seq+1) d.d,fr++[⟨(d.page,Q.seq+1),d.d,A5,c5⟩],Af',cf',_,HST5.out.below h9,by have:=HI1.out;unfold qY at this ⊢;rw[List.map_append];exact this,HDD.out,HBD1.out,λb hb=>⟨.inl (HAW.out b hb).1,(HAW.out b hb).2⟩,hsa,HKP.out,.inr (.inr ⟨HOV.out,HSQ.out,A5,c5,rfl⟩)⟩
      go_wp2_with (first
       | (go_at_call 33;(with_reducible refine (zAb HPT11.out HOK1.out).mono ?_);rintro e w12 ⟨rfl,hb12⟩;rw[HOV.out];have HB12:=hI hb12;obtain ⟨m0,m1,m2,-⟩:=qT ((hb12.block b5 (qD HX55.out)).trans HX55.out);clear hb12)
       | (go_at_call 42;(with_reducible refine (zCr (HST5.out.sc.below HB12.out) HCF1.out (HPT11.out.below HB12.out) HOK1.out Q.S.rd Q.S.pr Q.S.er Q.bads dr dp de t HFIT.out).mono ?_);rintro e w13 ⟨rfl,hb13⟩;have HB13:=hI hb13;clear hb13)
       | fail)
      go_ret
      exact HFIN.out _ (HB12.out.trans (HB13.out.mono HB12.out.size))
end
end Go.Proofs.YtinkkmlbhkfmnaaGreat
