/- A part of what the last text proves. -/
import Derived.Test.YtinkkmlbhkfmnaaGreatQLc
import Derived.Test.YtinkkmlbhkfmnaaGreatQGr
set_option maxRecDepth 100000
set_option maxHeartbeats 40000000
namespace Go.Proofs.YtinkkmlbhkfmnaaGreat
open Go.RowKit
attribute [local go_sem] Oper.semAt_some
theorem zFg {P:Program} {w:World} {ops:Array Oper} {o:Oper} {a:Act} {K:Act->World->Prop} {Q:Exit->Act->World->Prop} {E:Prop} (By:o.guard=none) (s x:Operand) (t:TypeId)
 (ho:o.op=.call { callee:=.builtin .append,args:=#[s,x],argTypes:=#[t,t] })
 (base:Nat) (e:TypeId) (i:TypeInfo) (z:Value) (size bytes:Nat) (ht:P.underlying t=some (.slice e)) (hi:P.info? e=some i) (hz:i.zero=some z)
 (hsize:i.size=size) (Cr:i.bytes=bytes) (Cs:z.cells.size=size) (hsz:0<size)
 (v:Value) (n:Nat) (xs:List Value) (hs:a.eval s=v) (hown:w.ownsRow base e size v n xs)
 (A:Option Addr) (m c:Nat) (news:List Value) (hx:a.eval x=.slice A m c) (hl:news.length=m * size) (hA:A=none->m=0/\c=0) (hnews:∀ad,A=some ad->∀j u,news[j]? = some u->w.cell? (ad.add j)=some u) (h1:∀u∈news,u.oneCell'=true)
 (h63:n+m<=maxLen) (hbytes:(n+m) * bytes<=140737488355328) (hbase:base<=w.heap.size)
 (h:∀q cap w',w'.ownsRow base e size (.slice q (n+m) cap) (n+m) (xs++news)->w.grownBy w' v.ownBlock->K (a.put o.dst (.slice q (n+m) cap)) w') :
 if Region.wanted o (yielded ops a.tmps)=true then Oper.wp P o a w K Q else E:=by
 have hw:Region.wanted o (yielded ops a.tmps)=true:=by simp[Region.wanted,By]
 rw[if_pos hw]
 cases A with
 | some ad =>
  obtain ⟨v',w',hr,h2,h3,_⟩:=run_append_own (P:=P) (w:=w) base t o.type e i z size bytes ht hi hz hsize Cr Cs hsz v n xs hown ad m c news hl (hnews ad rfl) h1 h63 hbytes hbase
  obtain ⟨q,cap,rfl,_⟩:=qN h2
  unfold Oper.wp execOp
  simp only[ho,resolve,invoke,builtin,Sem.run_bind,Sem.run_pure,Result.andThen_ok,List.map_toArray,List.map_cons,List.map_nil,hs,hx,hr]
  exact h q cap w' h2 h3
 | none =>
  obtain ⟨rfl,rfl⟩:=hA rfl
  have Bz:news = []:=List.eq_nil_of_length_eq_zero (by simpa using hl)
  subst Bz
  have hr:=run_append_owned_none (P:=P) (w:=w) base t o.type e i size ht hi v n xs hown
  obtain ⟨q,cap,rfl,_⟩:=qN hown
  unfold Oper.wp execOp
  simp only[ho,resolve,invoke,builtin,Sem.run_bind,Sem.run_pure,Result.andThen_ok,List.map_toArray,List.map_cons,List.map_nil,hs,hx,hr]
  exact h q cap w (by simpa using hown) ⟨rfl,rfl,rfl,Nat.le_refl _,λ_ _ _=>rfl⟩
theorem zMa {w:World} {ops:Array Oper} {o:Oper} {a:Act} {K:Act->World->Prop} {Q:Exit->Act->World->Prop} {E:Prop} (By:o.guard=none) (s x:Operand) (ho:o.op=.call { callee:=.builtin .append,args:=#[s,x],argTypes:=#[31,31] })
 (base:Nat) (v:Value) (n:Nat) (xs:List Pg) (m:Nat) (l:List Pg) (ad:Addr) (c:Nat) (hs:a.eval s=v) (hx:a.eval x=.slice (some ad) m c) (hn:xs.length=n) (hm:l.length=m) (hown:GOwn w base v xs) (hl:GLies w (some ad) l) (h63:n+m<=1000000) (hbase:base<=w.heap.size)
 (h:∀q cap w',GOwn w' base (.slice q (n+m) cap) (xs++l)->w.grownBy w' v.ownBlock->((Value.slice q (n+m) cap).ownBlock=v.ownBlock\/(Value.slice q (n+m) cap).ownBlock=some w.heap.size)->K (a.put o.dst (.slice q (n+m) cap)) w') :
 if Region.wanted o (yielded ops a.tmps)=true then Oper.wp Tryz.prog o a w K Q else E:=by
 subst hn
 subst hm
 rw[if_pos (by simp[Region.wanted,By])]
 obtain ⟨i,hi,hz,hsz,hb⟩:=zDo
 obtain ⟨v',w',hr,h2,h3,-,h5⟩:=run_append_own_at (P:=Tryz.prog) w base 31 o.type 36 i _ 3 40 Tryz.underlying31 hi hz hsz hb rfl (by omega) v xs.length (vm xs) hown ad l.length c (vm l) (zBd l) (hl.cells rfl) (λu hu=>zDu hu) (by unfold maxLen;omega) (by omega) hbase
 obtain ⟨q,cap,rfl,_⟩:=qN h2
 unfold Oper.wp execOp
 simp only[ho,resolve,invoke,builtin,Sem.run_bind,Sem.run_pure,Result.andThen_ok,List.map_toArray,List.map_cons,List.map_nil,hs,hx,hr]
 exact h q cap w' (by unfold GOwn;rw[List.length_append,zDv];exact h2) h3 h5
section
variable {w w':World} {s p c l f:Nat} {x k:Nat->Prop} {g:Cf} {Q Q':PS} {D:Dat} {lv fr:List Pg} {Al Af:Option Addr} {cl cf:Nat}
theorem zOm {W V:World} (h:∀V,Below W.heap.size W V->Parts V p c l f Q) (hV:Below W.heap.size W V):Calls Tryz.prog 40 #[.pointer (some ⟨c,0,none⟩)] V λe w'=>e=.returned (.agg #[.int .i64 Q.S.rd,.int .i64 Q.S.pr,.int .i64 Q.S.er])/\Below W.heap.size W w'/\Below V.heap.size V w':=by
 refine (zNv (h V hV).chip).mono ?_
 rintro e w' ⟨rfl,hb⟩
 exact ⟨rfl,hV.trans (hb.mono hV.size),hb⟩
theorem zOn {W V:World} (h:∀V,Below W.heap.size W V->Parts V p c l f Q) (ok:Ok Q) (hV:Below W.heap.size W V):Calls Tryz.prog 32 #[.pointer (some ⟨p,0,none⟩)] V λe w'=>e=.returned (.int .i64 Q.bads)/\Below W.heap.size W w'/\Below V.heap.size V w':=by
 refine (zMm (h V hV) ok).mono ?_
 rintro e w' ⟨rfl,hb⟩
 exact ⟨rfl,hV.trans (hb.mono hV.size),hb⟩
theorem seq_from {W V:World} (h:∀V,Below W.heap.size W V->Parts V p c l f Q) (hV:Below W.heap.size W V):Calls Tryz.prog 31 #[.pointer (some ⟨p,0,none⟩)] V λe w'=>e=.returned (.int .i64 Q.seq)/\V=w':=q_seq (h V hV)
theorem put_from {W V:World} {y:Nat->Prop} {A:Option Addr} {m:Nat} {page:Int} {d:List UInt8} {er:Int} {r:P2} {Q1:PS} (hP:Pool W p c y Q) (ok:Ok Q) (hV:Below W.heap.size W V) (hd:RB W W.heap.size A d) (hm:Q.put 100 page d=some (er,r,Q1)) :
 Calls Tryz.prog 25 #[.pointer (some ⟨p,0,none⟩),.int .i64 page,.slice A d.length m] V λe w'=>e=.returned (.tuple #[P2V r,.int .i64 er])/\Pool w' p c (λb=>y b\/New W V b) Q1/\Safe y W w'/\Safe (λb=>y b\/New W V b) V w':=by
 refine (q_put 100 page A m d (hP.more hV) ok ((hd.below hV nL).mono hV.size) hm).mono ?_
 rintro e w' ⟨rfl,h1,h2⟩
 exact ⟨rfl,h1,(qC hV).then' h2 λ_ _ k=>.inl k,h2⟩
theorem zTq (X Y:Nat) (h:Y<=X):(4611686018427387904:Int) - (X:Int)<=4611686018427387904 - (Y:Int):=by omega
theorem Bud.less {c c':Nat} (h:Bud Q c) (hc:c'<=c):Bud Q c':=⟨h.low.spent (Spent.refl _) ⟨by omega,by omega,by omega⟩,λho b hb=>by
 have h7:=h.cnt ho b hb
 refine ⟨h7.1,Int.le_trans h7.2 ?_⟩
 have e9:c' * 10000<=(c) * 10000:=Nat.mul_le_mul_right _ hc
 exact zTq _ _ e9⟩
def PutHow (Q Q':PS) (lv fr fr':List Pg) (page:Int) (d:List UInt8):Prop :=
 (Q'=Q/\fr'=fr/\((page=0\/¬vg page (Q.seq+1) d)\/Q.K+6<=(lv.length:Int)+fr.length))\/(Q'.over=true/\fr' = []/\Q'.seq<=Q.seq+1)\/(Q'.over=false/\Q'.seq=Q.seq+1/\∃A c,fr'=fr++[⟨(page,Q.seq+1),d,A,c⟩])
def Clr (b:Nat) (lv fr:List Pg) (Al Af:Option Addr):Prop:=(∀ad,Al=some ad->ad.block≠b)/\(∀ad,Af=some ad->ad.block≠b)/\∀q∈lv++fr,0<q.d.length->∀ad,q.A=some ad->ad.block≠b
theorem Clr.clear {b:Nat} {lv fr:List Pg} {Al Af:Option Addr} (h:Clr b lv fr Al Af):Clr b lv [] Al none:=⟨h.1,λ_ e=>(by cases e),λq hq=>h.2.2 q (by rw[List.append_nil] at hq;exact List.mem_append_left _ hq)⟩
def PutPostC (w:World) (s p c:Nat) (x:Nat->Prop) (g:Cf) (Q:PS) (lv fr:List Pg) (Al:Option Addr) (cl:Nat) (Af:Option Addr) (page:Int) (d:List UInt8) (cc:Nat) (e:Ending) (w':World):Prop :=
 e=.returned (.bool true)/\∃Q' D' fr' Af' cf' y,StAt w' s p c y g Q' lv fr' Al cl Af' cf'/\Inv Q' D' (qY lv) (qY fr')/\(∀q∈lv++fr',D' q.r=q.d)/\Bud Q' cc/\(∀b,vW x s Af b->vW y s Af' b)/\Safe (vW x s Af) w w'/\Keeps Q.S Q'.S/\PutHow Q Q' lv fr fr' page d/\∀b,b<w.heap.size->Clr b lv fr Al Af->Clr b lv fr' Al Af'
theorem StAt.clear (h:StAt w s p c x g Q lv fr Al cl Af cf):StAt (w.setCell ⟨s,9,none⟩ (.slice none 0 0)) s p c x g Q lv [] Al cl none 0/\Turned (λb=>b=s) w (w.setCell ⟨s,9,none⟩ (.slice none 0 0)):=by
 have ht:Turned (λb=>b=s) w (w.setCell ⟨s,9,none⟩ (.slice none 0 0)):=(Turned.refl (λb=>b=s) w).setCell (p:=⟨s,9,none⟩) (λ_=>rfl) _
 have hb:∀b,b<w.heap.size->b≠s->(w.setCell ⟨s,9,none⟩ (.slice none 0 0)).heap[b]? = w.heap[b]? := λb hl hn=>ht.block b hl hn
 refine ⟨⟨h.pool.turned (ht.mono' λb e=>by rw[e];exact h.hx),h.hx,?_,h.cfg,λhn=>?_,λad e=>⟨(h.lives ad e).1,(h.lives ad e).2.1,λ_ e2=>(by cases e2)⟩,h.lnone,zEv _ _,λad e=>(by cases e),λq hq=>?_⟩,ht⟩
 . have:=heap_setCell_same w s 9 _ _ (.slice none 0 0) h.self
   rw[this]
   rfl
 . obtain ⟨B,o,e,hB,hc⟩:=h.live hn
   have hk:=hb B hB (h.lives _ e).2.1
   exact ⟨B,o,e,Nat.lt_of_lt_of_le hB ht.size,λj hj=>⟨(World.cell?_of_block (a:=⟨B,o+j * 3,none⟩) hk).trans (hc j hj).1,(World.cell?_of_block (a:=⟨B,o+j * 3+1,none⟩) hk).trans (hc j hj).2.1,(World.cell?_of_block (a:=⟨B,o+j * 3+2,none⟩) hk).trans (hc j hj).2.2⟩⟩
 . have hq':q∈lv++fr:=by
    rw[List.append_nil] at hq
    exact List.mem_append_left _ hq
   obtain ⟨h1,h2⟩:=h.data q hq'
   exact ⟨h1.keep (λb hb'=>hb b (h.pool.there b hb'.1) hb'.2.1) λb hb'=>⟨hb'.1,hb'.2.1,λ_ e=>(by cases e)⟩,h2⟩
theorem StAt.away_lt (h:StAt w s p c x g Q lv fr Al cl Af cf) {b:Nat} (e:(Value.slice Af fr.length cf).ownBlock=some b):b<w.heap.size:=by
 cases Af with
 | none=>have e':(none:Option Nat)=some b:=e;cases e'
 | some ad =>
  have e':some ad.block=some b:=e
  rw[<-Option.some.inj e']
  exact h.pool.there _ (h.freshs ad rfl).1
theorem cb5 {W4 w5 W6 w7:World} {q5:Option Addr} {cap5:Nat} {dd:List UInt8} {v:Value} (h:w5.ownsRow W4.heap.size 5 1 (.slice q5 dd.length cap5) dd.length (dd.map ub)) (hg:W6.grownBy w7 v.ownBlock) (hz:∀b,b<w5.heap.size->W6.heap[b]? = w5.heap[b]? /\ b<W6.heap.size) (hv:∀b,v.ownBlock=some b->b<W4.heap.size):CB w7 (λb=>W4.heap.size<=b/\b<W6.heap.size) q5 dd:=λhn=>by
 obtain ⟨ad,ea,_,hc⟩:=(RB.of_own h) hn
 subst ea
 have hl:=World.ownsRow.lt h ad.block rfl
 refine ⟨ad,rfl,⟨hl.1,(hz _ hl.2).2⟩,λj hj=>?_⟩
 have hk:w7.heap[ad.block]? = w5.heap[ad.block]? := (hg.block _ (hz _ hl.2).2 λe=>by have:=hv _ e.symm;omega).trans (hz _ hl.2).1
 have hk':w7.heap[(ad.add j).block]? = w5.heap[(ad.add j).block]? :=by
  have e:(ad.add j).block=ad.block:=by unfold Addr.add;split<;>rfl
  rw[e];exact hk
 exact (World.cell?_of_block hk').trans (hc j hj)
theorem StAt.push {W4 W6 w7:World} (h:StAt W4 s p c x g Q lv fr Al cl Af cf) (pg:Pg) {q:Option Addr} {cap:Nat} (AI:Below W4.heap.size W4 W6) (hown:GOwn w7 0 (.slice q (fr.length+1) cap) (fr++[pg])) (hg:W6.grownBy w7 (Value.slice Af fr.length cf).ownBlock) (Bq:(Value.slice q (fr.length+1) cap).ownBlock=(Value.slice Af fr.length cf).ownBlock\/(Value.slice q (fr.length+1) cap).ownBlock=some W6.heap.size) (hd:CB w7 (λb=>W4.heap.size<=b/\b<W6.heap.size) pg.A pg.d/\pg.d.length<=2000) :
 StAt (w7.setCell ⟨s,9,none⟩ (.slice q (fr.length+1) cap)) s p c (λb=>x b\/New W4 (w7.setCell ⟨s,9,none⟩ (.slice q (fr.length+1) cap)) b) g Q lv (fr++[pg]) Al cl q cap/\(∀b,vW x s Af b->vW (λb=>x b\/New W4 (w7.setCell ⟨s,9,none⟩ (.slice q (fr.length+1) cap)) b) s q b)/\Turned (λb=>b=s\/∃ad,Af=some ad/\b=ad.block) W4 (w7.setCell ⟨s,9,none⟩ (.slice q (fr.length+1) cap))/\w7.heap[s]? = W4.heap[s]? /\ (∀ad,q=some ad->(∃a0,Af=some a0/\ad.block=a0.block)\/W4.heap.size<=ad.block):=by
 have hs:=h.lt
 have B9:∀b,some b=(Value.slice Af fr.length cf).ownBlock->∃ad,Af=some ad/\b=ad.block:=λb e=>by
  cases Af with
  | none=>have e':some b=(none:Option Nat):=e;cases e'
  | some ad=>have e':some b=some ad.block:=e;exact ⟨ad,rfl,Option.some.inj e'⟩
 have hk:∀b,b<W4.heap.size->(∀ad,Af=some ad->b≠ad.block)->w7.heap[b]? = W4.heap[b]? := λb hl hn =>
  (hg.block b (Nat.lt_of_lt_of_le hl AI.size) λe=>by obtain ⟨ad,e1,e2⟩:=B9 b e;exact hn ad e1 e2).trans (AI.block b hl)
 have hsA:∀ad,Af=some ad->s≠ad.block:=λad e e2=>(h.freshs ad e).2 e2.symm
 have BU:w7.heap[s]? = W4.heap[s]? := hk s hs hsA
 have hsz:W4.heap.size<=w7.heap.size:=Nat.le_trans AI.size hg.size
 have Ct:Turned (λb=>b=s\/∃ad,Af=some ad/\b=ad.block) W4 w7:=⟨hg.os.trans AI.os,hg.tape.trans AI.tape,hg.output.trans AI.output,hsz,λb hl hn=>hk b hl λad e e2=>hn (.inr ⟨ad,e,e2⟩)⟩
 have ht:Turned (λb=>b=s\/∃ad,Af=some ad/\b=ad.block) W4 (w7.setCell ⟨s,9,none⟩ (.slice q (fr.length+1) cap)):=Ct.setCell (p:=⟨s,9,none⟩) (λ_=>.inl rfl) _
 have BV:∀b,b≠s->(w7.setCell ⟨s,9,none⟩ (.slice q (fr.length+1) cap)).heap[b]? = w7.heap[b]? := λb hn=>Below.heap_setCell w7 _ _ b hn
 have Ba:∀ad,q=some ad->(∃a0,Af=some a0/\ad.block=a0.block)\/ad.block=W6.heap.size:=λad e=>by
  subst e
  rcases Bq with k | k
  . exact .inl (B9 ad.block k)
  . exact .inr (Option.some.inj k)
 have BB:∀ad,q=some ad->ad.block<w7.heap.size:=λad e=>by
  subst e
  exact (World.ownsRow.lt hown ad.block rfl).2
 have AS:∀b,vW x s Af b->vW (λb=>x b\/New W4 (w7.setCell ⟨s,9,none⟩ (.slice q (fr.length+1) cap)) b) s q b:=λb hb=>⟨.inl hb.1,hb.2.1,λad e e2=>by
  have hl:=h.pool.there b hb.1
  rcases Ba ad e with ⟨a0,k1,k2⟩ | k
  . exact hb.2.2 a0 k1 (e2.trans k2)
  . have:=AI.size;omega⟩
 have Cu:∀i,(i=s\/∃ad,Af=some ad/\i=ad.block)->x i:=λi k=>by
  rcases k with k | ⟨ad,k1,k2⟩
  . rw[k];exact h.hx
  . rw[k2];exact (h.freshs ad k1).1
 have hkeep:∀b,vW x s Af b->(w7.setCell ⟨s,9,none⟩ (.slice q (fr.length+1) cap)).heap[b]? = W4.heap[b]? := λb hb=>ht.block b (h.pool.there b hb.1) (by
  rintro (k | ⟨ad,k1,k2⟩)
  . exact hb.2.1 k
  . exact hb.2.2 ad k1 k2)
 have BW:∀ad,q=some ad->ad.block≠s:=λad e e2=>by
  rcases Ba ad e with ⟨a0,k1,k2⟩ | k
  . exact hsA a0 k1 (e2.symm.trans k2)
  . have:=AI.size;omega
 refine ⟨⟨h.pool.grow (ht.mono' Cu),.inl h.hx,?_,h.cfg,λhn=>?_,λad e=>AS _ (h.lives ad e),h.lnone,?_,λad e=>⟨?_,BW ad e⟩,λa ha=>?_⟩,AS,ht,BU,λad e=>(Ba ad e).imp id λk=>by rw[k];exact AI.size⟩
 . have:=heap_setCell_same w7 s 9 _ _ (.slice q (fr.length+1) cap) (BU.trans h.self)
   rw[this,List.length_append]
   rfl
 . obtain ⟨B,o,e,hB,hc⟩:=h.live hn
   have hk:=hkeep B (h.lives _ e)
   exact ⟨B,o,e,Nat.lt_of_lt_of_le hB ht.size,λj hj=>⟨(World.cell?_of_block (a:=⟨B,o+j * 3,none⟩) hk).trans (hc j hj).1,(World.cell?_of_block (a:=⟨B,o+j * 3+1,none⟩) hk).trans (hc j hj).2.1,(World.cell?_of_block (a:=⟨B,o+j * 3+2,none⟩) hk).trans (hc j hj).2.2⟩⟩
 . rw[List.length_append]
   exact vS hown λk e=>by
    refine BV k λe2=>?_
    cases q with
    | none=>have e':(none:Option Nat)=some k:=e;cases e'
    | some ad=>have e':some ad.block=some k:=e;exact BW ad rfl ((Option.some.inj e').trans e2)
 . rcases Ba ad e with ⟨a0,k1,k2⟩ | k
   . rw[k2];exact .inl (h.freshs a0 k1).1
   . refine .inr ⟨by rw[k];exact AI.size,?_⟩
     have:=BB ad e
     simpa using this
 . rcases List.mem_append.1 ha with k | k
   . obtain ⟨h1,h2⟩:=h.data a (List.mem_append_left _ k)
     exact ⟨h1.keep (λb hb=>hkeep b hb) AS,h2⟩
   . rcases List.mem_append.1 k with k | k
     . obtain ⟨h1,h2⟩:=h.data a (List.mem_append_right _ k)
       exact ⟨h1.keep (λb hb=>hkeep b hb) AS,h2⟩
     . rw[List.mem_singleton] at k
       subst k
       refine ⟨hd.1.keep (λb hb=>BV b (by omega)) λb hb=>⟨.inr ⟨hb.1,?_⟩,by omega,λad e e2=>?_⟩,hd.2⟩
       . have:=hg.size
         have:b<w7.heap.size:=by omega
         simpa using this
       . rcases Ba ad e with ⟨a0,k1,k2⟩ | k
         . have:=h.pool.there _ (h.freshs a0 k1).1
           omega
         . omega
theorem lput_anyC (d:Cal) (cc:Nat) (h:StAt w s p c x g Q lv fr Al cl Af cf) (hi:Inv Q D (qY lv) (qY fr)) (hd:∀q∈lv++fr,D q.r=q.d) (hb:Bud Q (cc+1)) (BX:CB w (vW x s Af) d.A d.d) (CT:d.d.length<=60) (BY:d.A=none->d.d.length=0/\d.c=0) :
 Calls Tryz.prog 15 #[.pointer (some ⟨s,0,none⟩),.agg #[.int .i64 d.dO,.int .i64 d.n,.int .i64 d.keep,.int .i64 d.page,.slice d.A d.d.length d.c,.slice d.A2 d.pk.length d.c2]] w (PutPostC w s p c x g Q lv fr Al cl Af d.page d.d cc):=by
 obtain ⟨W,hW⟩:∃W,W=w.alloc (.cells #[.int .i64 d.dO,.int .i64 d.n,.int .i64 d.keep,.int .i64 d.page,.slice d.A d.d.length d.c,.slice d.A2 d.pk.length d.c2] 41):=⟨_,rfl⟩
 have hbW:Below w.heap.size w W:=by rw[hW];exact bR.alloc nL _
 have BZ:Hid (W.heap[w.heap.size]? = some (.cells #[.int .i64 d.dO,.int .i64 d.n,.int .i64 d.keep,.int .i64 d.page,.slice d.A d.d.length d.c,.slice d.A2 d.pk.length d.c2] 41 (0,0))):=hI (by rw[hW];exact heap_alloc_new _ _)
 have Br:=hI (h.below hbW)
 have AT:=hI hbW
 have HI:=hI hi
 have Bs:=hI hi.mid.ok
 have HD:=hI hd
 have Aw:=hI hb
 have C0:=hI BX
 have HT:=hI h
 obtain ⟨lp,fp,C1⟩:=Br.out.pool.parts
 have BC:Hid (∀V,Below W.heap.size W V->Parts V p c lp fp Q):=hI λV hV=>C1.below hV
 have BD:Hid (∀V,Below W.heap.size W V->V.cell? ⟨s,0,none⟩=some (.pointer (some ⟨c,0,none⟩))/\V.cell? ⟨s,1,none⟩=some (.pointer (some ⟨p,0,none⟩))):=hI λV hV=>⟨(Br.out.sc.below hV).c0,(Br.out.sc.below hV).c1⟩
 have Ay:=(BD.out W bR).1
 have Cv:=(BD.out W bR).2
 have Cw:=hI hW
 have Cx:=hI BY
 have Az:=hI h.cfg
 clear h hi hd hb BX C1 hbW hW BY
 go_enter Tryz.func15,Tryz.ntmps15
 go_upto_region 1 with fail
 rw[<-Cw.out]
 go_cut [5,6] from 10 to 19 (λv5 v6 wx=>∃b5,v5=.pointer (some ⟨b5,0,none⟩)/\v6=.int .i64 Q.bads/\wx.heap[b5]? = some (.cells #[.int .i64 Q.S.rd,.int .i64 Q.S.pr,.int .i64 Q.S.er] 85 (0,0))/\W.heap.size<=b5/\Below W.heap.size W wx)
 case first=>as_aux_lemma =>
  go_region_held3 (λV=>V.cell? ⟨s,0,none⟩=some (.pointer (some ⟨c,0,none⟩))/\V.cell? ⟨s,1,none⟩=some (.pointer (some ⟨p,0,none⟩)))
   (exact BD.out _ (by first | exact bR.drew | exact bR | exact A3.out | exact A4.out | exact (bR.alloc nL _).drew | exact (bR.alloc nL _) | exact (A3.out.alloc A3.out.size _) | exact (A4.out.alloc A4.out.size _) | exact (((A3.out.setCell (by first | exact Nat.le_refl _ | exact A3.out.size | exact A4.out.size | simp | omega) _).setCell (by first | exact Nat.le_refl _ | exact A3.out.size | exact A4.out.size | simp | omega) _).setCell (by first | exact Nat.le_refl _ | exact A3.out.size | exact A4.out.size | simp | omega) _) | exact (((A4.out.setCell (by first | exact Nat.le_refl _ | exact A3.out.size | exact A4.out.size | simp | omega) _).setCell (by first | exact Nat.le_refl _ | exact A3.out.size | exact A4.out.size | simp | omega) _).setCell (by first | exact Nat.le_refl _ | exact A3.out.size | exact A4.out.size | simp | omega) _)))
   (first
    | (go_at_call 40;(with_reducible refine (zOm BC.out (by first | exact bR.drew | exact bR | exact A3.out | exact A4.out | exact (bR.alloc nL _).drew | exact (bR.alloc nL _) | exact (A3.out.alloc A3.out.size _) | exact (A4.out.alloc A4.out.size _) | exact (((A3.out.setCell (by first | exact Nat.le_refl _ | exact A3.out.size | exact A4.out.size | simp | omega) _).setCell (by first | exact Nat.le_refl _ | exact A3.out.size | exact A4.out.size | simp | omega) _).setCell (by first | exact Nat.le_refl _ | exact A3.out.size | exact A4.out.size | simp | omega) _) | exact (((A4.out.setCell (by first | exact Nat.le_refl _ | exact A3.out.size | exact A4.out.size | simp | omega) _).setCell (by first | exact Nat.le_refl _ | exact A3.out.size | exact A4.out.size | simp | omega) _).setCell (by first | exact Nat.le_refl _ | exact A3.out.size | exact A4.out.size | simp | omega) _))).mono ?_);rintro e wa ⟨rfl,hw,hv⟩;have A3:=hI hw;have CU:=hI hv;(first | (have A8:=(hv.block W.heap.size (by simp)).trans (heap_alloc_new W (.cells #[.int .i64 0,.int .i64 0,.int .i64 0] 85));have At:=hI A8;obtain ⟨_,_,_,_,_,_⟩:=qT A8;obtain ⟨_,_,_⟩:=vD A8 (.int .i64 Q.S.rd) (.int .i64 Q.S.pr) (.int .i64 Q.S.er);clear A8) | (have A8:=(hv.block wb.heap.size (by simp)).trans (heap_alloc_new wb (.cells #[.int .i64 0,.int .i64 0,.int .i64 0] 85));have At:=hI A8;obtain ⟨_,_,_,_,_,_⟩:=qT A8;obtain ⟨_,_,_⟩:=vD A8 (.int .i64 Q.S.rd) (.int .i64 Q.S.pr) (.int .i64 Q.S.er);clear A8) | (have A8:=(hv.block _ (qD At.out)).trans At.out;have At:=hI A8;obtain ⟨_,_,_,_,_,_⟩:=qT A8;obtain ⟨_,_,_⟩:=vD A8 (.int .i64 Q.S.rd) (.int .i64 Q.S.pr) (.int .i64 Q.S.er);clear A8) | skip);clear hw hv)
    | (go_at_call 32;(with_reducible refine (zOn BC.out Bs.out (by first | exact bR.drew | exact bR | exact A3.out | exact A4.out | exact (bR.alloc nL _).drew | exact (bR.alloc nL _) | exact (A3.out.alloc A3.out.size _) | exact (A4.out.alloc A4.out.size _) | exact (((A3.out.setCell (by first | exact Nat.le_refl _ | exact A3.out.size | exact A4.out.size | simp | omega) _).setCell (by first | exact Nat.le_refl _ | exact A3.out.size | exact A4.out.size | simp | omega) _).setCell (by first | exact Nat.le_refl _ | exact A3.out.size | exact A4.out.size | simp | omega) _) | exact (((A4.out.setCell (by first | exact Nat.le_refl _ | exact A3.out.size | exact A4.out.size | simp | omega) _).setCell (by first | exact Nat.le_refl _ | exact A3.out.size | exact A4.out.size | simp | omega) _).setCell (by first | exact Nat.le_refl _ | exact A3.out.size | exact A4.out.size | simp | omega) _))).mono ?_);rintro e wb ⟨rfl,hw,hv⟩;have A4:=hI hw;have C2:=hI hv;(first | (have A8:=(hv.block W.heap.size (by simp)).trans (heap_alloc_new W (.cells #[.int .i64 0,.int .i64 0,.int .i64 0] 85));have At:=hI A8;obtain ⟨_,_,_,_,_,_⟩:=qT A8;obtain ⟨_,_,_⟩:=vD A8 (.int .i64 Q.S.rd) (.int .i64 Q.S.pr) (.int .i64 Q.S.er);clear A8) | (have A8:=(hv.block wa.heap.size (by simp)).trans (heap_alloc_new wa (.cells #[.int .i64 0,.int .i64 0,.int .i64 0] 85));have At:=hI A8;obtain ⟨_,_,_,_,_,_⟩:=qT A8;obtain ⟨_,_,_⟩:=vD A8 (.int .i64 Q.S.rd) (.int .i64 Q.S.pr) (.int .i64 Q.S.er);clear A8) | (have A8:=(hv.block _ (qD At.out)).trans At.out;have At:=hI A8;obtain ⟨_,_,_,_,_,_⟩:=qT A8;obtain ⟨_,_,_⟩:=vD A8 (.int .i64 Q.S.rd) (.int .i64 Q.S.pr) (.int .i64 Q.S.er);clear A8) | skip);clear hw hv))
  all_goals
   go_wp2_with fail
   go_meet
   case rel =>
    refine ⟨_,rfl,rfl,?_,?_,?_⟩
    . (first | exact heap_alloc_new _ _ | exact (C2.out.block _ (by simp)).trans (heap_alloc_new _ _) | exact yr At.out _ _ _ | exact (C2.out.block _ (by simp;exact qD At.out)).trans (yr At.out _ _ _))
    . first | exact Nat.le_refl _ | exact A3.out.size | exact A4.out.size
    . exact (by first | exact bR.drew | exact bR | exact A3.out | exact A4.out | exact (bR.alloc nL _).drew | exact (bR.alloc nL _) | exact (A3.out.alloc A3.out.size _) | exact (A4.out.alloc A4.out.size _) | exact (((A3.out.setCell (by first | exact Nat.le_refl _ | exact A3.out.size | exact A4.out.size | simp | omega) _).setCell (by first | exact Nat.le_refl _ | exact A3.out.size | exact A4.out.size | simp | omega) _).setCell (by first | exact Nat.le_refl _ | exact A3.out.size | exact A4.out.size | simp | omega) _) | exact (((A4.out.setCell (by first | exact Nat.le_refl _ | exact A3.out.size | exact A4.out.size | simp | omega) _).setCell (by first | exact Nat.le_refl _ | exact A3.out.size | exact A4.out.size | simp | omega) _).setCell (by first | exact Nat.le_refl _ | exact A3.out.size | exact A4.out.size | simp | omega) _))
 case rest =>
  obtain ⟨b5,rfl,rfl,C3,C4,BE⟩:=hcut
  obtain ⟨W1,rfl⟩:∃W1,W1=wc:=⟨_,rfl⟩
  have C5:=hI C3
  have AQ:=hI C4
  have B5:=hI BE
  have Cy:=hI (BC.out _ BE)
  have BF:Hid (∀V,Below W1.heap.size W1 V->Parts V p c lp fp Q):=hI λV hV=>Cy.out.below hV
  have AJ:=hI ((B5.out.block w.heap.size (qD BZ.out)).trans BZ.out)
  have AK:Hid (∀V,Below W1.heap.size W1 V->V.cell? ⟨s,1,none⟩=some (.pointer (some ⟨p,0,none⟩))/\V.cell? ⟨w.heap.size,3,none⟩=some (.int .i64 d.page)/\V.cell? ⟨w.heap.size,4,none⟩=some (.slice d.A d.d.length d.c)):=hI λV hV=>by
   obtain ⟨-,-,-,e3,e4,-⟩:=zEk ((hV.block _ (qD AJ.out)).trans AJ.out)
   exact ⟨((Br.out.sc.below B5.out).below hV).c1,e3,e4⟩
  have eseq:IntKind.i64.wrap (Q.seq+1)=Q.seq+1:=qp _ (by have:=Bs.out.seq;omega)
  have c1:=(AK.out W1 bR).1
  have k3:=(AK.out W1 bR).2.1
  have k4:=(AK.out W1 bR).2.2
  clear C3 C4 BE Ay Cv
  go_upto_region 2 with fail
  go_cut [7] from 20 to 30 (λv7 wx=>∃b7,v7=.pointer (some ⟨b7,0,none⟩)/\wx.heap[b7]? = some (.cells #[.int .i64 d.page,.int .i64 (Q.seq+1),.slice d.A d.d.length d.c] 47 (0,0))/\W1.heap.size<=b7/\Below W1.heap.size W1 wx)
  case first=>as_aux_lemma =>
   go_region_held3 (λV=>V.cell? ⟨s,1,none⟩=some (.pointer (some ⟨p,0,none⟩))/\V.cell? ⟨w.heap.size,3,none⟩=some (.int .i64 d.page)/\V.cell? ⟨w.heap.size,4,none⟩=some (.slice d.A d.d.length d.c))
    (exact AK.out _ (by first | exact bR.drew | exact bR | exact (bR.alloc nL _).drew | exact (bR.alloc nL _) | exact ((((bR.alloc nL _).setCell nL _).setCell nL _).setCell nL _)))
    (first
     | (go_at_call 31;(with_reducible refine (seq_from BF.out (by first | exact bR.drew | exact bR | exact (bR.alloc nL _).drew | exact (bR.alloc nL _) | exact ((((bR.alloc nL _).setCell nL _).setCell nL _).setCell nL _))).mono ?_);rintro e wa ⟨rfl,hw⟩;obtain rfl:=hw))
   all_goals
    go_wp2_with fail
    go_meet
    case rel =>
     refine ⟨_,rfl,?_,?_,?_⟩
     . first | exact heap_alloc_new _ _ | exact yr (heap_alloc_new _ _) _ _ _
     . first | exact Nat.le_refl _
     . exact (by first | exact bR.drew | exact bR | exact (bR.alloc nL _).drew | exact (bR.alloc nL _) | exact ((((bR.alloc nL _).setCell nL _).setCell nL _).setCell nL _))
  case rest =>
   obtain ⟨b7,rfl,C6,C7,AL⟩:=hcut
   obtain ⟨W2,rfl⟩:∃W2,W2=wc:=⟨_,rfl⟩
   clear c1 k3 k4 eseq
   have BG:=hI C6
   have C8:=hI C7
   have AM:Hid (Below w.heap.size w W2):=hI ((AT.out.trans (B5.out.mono AT.out.size)).trans (AL.mono (AT.out.trans (B5.out.mono AT.out.size)).size))
   have AU:=hI ((AL.block _ (qD C5.out)).trans C5.out)
   have An:=hI ((AL.block _ (qD AJ.out)).trans AJ.out)
   have Ak:=hI (HT.out.below AM.out)
   have BH:=hI Ak.out.pool
   have BI:Hid (RB W2 W2.heap.size d.A d.d):=hI (((C0.out.rb (B:=w.heap.size) λb hb=>HT.out.pool.there b hb.1).below AM.out nL).mono AM.out.size)
   obtain ⟨er,r,Q1,C9,Bt⟩:=put_spec HI.out Aw.out d.page d.d
   have Cz:=hI C9
   have Ca:=hI Bt
   have hwC:w.heap.size<W2.heap.size:=qD An.out
   have Ao:Hid (∀V,Safe (λb=>x b\/New w W2 b) W2 V->V.cell? ⟨s,1,none⟩=some (.pointer (some ⟨p,0,none⟩))/\V.cell? ⟨w.heap.size,3,none⟩=some (.int .i64 d.page)/\V.cell? ⟨w.heap.size,4,none⟩=some (.slice d.A d.d.length d.c)):=hI λV hV=>by
    obtain ⟨-,-,-,e3,e4,-⟩:=zEk ((hV.block (qD An.out) (.inr ⟨Nat.le_refl _,qD An.out⟩)).trans An.out)
    exact ⟨(Ak.out.sc.block (hV.block Ak.out.lt Ak.out.hx)).c1,e3,e4⟩
   have c1:=(Ao.out W2 (Turned.refl _ _)).1
   have k3:=(Ao.out W2 (Turned.refl _ _)).2.1
   have k4:=(Ao.out W2 (Turned.refl _ _)).2.2
   clear C6 C7 AL C9 Bt
   go_upto_region 3 with fail
   go_cut [8,9] from 31 to 42 (λv8 v9 wx=>∃b8,v8=.pointer (some ⟨b8,0,none⟩)/\v9=.int .i64 er/\wx.heap[b8]? = some (.cells #[.int .i64 r.1,.int .i64 r.2] 33 (0,0))/\W2.heap.size<=b8/\Pool wx p c (λb=>x b\/New w W2 b) Q1/\Safe (λb=>x b\/New w W2 b) W2 wx)
   case first=>as_aux_lemma =>
    go_region_held3 (λV=>V.cell? ⟨s,1,none⟩=some (.pointer (some ⟨p,0,none⟩))/\V.cell? ⟨w.heap.size,3,none⟩=some (.int .i64 d.page)/\V.cell? ⟨w.heap.size,4,none⟩=some (.slice d.A d.d.length d.c))
     (first | exact Ao.out _ (qC (by first | exact bR.drew | exact bR | exact (bR.alloc nL _).drew | exact (bR.alloc nL _) | exact ((((bR.alloc nL _).setCell nL _).setCell nL _).setCell nL _))) | exact Ao.out _ B6.out | exact Ao.out _ (B6.out.then (qC (bR.alloc nL _))) | exact Ao.out _ (vz B6.out nL _ _))
     (first
      | (go_at_call 25;(with_reducible refine (put_from BH.out Bs.out (by first | exact bR.drew | exact bR | exact (bR.alloc nL _).drew | exact (bR.alloc nL _) | exact ((((bR.alloc nL _).setCell nL _).setCell nL _).setCell nL _)) BI.out Cz.out).mono ?_);rintro e wa ⟨rfl,Cb,Cc,Bb⟩;have Cd:=hI Cb;have B6:=hI Cc;(first | (have A8:=(Bb.block (by simp) (.inr ⟨Nat.le_refl W2.heap.size,by simp⟩)).trans (heap_alloc_new W2 (.cells #[.int .i64 0,.int .i64 0] 33));have At:=hI A8;obtain ⟨_,_,_,_⟩:=qG A8;clear A8) | skip);clear Cb Cc Bb))
    all_goals
     go_wp2_with fail
     go_meet
     case rel =>
      refine ⟨_,rfl,rfl,?_,?_,?_,?_⟩
      . first | exact heap_alloc_new _ _ | exact vB At.out _ _
      . first | exact B6.out.size | exact Nat.le_refl _
      . first | exact (Cd.out.below (bR.alloc nL _)).less λb k=>.inl k | exact (Cd.out.two (.inr ⟨Nat.le_refl _,by simp⟩) _ _).less λb k=>.inl k
      . first | exact B6.out.then (qC (bR.alloc nL _)) | exact vz B6.out nL _ _
   case rest =>
    obtain ⟨b8,rfl,rfl,Ce,Cg,Ch,Ci⟩:=hcut
    obtain ⟨W3,rfl⟩:∃W3,W3=wc:=⟨_,rfl⟩
    clear c1 k3 k4
    have AA:=hI Ce
    have Bc:=hI Ch
    have AB:=hI Ci
    have CA:=hI Cg
    have CV:=AM.out.size
    have Ai:=hI ((AB.out.block (qD AU.out) (.inr ⟨by have:=AQ.out;have:=AT.out.size;omega,qD AU.out⟩)).trans AU.out)
    have AV:=hI ((AB.out.block (qD BG.out) (.inr ⟨by have:=C8.out;have:=B5.out.size;have:=AT.out.size;omega,qD BG.out⟩)).trans BG.out)
    have AW:=hI ((AB.out.block (qD An.out) (.inr ⟨Nat.le_refl _,qD An.out⟩)).trans An.out)
    have Ax:Hid (RB W3 W3.heap.size d.A d.d):=hI (by
     have q1:=C0.out.keep (λb hb=>AM.out.block b (HT.out.pool.there b hb.1)) (λb hb=>hb)
     have q2:=q1.keep (λb hb=>AB.out.block (Nat.lt_of_lt_of_le (HT.out.pool.there b hb.1) AM.out.size) (.inl hb.1)) (λb hb=>hb)
     exact q2.rb (B:=W3.heap.size) λb hb=>Nat.lt_of_lt_of_le (Nat.lt_of_lt_of_le (HT.out.pool.there b hb.1) AM.out.size) AB.out.size)
    have Bd:Hid (Safe x w W3):=hI ((qC AM.out).then' AB.out λ_ _ k=>.inl k)
    obtain ⟨-,-,-,k3,-,-⟩:=zEk AW.out
    obtain ⟨r0,r1,-,-⟩:=qG AA.out
    obtain ⟨m0,m1,m2,-⟩:=qT AV.out
    clear Ce Ch Ci Cg
    have Bt:=Ca.out
    clear Ca
    cases Bt with
    | arg ha =>
     have Ac:=hI (Ak.out.safe AB.out Bc.out (λ_ k=>k) Az.out)
     have Aj:Hid (∀w9,Below W3.heap.size W3 w9->PutPostC w s p c x g Q lv fr Al cl Af d.page d.d cc (.returned (.bool true)) w9):=hI λw9 h9=>⟨rfl,Q,D,fr,Af,cf,_,Ac.out.below h9,HI.out,HD.out,Aw.out.less (Nat.le_succ _),λb hb=>⟨.inl (.inl hb.1),hb.2⟩,(Bd.out.then (qC h9)).mono' λb hb k=>hb k.1,Keeps.refl _,.inl ⟨rfl,rfl,.inl ha⟩,λ_ _ k=>k⟩
     by_cases Am:d.page=0
     . rw[Am] at k3
       have CW:=hI Am
       clear Am ha
       have e00:Sem.run Tryz.prog (binOp BinOp.eql 33 (P2V (0,0)) (P2V (0,0))) W3=.ok (.bool true) W3:=zDz (0,0) (0,0) W3
       go_wp2_with fail
       go_ret
       exact Aj.out _ bR
     . have CC:Hid (decide (vg d.page (Q.seq+1) d.d)=false):=hI (decide_eq_false (ha.resolve_left Am))
       go_wp2_with (go_at_call 45;(with_reducible refine (yA W3.heap.size d.page (Q.seq+1) d.A d.c d.d W3 Ax.out nL).mono ?_);rintro e w9 ⟨rfl,Au⟩;rw[CC.out];have Av:=hI Au;clear Au r0 r1;obtain ⟨r0,r1,-,-⟩:=qG ((Av.out.block _ (qD AA.out)).trans AA.out);have e00:Sem.run Tryz.prog (binOp BinOp.eql 33 (P2V (0,0)) (P2V (0,0))) w9=.ok (.bool true) w9:=zDz (0,0) (0,0) w9)
       go_ret
       exact Aj.out _ Av.out
    | full ha hb =>
     have CD:=hI hb
     have Ac:=hI (Ak.out.safe AB.out Bc.out (λ_ k=>k) Az.out)
     have Am:¬d.page=0:=λk=>ha (.inl k)
     have hp0b:(d.page==0)=false:=by simpa using Am
     have AX:Hid (decide (vg d.page (Q.seq+1) d.d)=true):=hI (decide_eq_true (Classical.not_not.1 λk=>ha (.inr k)))
     have HA:=hI ha
     have AY:g.K=Q.K:=by rw[<-Az.out];rfl
     have hK:=HI.out.mid.ok.may.2.2.2.1
     have hlA:=HI.out.lenA
     rw[List.length_map,List.length_map] at hlA hb
     clear ha
     go_upto_region 6 with (go_at_call 45;(with_reducible refine (yA W3.heap.size d.page (Q.seq+1) d.A d.c d.d W3 Ax.out nL).mono ?_);rintro e w9 ⟨rfl,Au⟩;rw[AX.out];have Av:=hI Au;clear Au r0 r1 m0 m1 m2 k3)
     have Aa:=hI (Ac.out.below Av.out)
     have c8:=Aa.out.sc.c8
     have c9:=Aa.out.sc.c9
     have c5:=Aa.out.sc.c5
     rw[AY] at c5
     have e1:IntKind.i64.wrap ((lv.length:Int)+(fr.length:Int))=(lv.length:Int)+(fr.length:Int):=qp _ (by omega)
     have e2:IntKind.i64.wrap (Q.K+1)=Q.K+1:=qp _ (by omega)
     have e3:IntKind.i64.wrap (Q.K+1+5)=Q.K+1+5:=qp _ (by omega)
     have e4:decide (Q.K+1+5<=(lv.length:Int)+(fr.length:Int))=true:=by rw[decide_eq_true_eq];omega
     clear Am hp0b
     go_quiet (fail)
     obtain ⟨w10,A9⟩:∃w10,w10=w9.drewN nq:=⟨_,rfl⟩
     have A1:Hid (Below W3.heap.size W3 w10):=hI (by rw[A9];exact qS Av.out _)
     have A6:=hI ((A1.out.block _ (qD AA.out)).trans AA.out)
     obtain ⟨r0,r1,-,-⟩:=qG A6.out
     have Aj:Hid (∀w9,Below W3.heap.size W3 w9->PutPostC w s p c x g Q lv fr Al cl Af d.page d.d cc (.returned (.bool true)) w9):=hI λw9 h9=>⟨rfl,Q,D,fr,Af,cf,_,Ac.out.below h9,HI.out,HD.out,Aw.out.less (Nat.le_succ _),λb hb=>⟨.inl (.inl hb.1),hb.2⟩,(Bd.out.then (qC h9)).mono' λb hb k=>hb k.1,Keeps.refl _,.inl ⟨rfl,rfl,.inr (by have:=CD.out;rw[List.length_map,List.length_map] at this;exact this)⟩,λ_ _ k=>k⟩
     have e00:Sem.run Tryz.prog (binOp BinOp.eql 33 (P2V (0,0)) (P2V (0,0))) w10=.ok (.bool true) w10:=zDz (0,0) (0,0) w10
     clear hb hlA hK
     rw[<-A9]
     clear A9
     go_wp2_with fail
     go_ret
     exact Aj.out _ A1.out
    | over0 ha hb ho =>
     have Ac:=hI (Ak.out.safe AB.out Bc.out (λ_ k=>k) Az.out)
     have Ap:=Bs
     have AR:Hid (Q.over=true):=hI ho
     have Cj:fr = []:=by
      have:=HI.out.none ho
      unfold qY at this
      simpa using this
     have Be:Hid (Inv Q D (qY lv) []):=hI (by have:=HI.out;rw[Cj] at this;exact this)
     clear Cj
     have Bf:Hid (Keeps Q.S Q.S):=hI (Keeps.refl _)
     have AC:Hid (Bud Q cc):=hI (Aw.out.less (Nat.le_succ _))
     have BJ:Hid (decide (Q.Sp<Q.bads)=true):=hI (by have:=ho;unfold PS.over at this;exact this)
     have Am:¬d.page=0:=λk=>ha (.inl k)
     have hp0b:(d.page==0)=false:=by simpa using Am
     have AX:Hid (decide (vg d.page (Q.seq+1) d.d)=true):=hI (decide_eq_true (Classical.not_not.1 λk=>ha (.inr k)))
     have HA:=hI ha
     have AY:g.K=Q.K:=by rw[<-Az.out];rfl
     have hK:=HI.out.mid.ok.may.2.2.2.1
     have hlA:=HI.out.lenA
     rw[List.length_map,List.length_map] at hlA hb
     clear ha
     go_upto_region 6 with (go_at_call 45;(with_reducible refine (yA W3.heap.size d.page (Q.seq+1) d.A d.c d.d W3 Ax.out nL).mono ?_);rintro e w9 ⟨rfl,Au⟩;rw[AX.out];have Av:=hI Au;clear Au r0 r1 m0 m1 m2 k3)
     have Aa:=hI (Ac.out.below Av.out)
     have c8:=Aa.out.sc.c8
     have c9:=Aa.out.sc.c9
     have c5:=Aa.out.sc.c5
     rw[AY] at c5
     have e1:IntKind.i64.wrap ((lv.length:Int)+(fr.length:Int))=(lv.length:Int)+(fr.length:Int):=qp _ (by omega)
     have e2:IntKind.i64.wrap (Q.K+1)=Q.K+1:=qp _ (by omega)
     have e3:IntKind.i64.wrap (Q.K+1+5)=Q.K+1+5:=qp _ (by omega)
     have e4:decide (Q.K+1+5<=(lv.length:Int)+(fr.length:Int))=false:=by rw[decide_eq_false_iff_not];omega
     clear Am hp0b
     go_quiet (fail)
     obtain ⟨w10,A9⟩:∃w10,w10=w9.drewN nq:=⟨_,rfl⟩
     have A1:Hid (Below W3.heap.size W3 w10):=hI (by rw[A9];exact qS Av.out _)
     have A6:=hI ((A1.out.block _ (qD AA.out)).trans AA.out)
     obtain ⟨r0,r1,-,-⟩:=qG A6.out
     rw[<-A9]
     clear A9 hb hlA hK ho
     have A0:=hI (Ac.out.below A1.out)
     obtain ⟨BK,BL⟩:=A0.out.clear
     have A7:=hI BK
     have AN:=hI BL
     have CE:=A0.out.lt
     have AZ:=A0.out.self
     have f9:w10.frozen? ⟨s,9,none⟩=false:=by
      unfold vX at AZ
      simp[World.frozen?,AZ]
     have c9':=A0.out.sc.c9
     clear AZ c8 c9 c5
     obtain ⟨W11,Aq⟩:∃W11,W11=w10.setCell ⟨s,9,none⟩ (.slice none 0 0):=⟨_,rfl⟩
     rw[<-Aq] at A7 AN
     go_upto_region 10 with fail
     rw[<-Aq]
     clear Aq c9' f9 r0 r1
     have B0:b8≠s:=λe=>by
      have h1:=A6.out
      have h2:=A0.out.self
      rw[e,h2] at h1
      simp[vX] at h1
     have B1:b5≠s:=λe=>by
      have h1:=(A1.out.block _ (qD Ai.out)).trans Ai.out
      have h2:=A0.out.self
      rw[e,h2] at h1
      simp[vX] at h1
     have AD:=hI ((AN.out.block b8 (qD A6.out) B0).trans A6.out)
     have Ae:=(A1.out.block _ (qD Ai.out)).trans Ai.out
     have AE:=hI ((AN.out.block b5 (qD Ae) B1).trans Ae)
     clear Ae
     obtain ⟨l11,f11,Ad⟩:=A7.out.pool.parts
     have Ag:=hI Ad
     clear Ad
     have c1:=A7.out.sc.c1
     have Aj:Hid (∀w9,Below W11.heap.size W11 w9->PutPostC w s p c x g Q lv fr Al cl Af d.page d.d cc (.returned (.bool true)) w9):=hI λw9 h9=>by
      have B7:Safe (vW x s Af) w w9:=((Bd.out.then (qC A1.out)).mono' (G:=λb=>¬vW x s Af b) λb hb k=>hb k.1).trans ((AN.out.mono' (G:=λb=>¬vW x s Af b) λb e k=>k.2.1 e).trans ((Turned.of_below (F:=λb=>¬vW x s Af b) h9)) λ_ _ k=>k) λ_ _ k=>k
      exact ⟨rfl,Q,D,[],none,0,_,A7.out.below h9,Be.out,λq hq=>HD.out q (by rw[List.append_nil] at hq;exact List.mem_append_left _ hq),AC.out,λb hb=>⟨.inl (.inl (.inl hb.1)),hb.2.1,λ_ e=>(by cases e)⟩,B7,Bf.out,.inr (.inl ⟨AR.out,rfl,by omega⟩),λ_ _ k=>k.clear⟩
     have BM:g.Sp=Q.Sp:=by rw[<-Az.out];rfl
     have e5:=BJ.out
     go_wp2_with (first
      | (go_at_call 33;(with_reducible refine (zAb Ag.out Ap.out).mono ?_);rintro e w12 ⟨rfl,Ab⟩;rw[AR.out];have Ah:=hI Ab;obtain ⟨r0,r1,-,-⟩:=qG ((Ab.block b8 (qD AD.out)).trans AD.out);obtain ⟨m0,m1,m2,-⟩:=qT ((Ab.block b5 (qD AE.out)).trans AE.out);have e00:Sem.run Tryz.prog (binOp BinOp.eql 33 (P2V (0,0)) (P2V (0,0))) w12=.ok (.bool true) w12:=zDz (0,0) (0,0) w12;have c4:=(A7.out.sc.below Ab).c4;rw[BM] at c4;clear Ab)
      | fail)
     go_ret
     exact Aj.out _ (Ah.out)
    | over _ ha hb ho Bg AO Ay Bh Ar =>
     have As:Q1.cf=g:=by
      obtain ⟨s1,s2,s3,s4,s5,s6⟩:=Ay.same
      rw[<-Az.out]
      unfold PS.cf
      rw[s1,s2,s3,s4,s5,s6]
     have Ac:=hI (Ak.out.safe AB.out Bc.out (λ_ k=>k) As)
     have B2:=hI As
     have Ap:=hI AO.mid.ok
     have AR:Hid (Q1.over=true):=hI Bg
     have Be:Hid (Inv Q1 D (qY lv) []):=hI AO
     have Bf:Hid (Keeps Q.S Q1.S):=hI Ay.keeps
     have AC:Hid (Bud Q1 cc):=hI Ar
     have BN:Hid (Q1.seq=Q.seq+1):=hI Bh
     have BJ:Hid (decide (Q.Sp<Q.bads)=false):=hI (by have:=ho;unfold PS.over at this;exact this)
     obtain ⟨dr,dp,de,t,AF⟩:=zSo (c:=cc * 1000000) HI.out.mid AO (Aw.out.less (Nat.le_succ cc)).low Ar.low Ay
     have B3:=hI AF
     clear AF As Bg AO Ay Bh Ar
     have Am:¬d.page=0:=λk=>ha (.inl k)
     have hp0b:(d.page==0)=false:=by simpa using Am
     have AX:Hid (decide (vg d.page (Q.seq+1) d.d)=true):=hI (decide_eq_true (Classical.not_not.1 λk=>ha (.inr k)))
     have HA:=hI ha
     have AY:g.K=Q.K:=by rw[<-Az.out];rfl
     have hK:=HI.out.mid.ok.may.2.2.2.1
     have hlA:=HI.out.lenA
     rw[List.length_map,List.length_map] at hlA hb
     clear ha
     go_upto_region 6 with (go_at_call 45;(with_reducible refine (yA W3.heap.size d.page (Q.seq+1) d.A d.c d.d W3 Ax.out nL).mono ?_);rintro e w9 ⟨rfl,Au⟩;rw[AX.out];have Av:=hI Au;clear Au r0 r1 m0 m1 m2 k3)
     have Aa:=hI (Ac.out.below Av.out)
     have c8:=Aa.out.sc.c8
     have c9:=Aa.out.sc.c9
     have c5:=Aa.out.sc.c5
     rw[AY] at c5
     have e1:IntKind.i64.wrap ((lv.length:Int)+(fr.length:Int))=(lv.length:Int)+(fr.length:Int):=qp _ (by omega)
     have e2:IntKind.i64.wrap (Q.K+1)=Q.K+1:=qp _ (by omega)
     have e3:IntKind.i64.wrap (Q.K+1+5)=Q.K+1+5:=qp _ (by omega)
     have e4:decide (Q.K+1+5<=(lv.length:Int)+(fr.length:Int))=false:=by rw[decide_eq_false_iff_not];omega
     clear Am hp0b
     go_quiet (fail)
     obtain ⟨w10,A9⟩:∃w10,w10=w9.drewN nq:=⟨_,rfl⟩
     have A1:Hid (Below W3.heap.size W3 w10):=hI (by rw[A9];exact qS Av.out _)
     have A6:=hI ((A1.out.block _ (qD AA.out)).trans AA.out)
     obtain ⟨r0,r1,-,-⟩:=qG A6.out
     rw[<-A9]
     clear A9 hb hlA hK ho
     have A0:=hI (Ac.out.below A1.out)
     obtain ⟨BK,BL⟩:=A0.out.clear
     have A7:=hI BK
     have AN:=hI BL
     have CE:=A0.out.lt
     have AZ:=A0.out.self
     have f9:w10.frozen? ⟨s,9,none⟩=false:=by
      unfold vX at AZ
      simp[World.frozen?,AZ]
     have c9':=A0.out.sc.c9
     clear AZ c8 c9 c5
     obtain ⟨W11,Aq⟩:∃W11,W11=w10.setCell ⟨s,9,none⟩ (.slice none 0 0):=⟨_,rfl⟩
     rw[<-Aq] at A7 AN
     go_upto_region 10 with fail
     rw[<-Aq]
     clear Aq c9' f9 r0 r1
     have B0:b8≠s:=λe=>by
      have h1:=A6.out
      have h2:=A0.out.self
      rw[e,h2] at h1
      simp[vX] at h1
     have B1:b5≠s:=λe=>by
      have h1:=(A1.out.block _ (qD Ai.out)).trans Ai.out
      have h2:=A0.out.self
      rw[e,h2] at h1
      simp[vX] at h1
     have AD:=hI ((AN.out.block b8 (qD A6.out) B0).trans A6.out)
     have Ae:=(A1.out.block _ (qD Ai.out)).trans Ai.out
     have AE:=hI ((AN.out.block b5 (qD Ae) B1).trans Ae)
     clear Ae
     obtain ⟨l11,f11,Ad⟩:=A7.out.pool.parts
     have Ag:=hI Ad
     clear Ad
     have c1:=A7.out.sc.c1
     have Aj:Hid (∀w9,Below W11.heap.size W11 w9->PutPostC w s p c x g Q lv fr Al cl Af d.page d.d cc (.returned (.bool true)) w9):=hI λw9 h9=>by
      have B7:Safe (vW x s Af) w w9:=((Bd.out.then (qC A1.out)).mono' (G:=λb=>¬vW x s Af b) λb hb k=>hb k.1).trans ((AN.out.mono' (G:=λb=>¬vW x s Af b) λb e k=>k.2.1 e).trans ((Turned.of_below (F:=λb=>¬vW x s Af b) h9)) λ_ _ k=>k) λ_ _ k=>k
      exact ⟨rfl,Q1,D,[],none,0,_,A7.out.below h9,Be.out,λq hq=>HD.out q (by rw[List.append_nil] at hq;exact List.mem_append_left _ hq),AC.out,λb hb=>⟨.inl (.inl (.inl hb.1)),hb.2.1,λ_ e=>(by cases e)⟩,B7,Bf.out,.inr (.inl ⟨AR.out,rfl,Int.le_of_eq BN.out⟩),λ_ _ k=>k.clear⟩
     have BM:g.Sp=Q.Sp:=by rw[<-Az.out];rfl
     have e5:=BJ.out
     go_wp2_with (first
      | (go_at_call 33;(with_reducible refine (zAb Ag.out Ap.out).mono ?_);rintro e w12 ⟨rfl,Ab⟩;rw[AR.out];have Ah:=hI Ab;obtain ⟨r0,r1,-,-⟩:=qG ((Ab.block b8 (qD AD.out)).trans AD.out);obtain ⟨m0,m1,m2,-⟩:=qT ((Ab.block b5 (qD AE.out)).trans AE.out);have e00:Sem.run Tryz.prog (binOp BinOp.eql 33 (P2V (0,0)) (P2V (0,0))) w12=.ok (.bool true) w12:=zDz (0,0) (0,0) w12;have c4:=(A7.out.sc.below Ab).c4;rw[BM] at c4;clear Ab)
      | (go_at_call 42;(with_reducible refine (zCr (A7.out.sc.below Ah.out) B2.out (Ag.out.below Ah.out) Ap.out Q.S.rd Q.S.pr Q.S.er Q.bads dr dp de t B3.out).mono ?_);rintro e w13 ⟨rfl,AG⟩;have B4:=hI AG;clear AG)
      | fail)
     go_ret
     exact Aj.out _ ((Ah.out.trans (B4.out.mono Ah.out.size)))
    | ok _ ha hb ho Bg AO Ay Bh Ar =>
     have As:Q1.cf=g:=by
      obtain ⟨s1,s2,s3,s4,s5,s6⟩:=Ay.same
      rw[<-Az.out]
      unfold PS.cf
      rw[s1,s2,s3,s4,s5,s6]
     have Ac:=hI (Ak.out.safe AB.out Bc.out (λ_ k=>k) As)
     have B2:=hI As
     have Ap:=hI AO.mid.ok
     have AR:Hid (Q1.over=false):=hI Bg
     have Be:=hI AO
     have Bf:Hid (Keeps Q.S Q1.S):=hI Ay.keeps
     have AC:Hid (Bud Q1 cc):=hI Ar
     have BN:Hid (Q1.seq=Q.seq+1):=hI Bh
     obtain ⟨dr,dp,de,t,AF⟩:=zSo (c:=cc * 1000000) (HI.out.mid.upd (d:=d.d) (HI.out.new d.page)) AO (Aw.out.less (Nat.le_succ cc)).low Ar.low Ay
     have B3:=hI AF
     clear AF As Bg AO Ay Bh Ar
     have Am:¬d.page=0:=λk=>ha (.inl k)
     have hp0b:(d.page==0)=false:=by simpa using Am
     have AX:Hid (decide (vg d.page (Q.seq+1) d.d)=true):=hI (decide_eq_true (Classical.not_not.1 λk=>ha (.inr k)))
     have HA:=hI ha
     have AY:g.K=Q.K:=by rw[<-Az.out];rfl
     have hK:=HI.out.mid.ok.may.2.2.2.1
     have hlA:=HI.out.lenA
     rw[List.length_map,List.length_map] at hlA hb
     clear ha
     go_upto_region 6 with (go_at_call 45;(with_reducible refine (yA W3.heap.size d.page (Q.seq+1) d.A d.c d.d W3 Ax.out nL).mono ?_);rintro e w9 ⟨rfl,Au⟩;rw[AX.out];have Av:=hI Au;clear Au r0 r1 m0 m1 m2 k3)
     have Aa:=hI (Ac.out.below Av.out)
     have c8:=Aa.out.sc.c8
     have c9:=Aa.out.sc.c9
     have c5:=Aa.out.sc.c5
     rw[AY] at c5
     have e1:IntKind.i64.wrap ((lv.length:Int)+(fr.length:Int))=(lv.length:Int)+(fr.length:Int):=qp _ (by omega)
     have e2:IntKind.i64.wrap (Q.K+1)=Q.K+1:=qp _ (by omega)
     have e3:IntKind.i64.wrap (Q.K+1+5)=Q.K+1+5:=qp _ (by omega)
     have e4:decide (Q.K+1+5<=(lv.length:Int)+(fr.length:Int))=false:=by rw[decide_eq_false_iff_not];omega
     clear Am hp0b
     go_quiet (fail)
     obtain ⟨w10,A9⟩:∃w10,w10=w9.drewN nq:=⟨_,rfl⟩
     have A1:Hid (Below W3.heap.size W3 w10):=hI (by rw[A9];exact qS Av.out _)
     have A6:=hI ((A1.out.block _ (qD AA.out)).trans AA.out)
     obtain ⟨r0,r1,-,-⟩:=qG A6.out
     rw[<-A9]
     clear hb hlA hK ho c8 c9 c5
     have A0:=hI (Ac.out.below A1.out)
     obtain ⟨W4,BO⟩:∃W4,W4=w10:=⟨_,rfl⟩
     rw[<-BO] at A0 A1 A6 r0 r1 A9
     have BP:Hid (RB W4 W4.heap.size d.A d.d):=hI ((Ax.out.below A1.out nL).mono A1.out.size)
     have Bi:=hI ((A1.out.block _ (qD AW.out)).trans AW.out)
     have Bj:=hI ((A1.out.block _ (qD Ai.out)).trans Ai.out)
     have Bl:=hI ((A1.out.block _ (qD AV.out)).trans AV.out)
     obtain ⟨-,-,-,-,k4,-⟩:=zEk Bi.out
     have c9:=A0.out.sc.c9
     obtain ⟨i0,CF,CG,CH,BQ⟩:=info_parts vP
     have HE:Hid ((W4.alloc (.cells #[] 5)).drew.ownsRow W4.heap.size 5 1 (.slice (some ⟨W4.heap.size,0,none⟩) 0 0) 0 []):=hI (World.ownsRow.drew (World.ownsRow_lit (base:=W4.heap.size) (e:=5) (size:=1) W4 #[] 0 nL (by omega) rfl))
     have Bu:Hid (Below W4.heap.size W4 (W4.alloc (.cells #[] 5)).drew):=hI (bR.alloc nL _).drew
     have CI:Hid (∀ad,d.A=some ad->∀j u,(d.d.map ub)[j]? = some u->(W4.alloc (.cells #[] 5)).drew.cell? (ad.add j)=some u):=hI λad e j u hu=>by
      have hj:j<d.d.length:=by
       rcases Nat.lt_or_ge j d.d.length with k | k
       . exact k
       . rw[List.getElem?_eq_none (by simpa using k)] at hu;cases hu
      obtain ⟨ad',e',_,hc⟩:=(BP.out.below Bu.out nL) (by omega)
      rw[e] at e'
      obtain rfl:=Option.some.inj e'
      rw[hc j hj]
      rw[List.getElem?_map,List.getElem?_eq_getElem hj] at hu
      exact hu
     have CJ:Hid (∀u∈d.d.map ub,u.oneCell'=true):=hI λu hu=>by obtain ⟨b,_,rfl⟩:=List.mem_map.1 hu;rfl
     have CK:fr.length<=1000:=by have h9:=HI.out.lenA;have:=HI.out.mid.ok.may.2.2.2.1;rw[List.length_map,List.length_map] at h9;omega
     have Bb:=A0.out.lt
     have CL:=(A0.out.sc.below (bR.alloc nL (.cells #[] 5))).c9
     have BR:w.heap.size<W4.heap.size:=qD Bi.out
     have Bm:b8<W4.heap.size:=qD A6.out
     go_upto_region 14 with fail
     rw[<-BO]
     clear BO A9
     go_cut [] from 128 to 142 (λwx=>∃(Af':Option Addr) (cf':Nat) (A5:Option Addr) (c5:Nat) (y:Nat->Prop),StAt wx s p c y g Q1 lv (fr++[⟨(d.page,Q.seq+1),d.d,A5,c5⟩]) Al cl Af' cf'/\(∀b,vW x s Af b->vW y s Af' b)/\Safe (λb=>b≠s/\∀ad,Af=some ad->b≠ad.block) W4 wx/\(∀ad,Af'=some ad->(∃a0,Af=some a0/\ad.block=a0.block)\/W4.heap.size<=ad.block)/\(0<d.d.length->∀ad,A5=some ad->W4.heap.size<=ad.block))
     case first=>as_aux_lemma =>
      go_region_law (first
       | (refine zFg rfl (.tmp 134) (.tmp 136) 34 rfl W4.heap.size 5 i0 _ 1 1 Tryz.underlying34 CF CG CH BQ rfl (by decide) (.slice (some ⟨W4.heap.size,0,none⟩) 0 0) 0 [] rfl HE.out d.A d.d.length d.c (d.d.map ub) rfl (by simp) Cx.out CI.out CJ.out (by unfold maxLen;omega) (by omega) Bu.out.size ?_;intro q5 cap5 w5 hown B8;have Ck:Hid (w5.ownsRow W4.heap.size 5 1 (.slice q5 d.d.length cap5) d.d.length (d.d.map ub)):=hI (by simpa using hown);have AQ:Hid (Below W4.heap.size W4 w5):=hI (Bu.out.grown B8 Bu.out.size λk e=>(World.ownsRow.lt HE.out k e).1);have c9':=(A0.out.sc.below AQ.out).c9;obtain ⟨r0',r1',-,-⟩:=qG ((AQ.out.block _ (qD A6.out)).trans A6.out);have Bn:=AQ.out.size;have CX:s<w5.heap.size:=Nat.lt_of_lt_of_le Bb Bn;have CM:b8<w5.heap.size:=Nat.lt_of_lt_of_le Bm Bn;have Cl:Hid (Below W4.heap.size W4 (w5.alloc (.cells #[.int .i64 d.page,.int .i64 (Q.seq+1),.slice q5 d.d.length cap5] 36))):=hI (AQ.out.alloc AQ.out.size _);clear hown B8)
       | (refine zMa rfl (.tmp 132) (.tmp 139) rfl 0 (.slice Af fr.length cf) fr.length fr 1 [⟨(d.page,Q.seq+1),d.d,q5,cap5⟩] ⟨w5.heap.size,0,none⟩ 1 rfl rfl rfl rfl (yS A0.out.fresh Cl.out) (zBx w5 ⟨(d.page,Q.seq+1),d.d,q5,cap5⟩ rfl) (by omega) (Nat.zero_le _) ?_;intro q7 cap7 w7 hown B8 Bq;have Bo:=hI (A0.out.push ⟨(d.page,Q.seq+1),d.d,q5,cap5⟩ Cl.out hown B8 Bq ⟨cb5 Ck.out B8 (λb hb=>⟨Below.block (B:=w5.heap.size) (bR.alloc nL _) b hb,by simp;omega⟩) (λb e=>A0.out.away_lt e),by show d.d.length<=2000;omega⟩);have AH:=Bo.out.2.2.2.1.trans A0.out.self;have f9:w7.frozen? ⟨s,9,none⟩=false:=(by unfold vX at AH;simp[World.frozen?,AH]);have c97:w7.cell? ⟨s,9,none⟩=some (.slice Af fr.length cf):=(by unfold vX at AH;simp[World.cell?,AH]);clear hown B8 Bq AH))
      all_goals
       go_wp2_with fail
       go_meet
       case rel=>exact ⟨q7,cap7,q5,cap5,_,Bo.out.1,λb hb=>Bo.out.2.1 b ⟨.inl (.inl hb.1),hb.2⟩,Bo.out.2.2.1.mono' λb k=>by rintro ⟨k1,k2⟩;rcases k with k | ⟨ad,k3,k4⟩;exact k1 k;exact k2 ad k3 k4,Bo.out.2.2.2.2,λ_ ad e=>(World.ownsRow.lt Ck.out ad.block (by rw[e];rfl)).1⟩
     case rest =>
      obtain ⟨Af',cf',A5,c5,y,Cm,AS,B7,Cn,Co⟩:=hcut
      have CN:Hid (∀b,b<w.heap.size->Clr b lv fr Al Af->Clr b lv (fr++[⟨(d.page,Q.seq+1),d.d,A5,c5⟩]) Al Af'):=hI λb hb k=>⟨k.1,λad e=>by
       rcases Cn ad e with ⟨a0,k1,k2⟩ | k2
       . rw[k2];exact k.2.1 a0 k1
       . omega,λq hq hl ad e=>by
       rw[<-List.append_assoc] at hq
       rcases List.mem_append.1 hq with k2 | k2
       . exact k.2.2 q k2 hl ad e
       . rw[List.mem_singleton] at k2
         subst k2
         have:=Co hl ad e
         omega⟩
      obtain ⟨W5,rfl⟩:∃W5,W5=wc:=⟨_,rfl⟩
      have AP:=hI Cm
      have Cp:=hI AS
      have Bv:=hI B7
      have Bw:∀b,w.heap.size<=b->∀ad,Af=some ad->b≠ad.block:=λb hb ad e e2=>by
       have:=HT.out.pool.there _ (HT.out.freshs ad e).1
       omega
      have CO:=HT.out.lt
      have Cq:w.heap.size<=W.heap.size:=AT.out.size
      have h5w:w.heap.size<=b5:=Nat.le_trans Cq AQ.out
      have h7w:w.heap.size<=b7:=by have:=C8.out;have:=B5.out.size;omega
      have h8w:w.heap.size<=b8:=by have:=CA.out;have:=AM.out.size;omega
      have Bp:=hI ((Bv.out.block (qD Bj.out) ⟨by omega,Bw b5 h5w⟩).trans Bj.out)
      have BS:=hI ((Bv.out.block (qD Bl.out) ⟨by omega,Bw b7 h7w⟩).trans Bl.out)
      have BT:=hI ((Bv.out.block (qD A6.out) ⟨by omega,Bw b8 h8w⟩).trans A6.out)
      clear r0 r1 k4 c9 Cm AS B7 Cn Co Bw h5w h7w h8w Cq CO CL Bb BR Bm
      obtain ⟨r0,r1,-,-⟩:=qG BT.out
      obtain ⟨m0,m1,-,-⟩:=qT BS.out
      have e11:Sem.run Tryz.prog (binOp BinOp.eql 33 (P2V (d.page,Q.seq+1)) (P2V (d.page,Q.seq+1))) W5=.ok (.bool true) W5:=(zDz (d.page,Q.seq+1) (d.page,Q.seq+1) W5).trans (by rw[decide_eq_true (p:=(d.page,Q.seq+1)=(d.page,Q.seq+1)) rfl])
      have c1:=AP.out.sc.c1
      obtain ⟨l11,f11,Ad⟩:=AP.out.pool.parts
      have Ag:=hI Ad
      clear Ad
      have CP:Hid (∀q∈lv++(fr++[(⟨(d.page,Q.seq+1),d.d,A5,c5⟩:Pg)]),zTp D (d.page,Q.seq+1) d.d q.r=q.d):=hI λq hq=>by
       rw[<-List.append_assoc] at hq
       rcases List.mem_append.1 hq with k | k
       . have hr:q.r∈qY lv++qY fr:=by rw[<-List.map_append];exact List.mem_map_of_mem k
         have CQ:q.r≠(d.page,Q.seq+1):=λe=>by
          have:=HI.out.seqs _ hr
          rw[e] at this
          have:Q.seq+1<=Q.seq:=this
          omega
         exact (if_neg CQ).trans (HD.out q k)
       . rw[List.mem_singleton] at k
         subst k
         exact if_pos rfl
      have Aj:Hid (∀w9,Below W5.heap.size W5 w9->PutPostC w s p c x g Q lv fr Al cl Af d.page d.d cc (.returned (.bool true)) w9):=hI λw9 h9=>by
       have CR:Safe (vW x s Af) w w9:=((Bd.out.then (qC A1.out)).mono' (G:=λb=>¬vW x s Af b) λb hb k=>hb k.1).trans (Turned.trans (Bv.out.mono' (G:=λb=>¬vW x s Af b) λb e k=>e k.2) (Turned.of_below (F:=λb=>¬vW x s Af b) h9) λ_ _ k=>k) λ_ _ k=>k
       refine ⟨rfl,Q1,zTp D (d.page,Q.seq+1) d.d,fr++[⟨(d.page,Q.seq+1),d.d,A5,c5⟩],Af',cf',_,AP.out.below h9,by have:=Be.out;unfold qY at this ⊢;rw[List.map_append];exact this,CP.out,AC.out,λb hb=>⟨.inl (Cp.out b hb).1,(Cp.out b hb).2⟩,CR,Bf.out,.inr (.inr ⟨AR.out,BN.out,A5,c5,rfl⟩),CN.out⟩
      go_wp2_with (first
       | (go_at_call 33;(with_reducible refine (zAb Ag.out Ap.out).mono ?_);rintro e w12 ⟨rfl,Ab⟩;rw[AR.out];have Ah:=hI Ab;obtain ⟨m0,m1,m2,-⟩:=qT ((Ab.block b5 (qD Bp.out)).trans Bp.out);clear Ab)
       | (go_at_call 42;(with_reducible refine (zCr (AP.out.sc.below Ah.out) B2.out (Ag.out.below Ah.out) Ap.out Q.S.rd Q.S.pr Q.S.er Q.bads dr dp de t B3.out).mono ?_);rintro e w13 ⟨rfl,AG⟩;have B4:=hI AG;clear AG)
       | fail)
      go_ret
      exact Aj.out _ (Ah.out.trans (B4.out.mono Ah.out.size))
end
end Go.Proofs.YtinkkmlbhkfmnaaGreat
