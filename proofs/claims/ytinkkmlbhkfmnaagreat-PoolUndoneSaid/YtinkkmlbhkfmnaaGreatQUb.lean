/- A part of what the last text proves. -/
import Derived.Test.YtinkkmlbhkfmnaaGreatQUa
set_option maxRecDepth 100000
set_option maxHeartbeats 40000000
namespace Go.Proofs.YtinkkmlbhkfmnaaGreat
section
open Go.RowKit
attribute [local go_sem] Oper.semAt_some
theorem zHv (all:List Pg) (pk:List Bool) (K:Int) (m:Nat):∀x∈vb all pk K m,x∈all/\x.r.1≠0:=by
 induction m with
 | zero=>intro x hx;cases hx
 | succ m ih =>
  intro x hx
  have hx':x∈vJ all pk K (vb all pk K m) (all.length - 1 - m):=hx
  unfold vJ at hx'
  split at hx'
  . exact ih x hx'
  . next y hy =>
    split at hx'
    . exact ih x hx'
    . next hn =>
      rcases List.mem_append.1 hx' with k | k
      . exact ih x k
      . rw[List.mem_singleton] at k
        subst k
        exact ⟨List.mem_of_getElem? hy,λe=>hn (.inl e)⟩
theorem zMs (all:List Pg) (pk:List Bool) (K:Int) (hK:0<=K) (m:Nat):((vb all pk K m).length:Int)<=K:=by
 induction m with
 | zero=>exact hK
 | succ m ih =>
  show ((vJ all pk K (vb all pk K m) (all.length - 1 - m)).length:Int)<=K
  unfold vJ
  split
  . exact ih
  . split
    . exact ih
    . next hn =>
      have:¬K<=((vb all pk K m).length:Int):=λk=>hn (.inr (.inr (.inr (.inl k))))
      rw[List.length_append]
      simp only[List.length_cons,List.length_nil]
      omega
theorem zMr (all:List Pg) (pk:List Bool) (K:Int) (m:Nat):((vb all pk K m).map (·.r.1)).Nodup:=by
 induction m with
 | zero=>exact List.nodup_nil
 | succ m ih =>
  show ((vJ all pk K (vb all pk K m) (all.length - 1 - m)).map (·.r.1)).Nodup
  unfold vJ
  split
  . exact ih
  . split
    . exact ih
    . next y _ hn =>
      rw[List.map_append,List.nodup_append]
      refine ⟨ih,by simp,λa ha b hb e=>?_⟩
      obtain ⟨z,hz,rfl⟩:=List.mem_map.1 ha
      simp only[List.map_cons,List.map_nil,List.mem_singleton] at hb
      refine hn (.inr (.inr (.inr (.inr ?_))))
      rw[List.any_eq_true]
      exact ⟨z,hz,by rw[beq_iff_eq,e,hb]⟩
theorem may_zero {s:Int} {d:List UInt8} (hs:1<=s/\s<=1099511627776) (hd:d.length<=60):vg 0 s d:=by
 refine ⟨by omega,hs,by omega,?_⟩
 have h1:=qn (Int.toNat 0) (by decide)
 have h2:=qn s.toNat (by omega)
 have h3:=qn d.length (by omega)
 unfold qo
 simp only[List.length_append,List.length_cons,List.length_nil]
 omega
section
variable {w w':World} {s p c l f:Nat} {x k:Nat->Prop} {g:Cf} {Q Q':PS} {D:Dat} {lv fr:List Pg} {Al Af:Option Addr} {cl cf:Nat}
theorem may_pick (hi:Inv Q D (qY lv) (qY fr)) (pk:List Bool):Q.may (qY (zDn (lv++fr) pk Q.K))=true:=by
 have hK:=hi.mid.ok.may.2.2.2.1
 refine may_of hi ?_ ?_ λr hr=>?_
 . rw[List.length_map]
   exact zMs _ _ _ (by omega) _
 . unfold ya
   have:=zMr (lv++fr) pk Q.K (lv++fr).length
   rw[List.map_map]
   have e:(List.map (λy:Pg=>y.r.1) (zDn (lv++fr) pk Q.K)).Nodup:=this
   show (!decide ((List.map (λy:Pg=>y.r.1) (zDn (lv++fr) pk Q.K)).Nodup))=false
   rw[decide_eq_true e]
   rfl
 . obtain ⟨y,hy,rfl⟩:=List.mem_map.1 hr
   obtain ⟨h1,h2⟩:=zHv _ _ _ _ y hy
   exact ⟨by rw[<-List.map_append];exact List.mem_map_of_mem h1,h2⟩
theorem zMh {W V:World} {y:Nat->Prop} {A A0:Option Addr} {m m0:Nat} {d:List UInt8} {l0:List P2} {er:Int} {Q1:PS} (hP:Pool W p c y Q) (ok:Ok Q) (hV:Below W.heap.size W V) (hd:RB W W.heap.size A d) (hl:RLies V A0 l0) (hx:∀ad,A0=some ad->W.heap.size<=ad.block/\ad.block<V.heap.size) {n0:Nat} (Dh:l0.length=n0) (AH:l0.length<=200) (C2:∀r∈l0,WfP r) (hm:Q.sealQ 100 d l0=some (er,Q1)) :
 Calls Tryz.prog 28 #[.pointer (some ⟨p,0,none⟩),.slice A d.length m,.slice A0 n0 m0] V λe w'=>e=.returned (.int .i64 er)/\Pool w' p c y Q1/\Safe y W w':=by
 subst Dh
 refine (q_seal 100 A m d A0 m0 l0 (hP.more hV) ok ((hd.below hV nL).mono hV.size) hl (λ_ ad e=>.inr (hx ad e)) AH C2 hm).mono ?_
 rintro e w' ⟨rfl,h1,h2⟩
 exact ⟨rfl,h1.less λ_ k=>.inl k,(qC hV).then' h2 λ_ _ k=>.inl k⟩
theorem zDe {P:Program} {w:World} {ops:Array Oper} {rest:List Oper} {o:Oper} {a:Act} {Q:Exit->Act->World->Prop} (C3:o.guard=none) (s x:Operand) (t:TypeId)
 (ho:o.op=.call { callee:=.builtin .append,args:=#[s,x],argTypes:=#[t,t] })
 (base:Nat) (e:TypeId) (i:TypeInfo) (z:Value) (size bytes:Nat) (ht:P.underlying t=some (.slice e)) (hi:P.info? e=some i) (hz:i.zero=some z)
 (hsize:i.size=size) (Di:i.bytes=bytes) (Dj:z.cells.size=size) (hsz:0<size)
 (v:Value) (n:Nat) (xs:List Value) (hs:a.eval s=v) (hown:w.ownsRow base e size v n xs)
 (A:Option Addr) (m c:Nat) (news:List Value) (hx:a.eval x=.slice A m c) (hl:news.length=m * size) (hA:A=none->m=0/\c=0) (hnews:∀ad,A=some ad->∀j u,news[j]? = some u->w.cell? (ad.add j)=some u) (h1:∀u∈news,u.oneCell'=true)
 (h63:n+m<=maxLen) (hbytes:(n+m) * bytes<=140737488355328) (hbase:base<=w.heap.size)
 (h:∀q cap w',w'.ownsRow base e size (.slice q (n+m) cap) (n+m) (xs++news)->w.grownBy w' v.ownBlock->wpList P ops Q rest (a.put o.dst (.slice q (n+m) cap)) w') :
 wpList P ops Q (o::rest) a w:=by
 refine wpList_plain C3 λ_ hK=>?_
 cases A with
 | some ad =>
  obtain ⟨v',w',hr,h2,h3,_⟩:=run_append_own (P:=P) (w:=w) base t o.type e i z size bytes ht hi hz hsize Di Dj hsz v n xs hown ad m c news hl (hnews ad rfl) h1 h63 hbytes hbase
  obtain ⟨q,cap,rfl,_⟩:=qN h2
  unfold Oper.wp execOp
  simp only[ho,resolve,invoke,builtin,Sem.run_bind,Sem.run_pure,Result.andThen_ok,List.map_toArray,List.map_cons,List.map_nil,hs,hx,hr]
  exact hK _ _ (h q cap w' h2 h3)
 | none =>
  obtain ⟨rfl,rfl⟩:=hA rfl
  have C4:news = []:=List.eq_nil_of_length_eq_zero (by simpa using hl)
  subst C4
  have hr:=run_append_owned_none (P:=P) (w:=w) base t o.type e i size ht hi v n xs hown
  obtain ⟨q,cap,rfl,_⟩:=qN hown
  unfold Oper.wp execOp
  simp only[ho,resolve,invoke,builtin,Sem.run_bind,Sem.run_pure,Result.andThen_ok,List.map_toArray,List.map_cons,List.map_nil,hs,hx,hr]
  exact hK _ _ (h q cap w (by simpa using hown) ⟨rfl,rfl,rfl,Nat.le_refl _,λ_ _ _=>rfl⟩)
theorem zHa {w:World} {ops:Array Oper} {rest:List Oper} {o:Oper} {a:Act} {Q:Exit->Act->World->Prop} (C3:o.guard=none) (s x:Operand) (ho:o.op=.call { callee:=.builtin .append,args:=#[s,x],argTypes:=#[31,31] })
 (base:Nat) (v:Value) (n:Nat) (xs:List Pg) (m:Nat) (l:List Pg) (ad:Addr) (c:Nat) (hs:a.eval s=v) (hx:a.eval x=.slice (some ad) m c) (hn:xs.length=n) (hm:l.length=m) (hown:GOwn w base v xs) (hl:GLies w (some ad) l) (h63:n+m<=1000000) (hbase:base<=w.heap.size)
 (h:∀q cap w',GOwn w' base (.slice q (n+m) cap) (xs++l)->w.grownBy w' v.ownBlock->((Value.slice q (n+m) cap).ownBlock=v.ownBlock\/(Value.slice q (n+m) cap).ownBlock=some w.heap.size)->wpList Tryz.prog ops Q rest (a.put o.dst (.slice q (n+m) cap)) w') :
 wpList Tryz.prog ops Q (o::rest) a w:=by
 subst hn
 subst hm
 refine wpList_plain C3 λ_ hK=>?_
 obtain ⟨i,hi,hz,hsz,hb⟩:=zDo
 obtain ⟨v',w',hr,h2,h3,-,h5⟩:=run_append_own_at (P:=Tryz.prog) w base 31 o.type 36 i _ 3 40 Tryz.underlying31 hi hz hsz hb rfl (by omega) v xs.length (vm xs) hown ad l.length c (vm l) (zBd l) (hl.cells rfl) (λu hu=>zDu hu) (by unfold maxLen;omega) (by omega) hbase
 obtain ⟨q,cap,rfl,_⟩:=qN h2
 unfold Oper.wp execOp
 simp only[ho,resolve,invoke,builtin,Sem.run_bind,Sem.run_pure,Result.andThen_ok,List.map_toArray,List.map_cons,List.map_nil,hs,hx,hr]
 exact hK _ _ (h q cap w' (by unfold GOwn;rw[List.length_append,zDv];exact h2) h3 h5)
theorem StAt.sealed {x0:Nat->Prop} {Q0:PS} {g0:Cf} {W4 W6 w7:World} {lv' L:List Pg} {Al' A7 q:Option Addr} {cl' c7 cap base:Nat} (h:StAt w s p c x g0 Q0 lv fr Al cl Af cf) (h4:StAt W4 s p c x0 g Q lv' [] Al' cl' none 0) (BN:∀b,x b->x0 b) (An:Safe (vW x s Af) w W4) (hL:∀y∈L,y∈lv++fr) (pg:Pg) (hA:∀ad,A7=some ad->x0 ad.block/\w.heap.size<=ad.block) (Ai:Below W4.heap.size W4 W6) (hown:GOwn w7 base (.slice q (L.length+1) cap) (L++[pg])) (hg:W6.grownBy w7 (Value.slice A7 L.length c7).ownBlock) (B5:(Value.slice q (L.length+1) cap).ownBlock=(Value.slice A7 L.length c7).ownBlock\/(Value.slice q (L.length+1) cap).ownBlock=some W6.heap.size) (hd:CB w7 (λb=>W4.heap.size<=b/\b<W6.heap.size) pg.A pg.d/\pg.d.length<=2000) :
 StAt (w7.setCell ⟨s,8,none⟩ (.slice q (L.length+1) cap)) s p c (λb=>x0 b\/New W4 (w7.setCell ⟨s,8,none⟩ (.slice q (L.length+1) cap)) b) g Q (L++[pg]) [] q cap none 0/\Turned (λb=>b=s\/∃ad,A7=some ad/\b=ad.block) W4 (w7.setCell ⟨s,8,none⟩ (.slice q (L.length+1) cap))/\w7.heap[s]? = W4.heap[s]? /\ (∀ad,q=some ad->(∃a0,A7=some a0/\ad.block=a0.block)\/W4.heap.size<=ad.block):=by
 have hs:=h4.lt
 have Dk:=h.lt
 have Dl:=An.size
 have Be:∀b,some b=(Value.slice A7 L.length c7).ownBlock->∃ad,A7=some ad/\b=ad.block:=λb e=>by
  cases A7 with
  | none=>have e':some b=(none:Option Nat):=e;cases e'
  | some ad=>have e':some b=some ad.block:=e;exact ⟨ad,rfl,Option.some.inj e'⟩
 have hk:∀b,b<W4.heap.size->(∀ad,A7=some ad->b≠ad.block)->w7.heap[b]? = W4.heap[b]? := λb hl hn =>
  (hg.block b (Nat.lt_of_lt_of_le hl Ai.size) λe=>by obtain ⟨ad,e1,e2⟩:=Be b e;exact hn ad e1 e2).trans (Ai.block b hl)
 have hsA:∀ad,A7=some ad->s≠ad.block:=λad e e2=>by have:=(hA ad e).2;omega
 have C5:w7.heap[s]? = W4.heap[s]? := hk s hs hsA
 have hsz:W4.heap.size<=w7.heap.size:=Nat.le_trans Ai.size hg.size
 have Dm:Turned (λb=>b=s\/∃ad,A7=some ad/\b=ad.block) W4 w7:=⟨hg.os.trans Ai.os,hg.tape.trans Ai.tape,hg.output.trans Ai.output,hsz,λb hl hn=>hk b hl λad e e2=>hn (.inr ⟨ad,e,e2⟩)⟩
 have ht:Turned (λb=>b=s\/∃ad,A7=some ad/\b=ad.block) W4 (w7.setCell ⟨s,8,none⟩ (.slice q (L.length+1) cap)):=Dm.setCell (p:=⟨s,8,none⟩) (λ_=>.inl rfl) _
 have CE:∀b,b≠s->(w7.setCell ⟨s,8,none⟩ (.slice q (L.length+1) cap)).heap[b]? = w7.heap[b]? := λb hn=>Below.heap_setCell w7 _ _ b hn
 have C6:∀ad,q=some ad->(∃a0,A7=some a0/\ad.block=a0.block)\/ad.block=W6.heap.size:=λad e=>by
  subst e
  rcases B5 with k | k
  . exact .inl (Be ad.block k)
  . exact .inr (Option.some.inj k)
 have C7:∀ad,q=some ad->ad.block<w7.heap.size:=λad e=>by
  subst e
  exact (World.ownsRow.lt hown ad.block rfl).2
 have Dn:∀i,(i=s\/∃ad,A7=some ad/\i=ad.block)->x0 i:=λi k=>by
  rcases k with k | ⟨ad,k1,k2⟩
  . rw[k];exact h4.hx
  . rw[k2];exact (hA ad k1).1
 have hkeep:∀b,vW x s Af b->(w7.setCell ⟨s,8,none⟩ (.slice q (L.length+1) cap)).heap[b]? = w.heap[b]? := λb hb=>(ht.block b (Nat.lt_of_lt_of_le (h.pool.there b hb.1) Dl) (by
  rintro (k | ⟨ad,k1,k2⟩)
  . exact hb.2.1 k
  . have:=(hA ad k1).2
    have:=h.pool.there b hb.1
    omega)).trans (An.block (h.pool.there b hb.1) hb)
 have AR:∀ad,q=some ad->ad.block≠s:=λad e e2=>by
  rcases C6 ad e with ⟨a0,k1,k2⟩ | k
  . exact hsA a0 k1 (e2.symm.trans k2)
  . have:=Ai.size;omega
 have C8:(w7.setCell ⟨s,8,none⟩ (.slice q (L.length+1) cap)).heap.size=w7.heap.size:=by simp
 refine ⟨⟨h4.pool.grow (ht.mono' Dn),.inl h4.hx,?_,h4.cfg,λhn=>?_,λad e=>⟨?_,AR ad e,λ_ e2=>(by cases e2)⟩,λe=>?_,zEv _ _,λad e=>(by cases e),λa ha=>?_⟩,ht,C5,λad e=>(C6 ad e).imp id λk=>by rw[k];exact Ai.size⟩
 . have:=heap_setCell_same w7 s 8 _ _ (.slice q (L.length+1) cap) (C5.trans h4.self)
   rw[this,List.length_append]
   rfl
 . obtain ⟨B,o,e,hB,hc⟩:=hown.lies.1 hn
   have C9:=CE B (AR _ e)
   exact ⟨B,o,e,by rw[C8];exact hB,λj hj=>⟨(World.cell?_of_block (a:=⟨B,o+j * 3,none⟩) C9).trans (hc j hj).1,(World.cell?_of_block (a:=⟨B,o+j * 3+1,none⟩) C9).trans (hc j hj).2.1,(World.cell?_of_block (a:=⟨B,o+j * 3+2,none⟩) C9).trans (hc j hj).2.2⟩⟩
 . rcases C6 ad e with ⟨a0,k1,k2⟩ | k
   . rw[k2];exact .inl (hA a0 k1).1
   . refine .inr ⟨by rw[k];exact Ai.size,?_⟩
     rw[C8];exact C7 ad e
 . obtain ⟨B,o,e',_,_⟩:=hown.lies.1 (by rw[List.length_append];exact Nat.succ_pos _)
   rw[e] at e';cases e'
 . rw[List.append_nil] at ha
   rcases List.mem_append.1 ha with k | k
   . obtain ⟨h1,h2⟩:=h.data a (hL a k)
     exact ⟨h1.keep (λb hb=>hkeep b hb) λb hb=>⟨.inl (BN b hb.1),hb.2.1,λ_ e=>(by cases e)⟩,h2⟩
   . rw[List.mem_singleton] at k
     subst k
     exact ⟨hd.1.keep (λb hb=>CE b (by omega)) λb hb=>⟨.inr ⟨hb.1,by have:=hg.size;rw[C8];omega⟩,by omega,λ_ e=>(by cases e)⟩,hd.2⟩
def SealPostC (w:World) (s p c:Nat) (x:Nat->Prop) (g:Cf) (Q:PS) (lv fr:List Pg) (Al Af:Option Addr) (pk:List Bool) (d:List UInt8) (cc:Nat) (e:Ending) (w':World):Prop :=
 e=.returned (.bool true)/\∃Q' D' lv' Al' cl' y,StAt w' s p c y g Q' lv' [] Al' cl' none 0/\Inv Q' D' (qY lv') []/\(∀q∈lv'++[],D' q.r=q.d)/\Bud Q' cc/\(∀b,vW x s Af b->vW y s none b)/\Safe (vW x s Af) w w'/\Keeps Q.S Q'.S/\((Q'.over=true/\lv'=lv/\Q'.seq<=Q.seq+1)\/(Q'.over=false/\Q'.seq=Q.seq+1/\∃A c,lv'=zDn (lv++fr) pk Q.K++[⟨(0,Q.seq+1),d,A,c⟩]))/\∀b,b<w.heap.size->Clr b lv fr Al Af->Clr b lv' [] Al' none
theorem lseal_anyC (d:Cal) (cc:Nat) (h:StAt w s p c x g Q lv fr Al cl Af cf) (hi:Inv Q D (qY lv) (qY fr)) (hd:∀q∈lv++fr,D q.r=q.d) (hb:Bud Q (cc+1)) (BO:CB w (vW x s Af) d.A d.d) (Ca:d.d.length<=60) (BP:d.A=none->d.d.length=0/\d.c=0) (BQ:BA w d.A2 d.pk) (Cb:d.pk.length<=1000) (AR:Q.seq+1<=1099511627776) :
 Calls Tryz.prog 11 #[.pointer (some ⟨s,0,none⟩),.agg #[.int .i64 d.dO,.int .i64 d.n,.int .i64 d.keep,.int .i64 d.page,.slice d.A d.d.length d.c,.slice d.A2 d.pk.length d.c2]] w (SealPostC w s p c x g Q lv fr Al Af d.pk d.d cc):=by
 obtain ⟨W,hW⟩:∃W,W=w.alloc (.cells #[.int .i64 d.dO,.int .i64 d.n,.int .i64 d.keep,.int .i64 d.page,.slice d.A d.d.length d.c,.slice d.A2 d.pk.length d.c2] 41):=⟨_,rfl⟩
 have hbW:Below w.heap.size w W:=by rw[hW];exact bR.alloc nL _
 have CF:Hid (W.heap[w.heap.size]? = some (.cells #[.int .i64 d.dO,.int .i64 d.n,.int .i64 d.keep,.int .i64 d.page,.slice d.A d.d.length d.c,.slice d.A2 d.pk.length d.c2] 41 (0,0))):=hI (by rw[hW];exact heap_alloc_new _ _)
 have Cc:=hI (h.below hbW)
 have Ad:=hI hbW
 have HI:=hI hi
 have BR:=hI hi.mid.ok
 have HD:=hI hd
 have AI:=hI hb
 have Cd:=hI BO
 have HT:=hI h
 have Do:=hI BQ
 have Dp:=hI AR
 obtain ⟨lp,fp,CG⟩:=Cc.out.pool.parts
 have CH:Hid (∀V,Below W.heap.size W V->Parts V p c lp fp Q):=hI λV hV=>CG.below hV
 have Ce:Hid (∀V,Below W.heap.size W V->V.cell? ⟨s,0,none⟩=some (.pointer (some ⟨c,0,none⟩))/\V.cell? ⟨s,1,none⟩=some (.pointer (some ⟨p,0,none⟩))):=hI λV hV=>⟨(Cc.out.sc.below hV).c0,(Cc.out.sc.below hV).c1⟩
 have AJ:=(Ce.out W bR).1
 have Dq:=(Ce.out W bR).2
 have Bf:=hI hW
 have Dr:=hI BP
 have AC:=hI h.cfg
 have CI:g.K=Q.K:=by rw[<-AC.out];rfl
 have Bg:Hid (lv.length<=1000/\fr.length<=1000):=hI (by have h9:=hi.lenA;have:=hi.mid.ok.may.2.2.2.1;rw[List.length_map,List.length_map] at h9;omega)
 obtain ⟨L,hL⟩:∃L,L=zDn (lv++fr) d.pk Q.K:=⟨_,rfl⟩
 have Ao:Hid (Q.may (qY L)=true):=hI (by rw[hL];exact may_pick hi d.pk)
 have Cg:=hI hL
 have Ch:L.length<=60:=by have h9:=zMs (lv++fr) d.pk Q.K (by have:=hi.mid.ok.may.2.2.2.1;omega) (lv++fr).length;have:=hi.mid.ok.may.2.2.2.1;have e:L.length=(vb (lv++fr) d.pk Q.K (lv++fr).length).length:=(by rw[hL];rfl);omega
 have AK:Hid (∀y∈L,y∈lv++fr/\y.r.1≠0):=hI (by rw[hL];exact zHv _ _ _ _)
 have Ds:Hid (vg 0 (Q.seq+1) d.d):=hI (may_zero ⟨by have:=hi.mid.ok.seq;omega,AR⟩ Ca)
 clear h hi hd hb BO CG hbW hW BP BQ AR hL
 go_enter Tryz.func11,Tryz.ntmps11
 go_upto_region 1 with fail
 rw[<-Bf.out]
 go_cut [5,6] from 10 to 19 (λv5 v6 wx=>∃b5,v5=.pointer (some ⟨b5,0,none⟩)/\v6=.int .i64 Q.bads/\wx.heap[b5]? = some (.cells #[.int .i64 Q.S.rd,.int .i64 Q.S.pr,.int .i64 Q.S.er] 85 (0,0))/\W.heap.size<=b5/\Below W.heap.size W wx)
 case first=>as_aux_lemma =>
  go_region_held3 (λV=>V.cell? ⟨s,0,none⟩=some (.pointer (some ⟨c,0,none⟩))/\V.cell? ⟨s,1,none⟩=some (.pointer (some ⟨p,0,none⟩)))
   (exact Ce.out _ (by first | exact bR.drew | exact bR | exact A1.out | exact A3.out | exact (bR.alloc nL _).drew | exact (bR.alloc nL _) | exact (A1.out.alloc A1.out.size _) | exact (A3.out.alloc A3.out.size _) | exact (((A1.out.setCell (by first | exact Nat.le_refl _ | exact A1.out.size | exact A3.out.size | simp | omega) _).setCell (by first | exact Nat.le_refl _ | exact A1.out.size | exact A3.out.size | simp | omega) _).setCell (by first | exact Nat.le_refl _ | exact A1.out.size | exact A3.out.size | simp | omega) _) | exact (((A3.out.setCell (by first | exact Nat.le_refl _ | exact A1.out.size | exact A3.out.size | simp | omega) _).setCell (by first | exact Nat.le_refl _ | exact A1.out.size | exact A3.out.size | simp | omega) _).setCell (by first | exact Nat.le_refl _ | exact A1.out.size | exact A3.out.size | simp | omega) _)))
   (first
    | (go_at_call 40;(with_reducible refine (zOm CH.out (by first | exact bR.drew | exact bR | exact A1.out | exact A3.out | exact (bR.alloc nL _).drew | exact (bR.alloc nL _) | exact (A1.out.alloc A1.out.size _) | exact (A3.out.alloc A3.out.size _) | exact (((A1.out.setCell (by first | exact Nat.le_refl _ | exact A1.out.size | exact A3.out.size | simp | omega) _).setCell (by first | exact Nat.le_refl _ | exact A1.out.size | exact A3.out.size | simp | omega) _).setCell (by first | exact Nat.le_refl _ | exact A1.out.size | exact A3.out.size | simp | omega) _) | exact (((A3.out.setCell (by first | exact Nat.le_refl _ | exact A1.out.size | exact A3.out.size | simp | omega) _).setCell (by first | exact Nat.le_refl _ | exact A1.out.size | exact A3.out.size | simp | omega) _).setCell (by first | exact Nat.le_refl _ | exact A1.out.size | exact A3.out.size | simp | omega) _))).mono ?_);rintro e wa ⟨rfl,hw,hv⟩;have A1:=hI hw;have Ea:=hI hv;(first | (have A4:=(hv.block W.heap.size (by simp)).trans (heap_alloc_new W (.cells #[.int .i64 0,.int .i64 0,.int .i64 0] 85));have As:=hI A4;obtain ⟨_,_,_,_,_,_⟩:=qT A4;obtain ⟨_,_,_⟩:=vD A4 (.int .i64 Q.S.rd) (.int .i64 Q.S.pr) (.int .i64 Q.S.er);clear A4) | (have A4:=(hv.block wb.heap.size (by simp)).trans (heap_alloc_new wb (.cells #[.int .i64 0,.int .i64 0,.int .i64 0] 85));have As:=hI A4;obtain ⟨_,_,_,_,_,_⟩:=qT A4;obtain ⟨_,_,_⟩:=vD A4 (.int .i64 Q.S.rd) (.int .i64 Q.S.pr) (.int .i64 Q.S.er);clear A4) | (have A4:=(hv.block _ (qD As.out)).trans As.out;have As:=hI A4;obtain ⟨_,_,_,_,_,_⟩:=qT A4;obtain ⟨_,_,_⟩:=vD A4 (.int .i64 Q.S.rd) (.int .i64 Q.S.pr) (.int .i64 Q.S.er);clear A4) | skip);clear hw hv)
    | (go_at_call 32;(with_reducible refine (zOn CH.out BR.out (by first | exact bR.drew | exact bR | exact A1.out | exact A3.out | exact (bR.alloc nL _).drew | exact (bR.alloc nL _) | exact (A1.out.alloc A1.out.size _) | exact (A3.out.alloc A3.out.size _) | exact (((A1.out.setCell (by first | exact Nat.le_refl _ | exact A1.out.size | exact A3.out.size | simp | omega) _).setCell (by first | exact Nat.le_refl _ | exact A1.out.size | exact A3.out.size | simp | omega) _).setCell (by first | exact Nat.le_refl _ | exact A1.out.size | exact A3.out.size | simp | omega) _) | exact (((A3.out.setCell (by first | exact Nat.le_refl _ | exact A1.out.size | exact A3.out.size | simp | omega) _).setCell (by first | exact Nat.le_refl _ | exact A1.out.size | exact A3.out.size | simp | omega) _).setCell (by first | exact Nat.le_refl _ | exact A1.out.size | exact A3.out.size | simp | omega) _))).mono ?_);rintro e wb ⟨rfl,hw,hv⟩;have A3:=hI hw;have CJ:=hI hv;(first | (have A4:=(hv.block W.heap.size (by simp)).trans (heap_alloc_new W (.cells #[.int .i64 0,.int .i64 0,.int .i64 0] 85));have As:=hI A4;obtain ⟨_,_,_,_,_,_⟩:=qT A4;obtain ⟨_,_,_⟩:=vD A4 (.int .i64 Q.S.rd) (.int .i64 Q.S.pr) (.int .i64 Q.S.er);clear A4) | (have A4:=(hv.block wa.heap.size (by simp)).trans (heap_alloc_new wa (.cells #[.int .i64 0,.int .i64 0,.int .i64 0] 85));have As:=hI A4;obtain ⟨_,_,_,_,_,_⟩:=qT A4;obtain ⟨_,_,_⟩:=vD A4 (.int .i64 Q.S.rd) (.int .i64 Q.S.pr) (.int .i64 Q.S.er);clear A4) | (have A4:=(hv.block _ (qD As.out)).trans As.out;have As:=hI A4;obtain ⟨_,_,_,_,_,_⟩:=qT A4;obtain ⟨_,_,_⟩:=vD A4 (.int .i64 Q.S.rd) (.int .i64 Q.S.pr) (.int .i64 Q.S.er);clear A4) | skip);clear hw hv))
  all_goals
   go_wp2_with fail
   go_meet
   case rel =>
    refine ⟨_,rfl,rfl,?_,?_,?_⟩
    . (first | exact heap_alloc_new _ _ | exact (CJ.out.block _ (by simp)).trans (heap_alloc_new _ _) | exact yr As.out _ _ _ | exact (CJ.out.block _ (by simp;exact qD As.out)).trans (yr As.out _ _ _))
    . first | exact Nat.le_refl _ | exact A1.out.size | exact A3.out.size
    . exact (by first | exact bR.drew | exact bR | exact A1.out | exact A3.out | exact (bR.alloc nL _).drew | exact (bR.alloc nL _) | exact (A1.out.alloc A1.out.size _) | exact (A3.out.alloc A3.out.size _) | exact (((A1.out.setCell (by first | exact Nat.le_refl _ | exact A1.out.size | exact A3.out.size | simp | omega) _).setCell (by first | exact Nat.le_refl _ | exact A1.out.size | exact A3.out.size | simp | omega) _).setCell (by first | exact Nat.le_refl _ | exact A1.out.size | exact A3.out.size | simp | omega) _) | exact (((A3.out.setCell (by first | exact Nat.le_refl _ | exact A1.out.size | exact A3.out.size | simp | omega) _).setCell (by first | exact Nat.le_refl _ | exact A1.out.size | exact A3.out.size | simp | omega) _).setCell (by first | exact Nat.le_refl _ | exact A1.out.size | exact A3.out.size | simp | omega) _))
 case rest =>
  obtain ⟨b5,rfl,rfl,Bh,CK,CL⟩:=hcut
  obtain ⟨W1,rfl⟩:∃W1,W1=wc:=⟨_,rfl⟩
  have Bi:=hI Bh
  have AL:=hI CK
  have Ci:=hI CL
  have AM:=hI ((Ci.out.block w.heap.size (qD CF.out)).trans CF.out)
  have AD:=hI (HT.out.below (Ad.out.trans (Ci.out.mono Ad.out.size)))
  have Ap:Hid (Below w.heap.size w W1):=hI (Ad.out.trans (Ci.out.mono Ad.out.size))
  obtain ⟨-,-,-,-,k4,k5⟩:=zEk AM.out
  have c8:=AD.out.sc.c8
  have c9:=AD.out.sc.c9
  have c5:=AD.out.sc.c5
  rw[CI] at c5
  clear Bh CK CL AJ Dq
  go_upto_region 2 with fail
  go_region_held3 (λV=>V.cell? ⟨s,8,none⟩=some (.slice Al lv.length cl)/\V.cell? ⟨s,9,none⟩=some (.slice Af fr.length cf)/\V.cell? ⟨s,5,none⟩=some (.int .i64 Q.K)/\V.cell? ⟨w.heap.size,5,none⟩=some (.slice d.A2 d.pk.length d.c2))
   (first | exact ⟨c8,c9,c5,k5⟩ | exact Du.out)
   (first
    | (go_at_call 17;(with_reducible refine (zPx Al Af cl cf lv fr d.A2 d.c2 d.pk Q.K W1.drew (AD.out.live.below bR.drew) (AD.out.fresh.lies.1.below bR.drew) AD.out.lnone AD.out.fnone ((Do.out.below Ap.out).below bR.drew) Bg.out.1 Bg.out.2 Cb).mono ?_);rintro e W2 ⟨A7,c7,rfl,hown,CM⟩;rw[<-Cg.out] at hown;rw[<-Cg.out];have AS:=hI hown;have Ag:Hid (Below W1.heap.size W1 W2):=hI (bR.drew.trans CM);have Du:Hid (W2.cell? ⟨s,8,none⟩=some (.slice Al lv.length cl)/\W2.cell? ⟨s,9,none⟩=some (.slice Af fr.length cf)/\W2.cell? ⟨s,5,none⟩=some (.int .i64 Q.K)/\W2.cell? ⟨w.heap.size,5,none⟩=some (.slice d.A2 d.pk.length d.c2)):=hI ⟨(AD.out.sc.below Ag.out).c8,(AD.out.sc.below Ag.out).c9,(AD.out.sc.below Ag.out).c5.trans (by rw[CI]),(Ag.out.cell (p:=⟨w.heap.size,5,none⟩) (qD AM.out)).trans k5⟩;clear hown CM)
    | fail)
  clear c8 c9 c5 k4 k5
  have Ae:Hid (Below w.heap.size w W2):=hI (Ap.out.trans (Ag.out.mono Ap.out.size))
  have AW:=hI ((Ag.out.block _ (qD Bi.out)).trans Bi.out)
  have AN:=hI ((Ag.out.block _ (qD AM.out)).trans AM.out)
  have Ah:=hI (HT.out.below Ae.out)
  have Cj:Hid (RB W2 W2.heap.size d.A d.d):=hI (((Cd.out.rb (B:=w.heap.size) λb hb=>HT.out.pool.there b hb.1).below Ae.out nL).mono Ae.out.size)
  obtain ⟨lp2,fp2,Bj⟩:=Ah.out.pool.parts
  have Ck:=hI Bj
  have Dv:=hI AS.out.lies
  have eseq:IntKind.i64.wrap (Q.seq+1)=Q.seq+1:=qp _ (by have:=BR.out.seq;omega)
  have c1:=Ah.out.sc.c1
  clear Bj
  go_upto_region 4 with (go_at_call 31;(with_reducible refine (q_seq Ck.out).mono ?_);rintro e wz ⟨rfl,hw⟩;obtain rfl:=hw)
  obtain ⟨er,Q1,CN,AE⟩:=zMf HI.out AI.out d.d (qY L)
  have Dw:=hI CN
  have Cl:=hI AE
  have Dx:Hid (∀r∈qY L,WfP r):=hI λr hr=>by
   obtain ⟨y,hy,rfl⟩:=List.mem_map.1 hr
   exact HI.out.wfp (by rw[<-List.map_append];exact List.mem_map_of_mem (AK.out y hy).1)
  have hwC:w.heap.size<W2.heap.size:=qD AN.out
  have AX:Hid (∀V,Below W2.heap.size W2 V->V.cell? ⟨s,1,none⟩=some (.pointer (some ⟨p,0,none⟩))/\V.cell? ⟨w.heap.size,4,none⟩=some (.slice d.A d.d.length d.c)):=hI λV hV=>by
   obtain ⟨-,-,-,-,e4,-⟩:=zEk ((hV.block _ (qD AN.out)).trans AN.out)
   exact ⟨(Ah.out.sc.below hV).c1,e4⟩
  have k4:=(AX.out W2 bR).2
  clear CN AE
  go_cut [9] from 42 to 50 (λv9 wx=>v9=.int .i64 er/\Pool wx p c (λb=>x b\/New w W2 b) Q1/\Safe (λb=>x b\/New w W2 b) W2 wx)
  case first=>as_aux_lemma =>
   go_region_held3 (λV=>V.cell? ⟨s,1,none⟩=some (.pointer (some ⟨p,0,none⟩))/\V.cell? ⟨w.heap.size,4,none⟩=some (.slice d.A d.d.length d.c))
    (first | exact ⟨c1,k4⟩ | exact AX.out _ bR.drew | exact AX.out _ CO.out | exact Dy.out)
    (first
     | (go_at_call 41;(with_reducible refine (zYv A7 c7 L W2.drew (Dv.out.1.below bR.drew) (by omega)).mono ?_);rintro e wr1 ⟨A8,c8,rfl,CP,CQ,CR⟩;have Dz:=hI CP;have DA:Hid (∀ad,A8=some ad->W2.heap.size<=ad.block/\ad.block<wr1.heap.size):=hI CQ;have CO:Hid (Below W2.heap.size W2 wr1):=hI (bR.drew.trans CR);clear CP CQ CR)
     | (go_at_call 28;(with_reducible refine (zMh Ah.out.pool BR.out CO.out Cj.out Dz.out DA.out (n0:=L.length) (List.length_map _) (by rw[List.length_map];omega) Dx.out Dw.out).mono ?_);rintro e wr2 ⟨rfl,Bl,AT⟩;have Cm:=hI Bl;have At:=hI AT;have Dy:Hid (wr2.cell? ⟨s,1,none⟩=some (.pointer (some ⟨p,0,none⟩))/\wr2.cell? ⟨w.heap.size,4,none⟩=some (.slice d.A d.d.length d.c)):=hI ⟨(Ah.out.sc.block (At.out.block Ah.out.lt Ah.out.hx)).c1,(World.cell?_of_block (a:=⟨w.heap.size,4,none⟩) (At.out.block hwC (.inr ⟨Nat.le_refl _,hwC⟩))).trans k4⟩;clear Bl AT)
     | fail)
   go_wp2_with fail
   go_meet
   case rel=>exact ⟨rfl,Cm.out,At.out⟩
  case rest =>
   obtain ⟨rfl,Bl,AT⟩:=hcut
   obtain ⟨W3,rfl⟩:∃W3,W3=wc:=⟨_,rfl⟩
   clear c1 k4 eseq
   have Cm:=hI Bl
   have At:=hI AT
   have BS:=Ae.out.size
   have Bm:=hI ((At.out.block (qD AW.out) (.inr ⟨by have:=AL.out;have:=Ad.out.size;omega,qD AW.out⟩)).trans AW.out)
   have Bn:=hI ((At.out.block hwC (.inr ⟨Nat.le_refl _,hwC⟩)).trans AN.out)
   have DB:Hid (RB W3 W3.heap.size d.A d.d):=hI (by
    have q1:=Cd.out.keep (λb hb=>Ae.out.block b (HT.out.pool.there b hb.1)) (λb hb=>hb)
    have q2:=q1.keep (λb hb=>At.out.block (Nat.lt_of_lt_of_le (HT.out.pool.there b hb.1) Ae.out.size) (.inl hb.1)) (λb hb=>hb)
    exact q2.rb (B:=W3.heap.size) λb hb=>Nat.lt_of_lt_of_le (Nat.lt_of_lt_of_le (HT.out.pool.there b hb.1) Ae.out.size) At.out.size)
   have AY:Hid (GOwn W3 W1.heap.size (.slice A7 L.length c7) L):=hI (vS AS.out λk e=>At.out.block (World.ownsRow.lt AS.out k e).2 (.inr ⟨Nat.le_trans Ap.out.size (World.ownsRow.lt AS.out k e).1,(World.ownsRow.lt AS.out k e).2⟩))
   have DC:Hid (Safe x w W3):=hI ((qC Ae.out).then' At.out λ_ _ k=>.inl k)
   have AZ:Q1.cf=g:=by
    rw[<-AC.out]
    have AE:=Cl.out
    cases AE with
    | arg _=>rfl
    | over0 _ _ _=>rfl
    | over _ _ _ _ _ _ hc _ _ =>
     obtain ⟨s1,s2,s3,s4,s5,s6⟩:=hc.same
     unfold PS.cf
     rw[s1,s2,s3,s4,s5,s6]
    | ok _ _ _ _ _ _ hc _ _ =>
     obtain ⟨s1,s2,s3,s4,s5,s6⟩:=hc.same
     unfold PS.cf
     rw[s1,s2,s3,s4,s5,s6]
   have AO:=hI (Ah.out.safe At.out Cm.out (λ_ k=>k) AZ)
   have Bo:=hI AZ
   obtain ⟨B6,CT⟩:=AO.out.clear
   have Aa:=hI B6
   have B7:=hI CT
   have Eb:=AO.out.lt
   have AE:=AO.out.self
   have f9:W3.frozen? ⟨s,9,none⟩=false:=by
    unfold vX at AE
    simp[World.frozen?,AE]
   have c9:=AO.out.sc.c9
   clear AE Bl AT AZ B6 CT
   obtain ⟨W4,Cn⟩:∃W4,W4=W3.setCell ⟨s,9,none⟩ (.slice none 0 0):=⟨_,rfl⟩
   rw[<-Cn] at Aa B7
   go_upto_region 6 with fail
   rw[<-Cn]
   clear Cn c9 f9
   have Dk:=HT.out.lt
   have Bp:b5≠s:=by have:=AL.out;have:=Ad.out.size;omega
   have Aq:=hI ((B7.out.block b5 (qD Bm.out) Bp).trans Bm.out)
   have Bq:=hI ((B7.out.block w.heap.size (qD Bn.out) (by omega)).trans Bn.out)
   have Ar:Hid (Safe (vW x s Af) w W4):=hI ((DC.out.mono' (G:=λb=>¬vW x s Af b) λb hb k=>hb k.1).trans (B7.out.mono' (G:=λb=>¬vW x s Af b) λb e k=>k.2.1 e) λ_ _ k=>k)
   obtain ⟨l4,f4,Br⟩:=Aa.out.pool.parts
   have B0:=hI Br
   clear Br
   have AE:=Cl.out
   clear Cl
   have CU:g.Sp=Q.Sp:=by rw[<-AC.out];rfl
   have c1:=Aa.out.sc.c1
   cases AE with
   | arg ha =>
    rcases ha with ha | ha
    . exact absurd Ds.out ha
    . have Bs:=Ao.out
      rw[ha] at Bs;cases Bs
   | over0 _ _ ho =>
    have Aj:Hid (Ok Q.undo):=hI BR.out.undo
    have AU:Hid (Q.undo.over=true):=hI ho
    have Bt:Hid (Inv Q.undo D (qY lv) []):=hI HI.out.undo
    have Bu:Hid (Keeps Q.S Q.undo.S):=hI (Keeps.refl _)
    have Au:Hid (Bud Q.undo cc):=hI (AI.out.less (Nat.le_succ _)).undo
    have Co:Hid (decide (Q.Sp<Q.bads)=true):=hI (by have:=ho;unfold PS.over at this;exact this)
    clear ho
    have Av:Hid (∀w9,Below W4.heap.size W4 w9->SealPostC w s p c x g Q lv fr Al Af d.pk d.d cc (.returned (.bool true)) w9):=hI λw9 h9=>⟨rfl,Q.undo,D,lv,Al,cl,_,Aa.out.below h9,Bt.out,λq hq=>HD.out q (by rw[List.append_nil] at hq;exact List.mem_append_left _ hq),Au.out,λb hb=>⟨.inl (.inl hb.1),hb.2.1,λ_ e=>(by cases e)⟩,Ar.out.trans (Turned.of_below (F:=λb=>¬vW x s Af b) h9) λ_ _ k=>k,Bu.out,.inl ⟨AU.out,rfl,(by show Q.seq<=Q.seq+1;omega)⟩,λ_ _ k=>k.clear⟩
    have e5:=Co.out
    go_wp2_with (first
     | (go_at_call 33;(with_reducible refine (zAb B0.out Aj.out).mono ?_);rintro e w12 ⟨rfl,A6⟩;rw[AU.out];have A9:=hI A6;obtain ⟨m0,m1,m2,-⟩:=qT ((A6.block b5 (qD Aq.out)).trans Aq.out);have c4:=(Aa.out.sc.below A6).c4;rw[CU] at c4;clear A6)
     | fail)
    go_ret
    exact Av.out _ (A9.out)
   | over _ _ _ ho Bv AP AJ Bw Ak =>
    have Aj:=hI AP.mid.ok
    have AU:Hid (Q1.over=true):=hI Bv
    have Bt:Hid (Inv Q1 D (qY lv) []):=hI AP
    have Bu:Hid (Keeps Q.S Q1.S):=hI AJ.keeps
    have Au:Hid (Bud Q1 cc):=hI Ak
    have BT:Hid (Q1.seq=Q.seq+1):=hI Bw
    have Co:Hid (decide (Q.Sp<Q.bads)=false):=hI (by have:=ho;unfold PS.over at this;exact this)
    obtain ⟨dr,dp,de,t,Aw⟩:=zSo (c:=cc * 1000000) HI.out.mid AP (AI.out.less (Nat.le_succ cc)).low Ak.low AJ
    have B1:=hI Aw
    clear Aw Bv AP AJ Bw Ak
    clear ho
    have Av:Hid (∀w9,Below W4.heap.size W4 w9->SealPostC w s p c x g Q lv fr Al Af d.pk d.d cc (.returned (.bool true)) w9):=hI λw9 h9=>⟨rfl,Q1,D,lv,Al,cl,_,Aa.out.below h9,Bt.out,λq hq=>HD.out q (by rw[List.append_nil] at hq;exact List.mem_append_left _ hq),Au.out,λb hb=>⟨.inl (.inl hb.1),hb.2.1,λ_ e=>(by cases e)⟩,Ar.out.trans (Turned.of_below (F:=λb=>¬vW x s Af b) h9) λ_ _ k=>k,Bu.out,.inl ⟨AU.out,rfl,Int.le_of_eq BT.out⟩,λ_ _ k=>k.clear⟩
    have e5:=Co.out
    go_wp2_with (first
     | (go_at_call 33;(with_reducible refine (zAb B0.out Aj.out).mono ?_);rintro e w12 ⟨rfl,A6⟩;rw[AU.out];have A9:=hI A6;obtain ⟨m0,m1,m2,-⟩:=qT ((A6.block b5 (qD Aq.out)).trans Aq.out);have c4:=(Aa.out.sc.below A6).c4;rw[CU] at c4;clear A6)
     | (go_at_call 42;(with_reducible refine (zCr (Aa.out.sc.below A9.out) Bo.out (B0.out.below A9.out) Aj.out Q.S.rd Q.S.pr Q.S.er Q.bads dr dp de t B1.out).mono ?_);rintro e w13 ⟨rfl,Ax⟩;have B2:=hI Ax;clear Ax)
     | fail)
    go_ret
    exact Av.out _ ((A9.out.trans (B2.out.mono A9.out.size)))
   | ok _ _ _ ho Bv AP AJ Bw Ak =>
    have Aj:=hI AP.mid.ok
    have AU:Hid (Q1.over=false):=hI Bv
    have Bt:=hI AP
    have Bu:Hid (Keeps Q.S Q1.S):=hI AJ.keeps
    have Au:Hid (Bud Q1 cc):=hI Ak
    have BT:Hid (Q1.seq=Q.seq+1):=hI Bw
    obtain ⟨dr,dp,de,t,Aw⟩:=zSo (c:=cc * 1000000) (HI.out.mid.upd (d:=d.d) (HI.out.new 0)) AP (AI.out.less (Nat.le_succ cc)).low Ak.low AJ
    have B1:=hI Aw
    clear Aw Bv AP AJ Bw Ak ho c1
    have Cp:Hid (RB W4 W4.heap.size d.A d.d):=hI ((Cd.out.keep (λb hb=>Ar.out.block (HT.out.pool.there b hb.1) hb) (λb hb=>hb)).rb (B:=W4.heap.size) λb hb=>Nat.lt_of_lt_of_le (HT.out.pool.there b hb.1) Ar.out.size)
    have By:Hid (GOwn W4 W1.heap.size (.slice A7 L.length c7) L):=hI (vS AY.out λk e=>B7.out.block k (World.ownsRow.lt AY.out k e).2 (by have:=(World.ownsRow.lt AY.out k e).1;have:=Ap.out.size;omega))
    have Cq:Hid (∀ad,A7=some ad->(x ad.block\/New w W2 ad.block)/\w.heap.size<=ad.block):=hI λad e=>by
     have k1:=AS.out.lies.2.2.1 ad e
     have k2:=(World.ownsRow.lt AS.out ad.block (by rw[e];rfl)).2
     have k3:=Ap.out.size
     have k4:w.heap.size<=ad.block:=Nat.le_trans k3 k1
     exact ⟨.inr ⟨k4,k2⟩,k4⟩
    obtain ⟨-,-,-,-,k4,-⟩:=zEk Bq.out
    obtain ⟨i0,DD,BU,DE,Cr⟩:=info_parts vP
    have HE:Hid ((W4.alloc (.cells #[] 5)).ownsRow W4.heap.size 5 1 (.slice (some ⟨W4.heap.size,0,none⟩) 0 0) 0 []):=hI (World.ownsRow_lit (base:=W4.heap.size) (e:=5) (size:=1) W4 #[] 0 nL (by omega) rfl)
    have BV:Hid (Below W4.heap.size W4 (W4.alloc (.cells #[] 5))):=hI (bR.alloc nL _)
    have DF:Hid (∀ad,d.A=some ad->∀j u,(d.d.map ub)[j]? = some u->(W4.alloc (.cells #[] 5)).cell? (ad.add j)=some u):=hI λad e j u hu=>by
     have hj:j<d.d.length:=by
      rcases Nat.lt_or_ge j d.d.length with k | k
      . exact k
      . rw[List.getElem?_eq_none (by simpa using k)] at hu;cases hu
     obtain ⟨ad',e',_,hc⟩:=(Cp.out.below BV.out nL) (by omega)
     rw[e] at e'
     obtain rfl:=Option.some.inj e'
     rw[hc j hj]
     rw[List.getElem?_map,List.getElem?_eq_getElem hj] at hu
     exact hu
    have DG:Hid (∀u∈d.d.map ub,u.oneCell'=true):=hI λu hu=>by obtain ⟨b,_,rfl⟩:=List.mem_map.1 hu;rfl
    have AT:=Aa.out.lt
    have Cs:w.heap.size<W4.heap.size:=qD Bq.out
    go_upto_region 13 with fail
    go_cut [] from 96 to 108 (λwx=>∃(Al':Option Addr) (cl':Nat) (A5:Option Addr) (c5:Nat) (y:Nat->Prop),StAt wx s p c y g Q1 (L++[⟨(0,Q.seq+1),d.d,A5,c5⟩]) [] Al' cl' none 0/\(∀b,x b->y b)/\Safe (λb=>b≠s/\∀ad,A7=some ad->b≠ad.block) W4 wx/\(∀ad,Al'=some ad->(∃a0,A7=some a0/\ad.block=a0.block)\/W4.heap.size<=ad.block)/\(0<d.d.length->∀ad,A5=some ad->W4.heap.size<=ad.block))
    case first=>as_aux_lemma =>
     go_wp2_with (first
      | (at_builtin;refine zDe rfl (.tmp 100) (.tmp 102) 34 rfl W4.heap.size 5 i0 _ 1 1 Tryz.underlying34 DD BU DE Cr rfl (by decide) (.slice (some ⟨W4.heap.size,0,none⟩) 0 0) 0 [] rfl HE.out d.A d.d.length d.c (d.d.map ub) rfl (by simp) Dr.out DF.out DG.out (by unfold maxLen;omega) (by omega) BV.out.size ?_;intro q5 cap5 w5 hown B8;have CV:Hid (w5.ownsRow W4.heap.size 5 1 (.slice q5 d.d.length cap5) d.d.length (d.d.map ub)):=hI (by simpa using hown);have AL:Hid (Below W4.heap.size W4 w5):=hI (BV.out.grown B8 BV.out.size λk e=>(World.ownsRow.lt HE.out k e).1);have Ct:=AL.out.size;have Ec:s<w5.heap.size:=Nat.lt_of_lt_of_le AT Ct;have Am:Hid (Below W4.heap.size W4 (w5.alloc (.cells #[.int .i64 0,.int .i64 (Q.seq+1),.slice q5 d.d.length cap5] 36))):=hI (AL.out.alloc AL.out.size _);clear hown B8)
      | (at_builtin;refine zHa rfl (.tmp 97) (.tmp 105) rfl W1.heap.size (.slice A7 L.length c7) L.length L 1 [⟨(0,Q.seq+1),d.d,q5,cap5⟩] ⟨w5.heap.size,0,none⟩ 1 rfl rfl rfl rfl (yS By.out Am.out) (zBx w5 ⟨(0,Q.seq+1),d.d,q5,cap5⟩ rfl) (by omega) (by have:=Ag.out.size;have:=At.out.size;have:=B7.out.size;have:=Am.out.size;omega) ?_;intro q7 cap7 w7 hown B8 B5;have BW:=hI (StAt.sealed HT.out Aa.out (λ_ k=>.inl k) Ar.out (λy hy=>(AK.out y hy).1) ⟨(0,Q.seq+1),d.d,q5,cap5⟩ Cq.out Am.out hown B8 B5 ⟨cb5 CV.out B8 (λb hb=>⟨Below.block (B:=w5.heap.size) (bR.alloc nL _) b hb,by simp;omega⟩) (λb e=>(World.ownsRow.lt By.out b e).2),by show d.d.length<=2000;omega⟩);have Ay:=BW.out.2.2.1.trans Aa.out.self;have f8:w7.frozen? ⟨s,8,none⟩=false:=(by unfold vX at Ay;simp[World.frozen?,Ay]);have c87:w7.cell? ⟨s,8,none⟩=some (.slice Al lv.length cl):=(by unfold vX at Ay;simp[World.cell?,Ay]);clear hown B8 B5 Ay))
     go_meet
     case rel=>exact ⟨q7,cap7,q5,cap5,_,BW.out.1,λb hb=>.inl (.inl hb),BW.out.2.1.mono' λb k=>by rintro ⟨k1,k2⟩;rcases k with k | ⟨ad,k3,k4⟩;exact k1 k;exact k2 ad k3 k4,BW.out.2.2.2,λ_ ad e=>(World.ownsRow.lt CV.out ad.block (by rw[e];rfl)).1⟩
    case rest =>
     obtain ⟨Al',cl',A5,c5,y,AF,CW,An,CX,CY⟩:=hcut
     have DH:Hid (∀b,b<w.heap.size->Clr b lv fr Al Af->Clr b (L++[⟨(0,Q.seq+1),d.d,A5,c5⟩]) [] Al' none):=hI λb hb k=>⟨λad e=>by
      rcases CX ad e with ⟨a0,k1,k2⟩ | k2
      . have:=(Cq.out a0 k1).2
        omega
      . omega,λ_ e=>(by cases e),λq hq hl ad e=>by
      rw[List.append_nil] at hq
      rcases List.mem_append.1 hq with k2 | k2
      . exact k.2.2 q (AK.out q k2).1 hl ad e
      . rw[List.mem_singleton] at k2
        subst k2
        have:=CY hl ad e
        omega⟩
     obtain ⟨W5,rfl⟩:∃W5,W5=wc:=⟨_,rfl⟩
     have Az:=hI AF
     have DI:=hI CW
     have CZ:=hI An
     have hb5A:∀ad,A7=some ad->b5≠ad.block:=λad e e2=>by
      have k1:=AS.out.lies.2.2.1 ad e
      have k2:=qD Bi.out
      have k3:W1.heap.size<=ad.block:=k1
      omega
     have Bz:=hI ((CZ.out.block (qD Aq.out) ⟨Bp,hb5A⟩).trans Aq.out)
     clear k4 AF CW An CX CY AT Cs hb5A
     have c1:=Az.out.sc.c1
     obtain ⟨l11,f11,AV⟩:=Az.out.pool.parts
     have AA:=hI AV
     clear AV
     have DJ:Hid (∀q∈(L++[(⟨(0,Q.seq+1),d.d,A5,c5⟩:Pg)])++[],zTp D (0,Q.seq+1) d.d q.r=q.d):=hI λq hq=>by
      rw[List.append_nil] at hq
      rcases List.mem_append.1 hq with k | k
      . have h0:=(AK.out q k).1
        have hr:q.r∈qY lv++qY fr:=by rw[<-List.map_append];exact List.mem_map_of_mem h0
        have BB:q.r≠(0,Q.seq+1):=λe=>by
         have:=HI.out.seqs _ hr
         rw[e] at this
         have:Q.seq+1<=Q.seq:=this
         omega
        exact (if_neg BB).trans (HD.out q h0)
      . rw[List.mem_singleton] at k
        subst k
        exact if_pos rfl
     have Av:Hid (∀w9,Below W5.heap.size W5 w9->SealPostC w s p c x g Q lv fr Al Af d.pk d.d cc (.returned (.bool true)) w9):=hI λw9 h9=>by
      have DK:Safe (vW x s Af) w w9:=Ar.out.trans (Turned.trans ((CZ.out.mono' (G:=λb=>¬(b≠s/\∀ad,A7=some ad->b≠ad.block)) λb e=>e)) (Turned.of_below (F:=λb=>¬(b≠s/\∀ad,A7=some ad->b≠ad.block)) h9) λ_ _ k=>k) λb hb k=>by
       intro hw
       refine k ⟨hw.2.1,λad e e2=>?_⟩
       have:=(Cq.out ad e).2
       omega
      refine ⟨rfl,Q1,zTp D (0,Q.seq+1) d.d,L++[⟨(0,Q.seq+1),d.d,A5,c5⟩],Al',cl',_,Az.out.below h9,by have:=Bt.out;unfold qY at this ⊢;rw[List.map_append];exact this,DJ.out,Au.out,λb hb=>⟨.inl (DI.out b hb.1),hb.2.1,λ_ e=>(by cases e)⟩,DK,Bu.out,.inr ⟨AU.out,BT.out,A5,c5,by rw[<-Cg.out]⟩,DH.out⟩
     have Cu:Q1.seq=Q.seq+1:=BT.out
     go_wp2_with (first
      | (go_at_call 33;(with_reducible refine (zAb AA.out Aj.out).mono ?_);rintro e w12 ⟨rfl,A6⟩;rw[AU.out];have A9:=hI A6;obtain ⟨m0,m1,m2,-⟩:=qT ((A6.block b5 (qD Bz.out)).trans Bz.out);have c12:=(Az.out.sc.below A6).c1;clear A6)
      | (go_at_call 31;(with_reducible refine (q_seq (AA.out.below A9.out)).mono ?_);rintro e wz ⟨rfl,hw⟩;obtain rfl:=hw;rw[Cu])
      | (go_at_call 42;(with_reducible refine (zCr (Az.out.sc.below A9.out) Bo.out (AA.out.below A9.out) Aj.out Q.S.rd Q.S.pr Q.S.er Q.bads dr dp de t B1.out).mono ?_);rintro e w13 ⟨rfl,Ax⟩;have B2:=hI Ax;clear Ax)
      | fail)
     go_ret
     exact Av.out _ (A9.out.trans (B2.out.mono A9.out.size))
end
end
section
open Go.RowKit
attribute [local go_sem] Oper.semAt_some
theorem badB_set {l:List Bk} {k:Nat} (hk:k<l.length):qx (l.set k { l.getD k noB with bad:=true })=qx l+(if (l.getD k noB).bad=true then 0 else 1):=by
 unfold qx
 rw[List.countP_set hk]
 have e:l.getD k noB=l[k]:=by rw[List.getD_eq_getElem?_getD,List.getElem?_eq_getElem hk];rfl
 rw[e]
 have hp:l[k].bad=true->1<=List.countP (λb=>b.bad) l:=λh=>List.countP_pos_iff.2 ⟨l[k],List.getElem_mem hk,h⟩
 cases h:l[k].bad with
 | true=>have:=hp h;simp;omega
 | false=>simp
theorem false64:(#[.bool false,.bool false,.bool false,.bool false,.bool false,.bool false,.bool false,.bool false,.bool false,.bool false,.bool false,.bool false,.bool false,.bool false,.bool false,.bool false,.bool false,.bool false,.bool false,.bool false,.bool false,.bool false,.bool false,.bool false,.bool false,.bool false,.bool false,.bool false,.bool false,.bool false,.bool false,.bool false,.bool false,.bool false,.bool false,.bool false,.bool false,.bool false,.bool false,.bool false,.bool false,.bool false,.bool false,.bool false,.bool false,.bool false,.bool false,.bool false,.bool false,.bool false,.bool false,.bool false,.bool false,.bool false,.bool false,.bool false,.bool false,.bool false,.bool false,.bool false,.bool false,.bool false,.bool false,.bool false]:Array Value)=Array.replicate 64 (.bool false):=rfl
theorem zVn {M:List Bk} {k:Nat} (hk:k<M.length) (i:Nat):((vV M (k:Int)).getD i noB).bad=if i=k then true else (M.getD i noB).bad:=by
 have e:vV M (k:Int)=M.set k { M.getD k noB with bad:=true } :=by
  unfold vV
  rw[if_pos ⟨by omega,by omega⟩]
  rfl
 rw[e]
 by_cases h:i=k
 . rw[if_pos h,h,List.getD_eq_getElem?_getD,List.getElem?_set_self hk];rfl
 . rw[if_neg h,List.getD_eq_getElem?_getD,List.getElem?_set_ne (λe=>h e.symm),<-List.getD_eq_getElem?_getD]
theorem zVm {M:List Bk} {k:Nat} (hk:k<M.length):qx (vV M (k:Int))=qx M+(if (M.getD k noB).bad=true then 0 else 1):=by
 have e:vV M (k:Int)=M.set k { M.getD k noB with bad:=true } :=by
  unfold vV
  rw[if_pos ⟨by omega,by omega⟩]
  rfl
 rw[e]
 exact badB_set hk
theorem zJa {M:List Bk} {b:Int} (h:¬(0<=b/\b<(M.length:Int))):vV M b=M:=by
 unfold vV
 rw[if_neg h]
section
variable {w w':World}
def zGz (w:World) (B P Sp K U:Int) (bad:List Int) (l:List Cal) (e:Ending) (w':World):Prop :=
 (e=.returned (.pointer none)/\Below w.heap.size w w')\/∃s p c x Q,e=.returned (.pointer (some ⟨s,0,none⟩))/\StAt w' s p c x ⟨B,P,Sp,K,U,Q.bad⟩ Q [] [] none 0 none 0/\(∀D,Inv Q D [] [])/\(∀cc,cc<=1000->Bud Q cc)/\Q.over=false/\Q.seq=0/\(∃nb np,Q.S=qZ nb np bad)/\(∀b,b<w.heap.size->x b/\b≠s)/\Below w.heap.size w w'/\yBf B P l/\bad.length<=60
theorem zIh (B P Sp K U:Int) (Ab:Option Addr) (cb:Nat) (bad:List Int) (A:Option Addr) (m:Nat) (l:List Cal) (w:World) (BC:IntsArg w Ab bad) (h:CalsLie w A l) (hl:l.length<=maxLen) (Ed:bad.length<=maxLen):Calls Tryz.prog 9 #[.agg #[.int .i64 B,.int .i64 P,.int .i64 Sp,.int .i64 K,.int .i64 U],.slice Ab bad.length cb,.slice A l.length m] w (zGz w B P Sp K U bad l):=by
 obtain ⟨W,hW⟩:∃W,W=w.alloc (.cells #[.int .i64 B,.int .i64 P,.int .i64 Sp,.int .i64 K,.int .i64 U] 23):=⟨_,rfl⟩
 have hbW:Below w.heap.size w W:=by rw[hW];exact bR.alloc nL _
 have Ad:=hI hbW
 have HX:Hid (W.heap[w.heap.size]? = some (.cells #[.int .i64 B,.int .i64 P,.int .i64 Sp,.int .i64 K,.int .i64 U] 23 (0,0))):=hI (by rw[hW];exact heap_alloc_new _ _)
 have AC:Hid (∀V,Below W.heap.size W V->V.cell? ⟨w.heap.size,0,none⟩=some (.int .i64 B)/\V.cell? ⟨w.heap.size,1,none⟩=some (.int .i64 P)/\V.cell? ⟨w.heap.size,2,none⟩=some (.int .i64 Sp)/\V.cell? ⟨w.heap.size,3,none⟩=some (.int .i64 K)/\V.cell? ⟨w.heap.size,4,none⟩=some (.int .i64 U)):=hI λV hV=>cfg5 ((hV.block _ (qD HX.out)).trans HX.out)
 have D0:=hI BC
 have HL:=hI h
 have Ee:maxLen=9223372036854775807:=rfl
 have Bf:=hI hW
 obtain ⟨a0,a1,a2,a3,a4⟩:=AC.out W bR
 clear BC h hbW hW
 go_enter Tryz.func9,Tryz.ntmps9
 go_upto_region 1 with fail
 rw[<-Bf.out]
 go_wp2_with fail
 refine (zQg B P Sp K U A m l W (HL.out.below Ad.out) hl).mono ?_
 rintro e w2 ⟨k,rfl,hk,BD⟩
 have Ae:=hI BD
 have HK:=hI hk
 obtain ⟨a0,a1,a2,a3,a4⟩:=AC.out w2 BD
 clear BD hk
 have AQ:Hid (∀V,Below W.heap.size W V->zGz w B P Sp K U bad l (.returned (.pointer none)) V):=hI λV hV=>.inl ⟨rfl,Ad.out.trans (hV.mono Ad.out.size)⟩
 by_cases Ef:0<k
 . go_wp2_with fail
   go_ret
   exact AQ.out _ Ae.out
 . by_cases DL:60<(bad.length:Int)
   . go_wp2_with fail
     go_ret
     exact AQ.out _ Ae.out
   . by_cases hm:zEm B P Sp K U
     . have Cv:Hid (decide (zEm B P Sp K U)=true):=hI (decide_eq_true hm)
       have Ao:=hI hm
       clear hm
       go_upto_region 3 with (go_at_call 38;(with_reducible refine (vT B P Sp K U w2).mono ?_);rintro e w3 ⟨rfl,BE⟩;rw[Cv.out];have BF:Hid (Below W.heap.size W w3):=hI (Ae.out.trans (BE.mono Ae.out.size));clear BE)
       obtain ⟨nb,rfl⟩:∃nb:Nat,B=(nb:Int):=⟨B.toNat,by have:=Ao.out.1;omega⟩
       obtain ⟨np,rfl⟩:∃np:Nat,P=(np:Int):=⟨P.toNat,by have:=Ao.out.2.1;omega⟩
       have Eg:3<=nb/\nb<=64:=by have:=Ao.out.1;omega
       have Eh:2<=np/\np<=32:=by have:=Ao.out.2.1;omega
       go_upto_region 5 with fail
       obtain ⟨W5,BX⟩:∃W5,W5=w3.alloc (.cells #[.bool false,.bool false,.bool false,.bool false,.bool false,.bool false,.bool false,.bool false,.bool false,.bool false,.bool false,.bool false,.bool false,.bool false,.bool false,.bool false,.bool false,.bool false,.bool false,.bool false,.bool false,.bool false,.bool false,.bool false,.bool false,.bool false,.bool false,.bool false,.bool false,.bool false,.bool false,.bool false,.bool false,.bool false,.bool false,.bool false,.bool false,.bool false,.bool false,.bool false,.bool false,.bool false,.bool false,.bool false,.bool false,.bool false,.bool false,.bool false,.bool false,.bool false,.bool false,.bool false,.bool false,.bool false,.bool false,.bool false,.bool false,.bool false,.bool false,.bool false,.bool false,.bool false,.bool false,.bool false] 82):=⟨_,rfl⟩
       rw[<-BX]
       have AL:Hid (Below W.heap.size W W5):=hI (by rw[BX];exact BF.out.alloc BF.out.size _)
       have Bh:W5.heap[w3.heap.size]? = some (.cells (Array.replicate 64 (.bool false)) 82 (0,0)):=by rw[BX,<-false64];exact heap_alloc_new _ _
       have Bi:=hI Bh
       have DM:=BF.out.size
       clear BX Bh
       obtain ⟨b0,b1,b2,b3,b4⟩:=AC.out W5 AL.out
       clear a0 a1 a2 a3 a4
       have D1:bad.length<=60:=by omega
       obtain ⟨M0,BG⟩:∃M0,M0=(zC nb np).bl:=⟨_,rfl⟩
       have DN:=hI BG
       have D2:M0.length=nb:=by rw[BG];simp[zC]
       have BU:∀i,(M0.getD i noB).bad=false:=λi=>by
        rw[BG,List.getD_eq_getElem?_getD]
        show (((List.replicate nb (zCp np))[i]?).getD noB).bad=false
        rw[List.getElem?_replicate]
        split<;>rfl
       have D3:qx M0=0:=by
        rw[BG]
        unfold qx
        rw[List.countP_eq_zero]
        intro b hb
        have:b=zCp np:=List.eq_of_mem_replicate hb
        rw[this];simp[zCp]
       have DO:=hI BU
       have DP:=hI D3
       clear BU D3 BG
       go_wp2_with fail
       go_loopw [7,30] (λv7 v30 wr=>∃(j:Nat) (cs:Array Value),j<=bad.length/\v30=.int .i64 j/\v7=.int .i64 (qx (zGv M0 (bad.take j)):Nat)/\wr.heap[w3.heap.size]? = some (.cells cs 82 (0,0))/\cs.size=64/\(∀i,i<nb->cs[i]? = some (.bool ((zGv M0 (bad.take j)).getD i noB).bad))/\Below W.heap.size W wr) (λ_ v30 _=>bad.length - (intOf v30).toNat)
       case atStart=>exact ⟨0,_,Nat.zero_le _,rfl,by rw[List.take_zero];show _=Value.int .i64 ((qx M0:Nat):Int);rw[DP.out];rfl,Bi.out,by simp,λi hi=>by rw[Array.getElem?_replicate,if_pos (by omega),List.take_zero];show _=some (Value.bool (M0.getD i noB).bad);rw[DO.out],AL.out⟩
       case round =>
        obtain ⟨j,cs,hj,rfl,rfl,B9,hsz,hbits,hB⟩:=hrel
        have HB:=hI hB
        have Ac:=hI hbits
        have Ba:=hI B9
        obtain ⟨b0,b1,b2,b3,b4⟩:=AC.out wr hB
        have B3:qx (zGv M0 (bad.take j))<=nb:=by
         have:=zGt (zGv M0 (bad.take j))
         rw[qj,D2] at this
         exact this
        have D4:(zGv M0 (bad.take j)).length=nb:=by rw[qj];exact D2
        clear hB hbits
        by_cases B4:j<bad.length
        . obtain ⟨Bb,o,rfl,Cw,hc⟩:=D0.out (by omega)
          have DQ:wr.cell? ⟨Bb,o+j,none⟩=some (.int .i64 bad[j]):=by
           have h1:=HB.out.block Bb (Nat.lt_of_lt_of_le Cw Ad.out.size)
           have h2:=Ad.out.block Bb Cw
           exact (World.cell?_of_block (a:=⟨Bb,o+j,none⟩) (h1.trans h2)).trans (hc j B4)
          have AG:Hid (zGv M0 (bad.take (j+1))=vV (zGv M0 (bad.take j)) bad[j]):=hI (by rw[List.take_succ_eq_append_getElem B4];exact zGu _ _ _)
          clear hc
          generalize bad[j]=b at DQ AG
          generalize DR:zGv M0 (bad.take j)=M at AG Ac B3 D4 ⊢
          clear DR
          by_cases h0:0<=b
          . by_cases h1:b<(nb:Int)
            . obtain ⟨k,rfl⟩:∃k:Nat,b=(k:Int):=⟨b.toNat,by omega⟩
              have hk:k<nb:=by omega
              have BH:=hI (zVn (M:=M) (k:=k) (by omega))
              have BI:=hI (zVm (M:=M) (k:=k) (by omega))
              have Cx:=Ac.out k hk
              have DS:(k:Int)<64:=by omega
              have hcell:wr.cell? ⟨w3.heap.size,k,none⟩=some (.bool (M.getD k noB).bad):=by simp[World.cell?,Ba.out,Cx]
              cases hv:(M.getD k noB).bad with
              | true =>
               rw[hv] at hcell
               have HV:=hI hv
               clear hv Cx B9
               go_wp2_with fail
               go_roundw
               case rel=>exact ⟨j+1,cs,by omega,by go_num,by rw[AG.out,BI.out,if_pos HV.out,Nat.add_zero],Ba.out,hsz,λi hi=>by
                rw[AG.out,BH.out]
                by_cases e:i=k
                . rw[if_pos e,e,Ac.out k hk,HV.out]
                . rw[if_neg e];exact Ac.out i hi,HB.out⟩
               case measure=>simp[intOf];omega
              | false =>
               rw[hv] at hcell
               have HV:=hI hv
               have Ei:wr.frozen? ⟨w3.heap.size,k,none⟩=false:=by simp[World.frozen?,Ba.out]
               clear hv Cx B9
               have e1:IntKind.i64.wrap ((qx M:Int)+1)=(qx M:Int)+1:=qp _ (by omega)
               go_wp2_with fail
               have DT:Hid ((wr.setCell ⟨w3.heap.size,k,none⟩ (.bool true)).heap[w3.heap.size]? = some (.cells (cs.setIfInBounds k (.bool true)) 82 (0,0))):=hI (heap_setCell_same wr w3.heap.size k cs _ (.bool true) Ba.out)
               have DU:Hid (Below W.heap.size W (wr.setCell ⟨w3.heap.size,k,none⟩ (.bool true))):=hI (HB.out.setCell (p:=⟨w3.heap.size,k,none⟩) DM _)
               go_roundw
               case rel=>exact ⟨j+1,_,by omega,by go_num,by rw[AG.out,BI.out,if_neg (by rw[HV.out];simp)];go_num,DT.out,by simp[hsz],λi hi=>by
                rw[AG.out,BH.out,Array.getElem?_setIfInBounds]
                by_cases e:k=i
                . rw[if_pos e,if_pos (show k<cs.size by omega),if_pos e.symm]
                . rw[if_neg e,if_neg λe2=>e e2.symm];exact Ac.out i hi,DU.out⟩
               case measure=>simp[intOf];omega
            . have AB:=hI (zJa (M:=M) (b:=b) (by omega))
              clear B9
              go_wp2_with fail
              go_roundw
              case rel=>exact ⟨j+1,cs,by omega,by go_num,by rw[AG.out,AB.out],Ba.out,hsz,λi hi=>by rw[AG.out,AB.out];exact Ac.out i hi,HB.out⟩
              case measure=>simp[intOf];omega
          . have AB:=hI (zJa (M:=M) (b:=b) (by omega))
            clear B9
            go_wp2_with fail
            go_roundw
            case rel=>exact ⟨j+1,cs,by omega,by go_num,by rw[AG.out,AB.out],Ba.out,hsz,λi hi=>by rw[AG.out,AB.out];exact Ac.out i hi,HB.out⟩
            case measure=>simp[intOf];omega
        . obtain rfl:j=bad.length:=by omega
          have D5:bad.take bad.length=bad:=List.take_length
          have D6:zGv M0 bad=(qZ nb np bad).bl:=by rw[DN.out];rfl
          rw[D5,D6] at B3 ⊢
          clear D4 D5 D6 B9 hsz
          obtain ⟨n,hn⟩:∃n:Nat,n=qx (qZ nb np bad).bl:=⟨_,rfl⟩
          rw[<-hn] at B3 ⊢
          have HN:=hI hn
          have DV:n<=64:=by omega
          clear hn
          by_cases hf:yZ nb np Sp K U n
          . have Cy:Hid (decide (yZ nb np Sp K U n)=true):=hI (decide_eq_true hf)
            have HF:=hI hf
            clear hf
            have hl:(qZ nb np bad).bl.length=nb:=by simp[qZ,qj,zC]
            have HI:Hid (∀D cc,cc<=1000->Inv (zPr (qZ nb np bad) nb np Sp K U n 0) D [] []/\Bud (zPr (qZ nb np bad) nb np Sp K U n 0) cc/\(zPr (qZ nb np bad) nb np Sp K U n 0).over=false):=hI λD cc BJ=>inv_new bad D (by rw[HN.out]) HF.out cc BJ
            have D7:∀(h1:1<=(qZ nb np bad).bl.length),((((qZ nb np bad).bl[0]'h1).pages.length:Nat):Int)=(np:Int):=λh1=>by
             have h9:=zRt nb np bad _ (List.getElem_mem h1)
             first | rw[h9.1] | rw[h9.2.1] | rw[h9.2.2]
            have DW:=hI D7
            clear D7
            go_upto_region 14 with (go_at_call 39;(with_reducible refine (zOa nb np Sp K U n wr (yg (by omega))).mono ?_);rintro e w6 ⟨rfl,Ai⟩;rw[Cy.out];have Am:Hid (Below W.heap.size W w6):=hI (HB.out.trans (Ai.mono HB.out.size));clear Ai b0 b1 b2 b3 b4;obtain ⟨b0,b1,b2,b3,b4⟩:=AC.out w6 Am.out)
            have DX:Hid (IntsArg w6 Ab bad):=hI λhn=>by
             obtain ⟨Bb,o,e,hB',hc⟩:=D0.out hn
             have k1:=Am.out.block Bb (Nat.lt_of_lt_of_le hB' Ad.out.size)
             exact ⟨Bb,o,e,Nat.lt_of_lt_of_le hB' (Nat.le_trans Ad.out.size Am.out.size),λj hj=>(World.cell?_of_block (a:=⟨Bb,o+j,none⟩) (k1.trans (Ad.out.block Bb hB'))).trans (hc j hj)⟩
            have Cz:=Am.out.size
            have Ej:=Ad.out.size
            have BY:w.heap.size<W.heap.size:=qD HX.out
            go_wp2_with (first
             | (go_at_call 34;(with_reducible refine (zSi nb np Ab cb bad DX.out (by omega) (by omega) (by omega) (by omega) (by omega)).mono ?_);rintro e w7 ⟨ch,rfl,hH,hB⟩;have HH:=hI hH;have BK:Hid (Below w6.heap.size w6 w7):=hI hB;clear hH hB b0 b1 b2 b3 b4;obtain ⟨b0,b1,b2,b3,b4⟩:=AC.out w7 (Am.out.trans (BK.out.mono Am.out.size)))
             | (go_at_call 27;(with_reducible refine (q_open nb np Sp K U n 0 HH.out (by omega) (by omega) (yg (by omega)) HF.out (by rw[hl]) (DW.out (by omega)) (by rw[HN.out];exact Int.le_refl _) (by omega) rfl).mono ?_);rintro e w8 ⟨p,rfl,hP,hS⟩;have HP:=hI hP;have HS:=hI hS;have DY:Hid (w8.heap[w.heap.size]? = some (.cells #[.int .i64 nb,.int .i64 np,.int .i64 Sp,.int .i64 K,.int .i64 U] 23 (0,0))):=hI ((HS.out.block (Nat.lt_of_lt_of_le (Nat.lt_of_lt_of_le BY Cz) BK.out.size) (Nat.lt_of_lt_of_le BY Cz)).trans ((BK.out.block _ (Nat.lt_of_lt_of_le BY Cz)).trans ((Am.out.block _ BY).trans HX.out)));clear hP hS b0 b1 b2 b3 b4;obtain ⟨b0,b1,b2,b3,b4⟩:=cfg5 DY.out)
             | fail)
            obtain ⟨W9,BZ⟩:∃W9,W9=w8.alloc (.cells (vX ch p ⟨nb,np,Sp,K,U,n⟩ (.slice none 0 0) (.slice none 0 0)) 38):=⟨_,rfl⟩
            have D8:Below w8.heap.size w8 W9:=by rw[BZ];exact bR.alloc nL _
            have D9:W9.heap[w8.heap.size]? = some (.cells (vX ch p ⟨nb,np,Sp,K,U,n⟩ (.slice none 0 0) (.slice none 0 0)) 38 (0,0)):=by rw[BZ];exact heap_alloc_new _ _
            have DZ:=HP.out.more D8
            have E0:=HS.out.size
            have C5:=BK.out.size
            have E1:w8.heap.size<W9.heap.size:=qD D9
            unfold vX at BZ
            go_ret
            rw[<-BZ]
            refine .inr ⟨w8.heap.size,p,ch,_,zPr (qZ nb np bad) nb np Sp K U n 0,rfl,⟨DZ,.inr ⟨Nat.le_refl _,E1⟩,D9,rfl,λhn=>absurd hn (by simp),λad e=>(by cases e),λ_=>⟨rfl,rfl⟩,zEv _ _,λad e=>(by cases e),λq hq=>(by cases hq)⟩,λD=>(HI.out D 0 (by omega)).1,λcc BJ=>(HI.out (λ_=>[]) cc BJ).2.1,(HI.out (λ_=>[]) 0 (by omega)).2.2,rfl,⟨nb,np,rfl⟩,λb hb=>⟨.inl (by show b<w6.heap.size;omega),by omega⟩,?_,HK.out (by omega),by omega⟩
            have k1:Below w.heap.size w w7:=Ad.out.trans ((Am.out.trans (BK.out.mono Am.out.size)).mono Ad.out.size)
            have k2:Below w.heap.size w w8:=⟨HS.out.os.trans k1.os,HS.out.tape.trans k1.tape,HS.out.output.trans k1.output,Nat.le_trans k1.size E0,λb hb=>(HS.out.block (Nat.lt_of_lt_of_le hb k1.size) (by show b<w6.heap.size;omega)).trans (k1.block b hb)⟩
            exact k2.trans (D8.mono k2.size)
          . have Cy:Hid (decide (yZ nb np Sp K U n)=false):=hI (decide_eq_false hf)
            clear hf
            go_wp2_with (first
             | (go_at_call 39;(with_reducible refine (zOa nb np Sp K U n wr (yg (by omega))).mono ?_);rintro e w6 ⟨rfl,Ai⟩;rw[Cy.out];have Am:Hid (Below W.heap.size W w6):=hI (HB.out.trans (Ai.mono HB.out.size));clear Ai)
             | fail)
            go_ret
            exact AQ.out _ Am.out
     . have Cv:Hid (decide (zEm B P Sp K U)=false):=hI (decide_eq_false hm)
       clear hm
       go_wp2_with (first
        | (go_at_call 38;(with_reducible refine (vT B P Sp K U w2).mono ?_);rintro e w3 ⟨rfl,BE⟩;rw[Cv.out];have BF:Hid (Below W.heap.size W w3):=hI (Ae.out.trans (BE.mono Ae.out.size));clear BE)
        | fail)
       go_ret
       exact AQ.out _ BF.out
end
end
section
open Go.RowKit
attribute [local go_sem] Oper.semAt_some
structure Sit (w:World) (s p c:Nat) (x:Nat->Prop) (g:Cf) (Q:PS) (D:Dat) (lv fr:List Pg) (Al:Option Addr) (cl:Nat) (Af:Option Addr) (cf:Nat) (cc:Nat):Prop where
 st:StAt w s p c x g Q lv fr Al cl Af cf
 inv:Inv Q D (qY lv) (qY fr)
 dat:∀q∈lv++fr,D q.r=q.d
 bud:Bud Q cc
 calm:Q.S.f.set=false/\Q.S.w.set=false
 over:Q.over=false
section
variable {w w':World} {s p c l f:Nat} {x k:Nat->Prop} {g:Cf} {Q Q':PS} {D:Dat} {lv fr:List Pg} {Al Af:Option Addr} {cl cf cc:Nat}
theorem zMw (hk:Keeps Q.S Q'.S) (hc:Q.S.f.set=false/\Q.S.w.set=false) (Da:Q.cf=Q'.cf):Q'.over=Q.over:=by
 have h1:=(hk.calm hc).2
 have e1:Q'.Sp=Q.Sp:=by have:=congrArg Cf.Sp Da;exact this.symm
 have e2:Q'.bad=Q.bad:=by have:=congrArg Cf.bad Da;exact this.symm
 unfold PS.over PS.bads
 rw[h1,e1,e2]
theorem Sit.below (h:Sit w s p c x g Q D lv fr Al cl Af cf cc) (hb:Below w.heap.size w w'):Sit w' s p c (λb=>x b\/New w w' b) g Q D lv fr Al cl Af cf cc :=
 ⟨h.st.below hb,h.inv,h.dat,h.bud,h.calm,h.over⟩
theorem zWk {B P Sp K U:Int} {bad:List Int} {l:List Cal} {e:Ending} (h:zGz w B P Sp K U bad l e w'):(e=.returned (.pointer none)/\Below w.heap.size w w')\/∃s p c x Q,e=.returned (.pointer (some ⟨s,0,none⟩))/\(∀D cc,cc<=1000->Sit w' s p c x ⟨B,P,Sp,K,U,Q.bad⟩ Q D [] [] none 0 none 0 cc)/\Q.seq=0/\Q.K=K/\(∀b,b<w.heap.size->x b/\b≠s)/\Below w.heap.size w w'/\yBf B P l:=by
 rcases h with h | ⟨s,p,c,x,Q,rfl,h1,h2,h3,h4,h5,⟨nb,np,h6⟩,h7,h8,h9,-⟩
 . exact .inl h
 . refine .inr ⟨s,p,c,x,Q,rfl,λD cc BJ=>⟨h1,h2 D,λq hq=>(by cases hq),h3 cc BJ,?_,h4⟩,h5,?_,h7,h8,h9⟩
   . rw[h6];exact ⟨rfl,rfl⟩
   . have:=congrArg Cf.K h1.cfg;exact this
end
end
section
open Go.RowKit
attribute [local go_sem] Oper.semAt_some
section
variable {w w' V:World} {s p c l f:Nat} {x k:Nat->Prop} {g:Cf} {Q Q':PS} {D:Dat} {lv fr:List Pg} {Al Af:Option Addr} {cl cf cc:Nat}
theorem zPh {lv fr:List P2} {r:P2} (h:Inv Q D lv fr) (hr:r∉lv++fr):Q.readQ r=Q:=by
 unfold PS.readQ
 rw[zTe λf hf e=>hr (by rw[<-e];exact h.ref hf)]
theorem sit_undo (h:Sit w s p c x g Q D lv fr Al cl Af cf cc):Calls Tryz.prog 12 #[.pointer (some ⟨p,0,none⟩)] w λe w'=>e=.returned (.tuple #[])/\StAt w' s p c x g Q.undo lv fr Al cl Af cf/\Safe x w w':=by
 refine (zRi h.st.pool).mono ?_
 rintro e w' ⟨rfl,h1,h2⟩
 exact ⟨rfl,h.st.safe h2 h1 (λ_ k=>k) h.st.cfg,h2⟩
theorem zWm (h:Sit w s p c x g Q D lv fr Al cl Af cf cc) (hs:StAt w' s p c x g Q.undo lv fr Al cl Af cf):Sit (w'.setCell ⟨s,9,none⟩ (.slice none 0 0)) s p c x g Q.undo D lv [] Al cl none 0 cc :=
 ⟨hs.clear.1,h.inv.undo,λq hq=>h.dat q (by rw[List.append_nil] at hq;exact List.mem_append_left _ hq),h.bud.undo,h.calm,h.over⟩
theorem sit_none (r:P2) (h:Sit w s p c x g Q D lv fr Al cl Af cf cc) (hr:r∉qY lv++qY fr) (C2:WfP r):Calls Tryz.prog 26 #[.pointer (some ⟨p,0,none⟩),P2V r] w λe w'=>∃A m n,e=.returned (.tuple #[.slice A n m,.int .i64 8])/\Sit w' s p c x g Q D lv fr Al cl Af cf cc/\Safe x w w':=by
 refine (zXj r h.st.pool h.inv.mid.ok C2).mono ?_
 rintro e w' ⟨A,m,d,er,rfl,_,ht,hp,hs⟩
 obtain ⟨rfl,rfl⟩:=zXg hr h.inv ht.out
 rw[zPh h.inv hr] at hp
 exact ⟨A,m,_,rfl,⟨h.st.safe hs hp (λ_ k=>k) h.st.cfg,h.inv,h.dat,h.bud,h.calm,h.over⟩,hs⟩
theorem zWj (h:Sit w s p c x g Q D lv fr Al cl Af cf (cc+1)) (AH:lv.length+fr.length<=1000):Calls Tryz.prog 16 #[.pointer (some ⟨s,0,none⟩)] w λe w'=>e=.returned (.bool true)/\Safe x w w':=by
 refine (zIe 0 h.st h.inv h.dat (h.bud.low.spent (Spent.refl _) ⟨by omega,by omega,by omega⟩) AH).mono ?_
 rintro e w' ⟨rfl,Q1,y,_,_,_,_,_,h1,_⟩
 exact ⟨rfl,h1⟩
end
end
section
open Go.RowKit
attribute [local go_sem] Oper.semAt_some
theorem has_none (A:Option Addr) (m:Nat) (l0:List Pg) (r:P2) (w:World) (hl:GLies w A l0) (AH:l0.length<=1000) (hr:r∉qY l0):Calls Tryz.prog 37 #[.slice A l0.length m,P2V r] w λe w'=>e=.returned (.int .i64 (-1))/\Below w.heap.size w w':=by
 obtain ⟨W,hW⟩:∃W,w.alloc (.cells #[.int .i64 r.1,.int .i64 r.2] 33)=W:=⟨_,rfl⟩
 have Ad:Hid (Below w.heap.size w W):=hI (by rw[<-hW];exact bR.alloc nL _)
 have Db:Hid (W.heap[w.heap.size]? = some (.cells #[.int .i64 r.1,.int .i64 r.2] 33 (0,0))):=hI (by rw[<-hW];exact heap_alloc_new _ _)
 have HL:Hid (GLies W A l0):=hI (hl.below Ad.out)
 have HR:=hI hr
 have Bf:=hI hW
 have Dc:=qD Db.out
 clear hl hr hW
 go_enter Tryz.func37,Tryz.ntmps37
 go_wp2_with fail
 rw[Bf.out]
 go_loopw [5,6,9] (λ_ _ v9 wr=>∃j:Nat,j<=l0.length/\v9=.int .i64 j/\Below W.heap.size W wr) (λ_ _ v9 _=>l0.length - (intOf v9).toNat)
 case atStart=>exact ⟨0,Nat.zero_le _,rfl,bR⟩
 case round =>
  obtain ⟨j,hj,rfl,hB⟩:=hrel
  have HB:=hI hB
  have hs:=hB.size
  clear hB
  by_cases B4:j<l0.length
  . obtain ⟨B,o,rfl,Cw,hc⟩:=(HL.out.below HB.out) (by omega)
    obtain ⟨k0,k1,k2⟩:=hc j B4
    have BB:l0[j].r≠r:=λe=>HR.out (List.mem_map.2 ⟨l0[j],List.getElem_mem B4,e⟩)
    clear hc
    generalize l0[j]=fd at k0 k1 k2 BB
    obtain ⟨W2,BS⟩:∃W2,wr.alloc (.cells #[.int .i64 fd.r.1,.int .i64 fd.r.2,.slice fd.A fd.d.length fd.c] 36)=W2:=⟨_,rfl⟩
    have Ae:Hid (Below wr.heap.size wr W2):=hI (by rw[<-BS];exact bR.alloc nL _)
    have E2:Hid (W2.heap[wr.heap.size]? = some (.cells #[.int .i64 fd.r.1,.int .i64 fd.r.2,.slice fd.A fd.d.length fd.c] 36 (0,0))):=hI (by rw[<-BS];exact heap_alloc_new _ _)
    obtain ⟨b0,b1,b2,-⟩:=qT E2.out
    obtain ⟨r0,r1,-,-⟩:=qG ((Ae.out.block _ (Nat.lt_of_lt_of_le Dc hs)).trans ((HB.out.block _ Dc).trans Db.out))
    have e11:∀V:World,Sem.run Tryz.prog (binOp BinOp.eql 33 (P2V fd.r) (P2V r)) V=.ok (.bool false) V:=λV=>(zDz fd.r r V).trans (by rw[decide_eq_false BB])
    clear BB
    go_upto_region 4 with fail
    clear BS k0 k1 k2
    go_wp2_with fail
    go_roundw
    case rel=>exact ⟨j+1,by omega,by go_num,HB.out.trans (Ae.out.mono hs)⟩
    case measure=>simp[intOf];omega
  . obtain rfl:j=l0.length:=by omega
    go_wp2_with fail
    go_ret
    exact ⟨rfl,Ad.out.trans (HB.out.mono Ad.out.size)⟩
section
variable {w w':World} {s p c:Nat} {x:Nat->Prop} {g:Cf} {Q:PS} {lv fr:List Pg} {Al Af:Option Addr} {cl cf:Nat}
theorem all_any (n:Nat) (h:StAt w s p c x g Q lv fr Al cl Af cf) (E3:lv.length+fr.length=n) (hn:n<=1000):Calls Tryz.prog 35 #[.pointer (some ⟨s,0,none⟩)] w λe w'=>∃b,e=.returned (.slice (some ⟨b,0,none⟩) n n)/\BA w' (some ⟨b,0,none⟩) (List.replicate n true)/\Below w.heap.size w w':=by
 have c8:=h.sc.c8
 have c9:=h.sc.c9
 have E4:=λw1:World=>zDr n (by omega) w1
 have BL:(lv.length:Int)+(fr.length:Int)=(n:Int):=by omega
 have E5:IntKind.i64.wrap ((lv.length:Int)+(fr.length:Int))=(n:Int):=by rw[BL];exact qp _ (by omega)
 obtain ⟨L,hL⟩:∃L:List Unit,L=List.replicate n ():=⟨_,rfl⟩
 have Ch:L.length=n:=by rw[hL];simp
 have CA:=hI Ch
 have E6:Hid (L.map (λ_:Unit=>true)=List.replicate n true):=hI (by rw[hL];simp)
 clear h E3 hL Ch
 go_enter Tryz.func35,Tryz.ntmps35
 go_wp2_with fail
 go_region
 have BN:(w.alloc (.cells (madeCells #[Value.bool false] n) 4)).drew.heap[w.heap.size]? = some (.cells ((zAk (λ_:Unit=>true) false L 0).map Value.bool).toArray 4 (0,0)):=by
  rw[zOc,CA.out,<-zDs]
  exact heap_alloc_new _ _
 have Dd:Below w.heap.size w (w.alloc (.cells (madeCells #[Value.bool false] n) 4)).drew:=(bR.alloc nL _).drew
 have CC:=hI BN
 have De:=hI Dd
 clear BN Dd E4
 generalize (w.alloc (.cells (madeCells #[Value.bool false] n) 4)).drew=w1 at CC De ⊢
 obtain ⟨G,hG⟩:∃G,G=w.heap.size:=⟨_,rfl⟩
 have HG:=hI hG
 rw[<-hG] at CC ⊢
 clear hG c8 c9 BL E5
 go_wp2_with fail
 go_loopw [4,19] (λ_ v19 wr=>∃j:Nat,j<=n/\v19=.int .i64 j/\wr.heap[G]? = some (.cells ((zAk (λ_:Unit=>true) false L j).map Value.bool).toArray 4 (0,0))/\Below w.heap.size w wr) (λ_ v19 _=>n - (intOf v19).toNat)
 case atStart=>exact ⟨0,Nat.zero_le _,rfl,CC.out,De.out⟩
 case round =>
  obtain ⟨j,hj,rfl,hx,hB⟩:=hrel
  have C0:=hI hx
  have HB:=hI hB
  have hs:=hB.size
  clear hx hB
  by_cases B4:j<n
  . have C1:j<L.length:=by rw[CA.out];exact B4
    have Df:j<(zAk (λ_:Unit=>true) false L j).length:=by rw[zGd _ _ _ _ (Nat.le_of_lt C1)];exact C1
    have HN:=hI (zSq (λ_:Unit=>true) false L j C1)
    have q0:=zAq C0.out j Df
    have q1:=yq C0.out j
    have Dg:=hI (zEz C0.out j true)
    rw[HN.out] at Dg
    generalize (zAk (λ_:Unit=>true) false L j)[j]=old at q0
    clear C1 Df
    go_wp2_with fail
    go_roundw
    case rel=>exact ⟨j+1,by omega,by go_num,Dg.out,HB.out.setCell (p:=⟨G,j,none⟩) (by rw[HG.out];exact Nat.le_refl _) _⟩
    case measure=>simp[intOf];omega
  . obtain rfl:j=n:=by omega
    have HZ:=hI (zSr (λ_:Unit=>true) false L)
    rw[CA.out,E6.out] at HZ
    go_wp2_with fail
    go_ret
    exact ⟨G,rfl,by rw[<-HZ.out];exact zBf C0.out,HB.out⟩
end
end
section
open Go.RowKit
theorem below_safeU {n:Nat} {w w1 w2:World} {F:Nat->Prop} (hn:n<=w.heap.size) (h:Below n w w1) (hs:Safe F w1 w2) (hF:∀b,b<n->F b):Below n w w2 :=
 ⟨hs.os.trans h.os,hs.tape.trans h.tape,hs.output.trans h.output,Nat.le_trans h.size hs.size,λb hb=>(hs.block (Nat.lt_of_lt_of_le hb (Nat.le_trans hn h.size)) (hF b hb)).trans (h.block b hb)⟩
structure Und (N:Nat) (w:World) (s p c:Nat) (y:Nat->Prop) (g:Cf) (Q:PS) (D:Dat) (lv fr:List Pg) (Al:Option Addr) (cl:Nat) (Af:Option Addr) (cf cc m:Nat) (gs:List P2) (Gb:Option Nat) (wx:World):Prop where
 sit:Sit wx s p c y g Q D lv fr Al cl Af cf cc
 root:∀q∈lv,q.r.1=0
 lenl:lv.length<=1
 far:∀b,b<N->vW y s Af b
 big:N<=w.heap.size
 bel:Below N w wx
 seq:Q.seq<=m
 gone:∀r∈gs,r∉qY lv++qY fr/\r.2<=Q.seq
 wfs:∀r∈gs,WfP r
 lone:∀b,Gb=some b->vW y s Af b/\Clr b lv fr Al Af
section
variable {N:Nat} {w wx w2:World} {s p c:Nat} {y:Nat->Prop} {g:Cf} {Q:PS} {D:Dat} {lv fr:List Pg} {Al:Option Addr} {cl:Nat} {Af:Option Addr} {cf cc m:Nat} {gs:List P2} {Gb:Option Nat}
theorem Und.below (h:Und N w s p c y g Q D lv fr Al cl Af cf cc m gs Gb wx) (hb:Below wx.heap.size wx w2):Und N w s p c (λb=>y b\/New wx w2 b) g Q D lv fr Al cl Af cf cc m gs Gb w2 :=
 ⟨h.sit.below hb,h.root,h.lenl,λb hb=>⟨.inl (h.far b hb).1,(h.far b hb).2⟩,h.big,h.bel.trans (hb.mono (Nat.le_trans h.big h.bel.size)),h.seq,h.gone,h.wfs,λb e=>⟨⟨.inl (h.lone b e).1.1,(h.lone b e).1.2⟩,(h.lone b e).2⟩⟩
theorem StAt.apart {w w':World} {x:Nat->Prop} (h:StAt w s p c x g Q lv fr Al cl Af cf) (ht:Turned (λb=>Gb=some b) w w') (hG:∀b,Gb=some b->vW x s Af b/\Clr b lv fr Al Af):StAt w' s p c (λb=>x b\/New w w' b) g Q lv fr Al cl Af cf where
 pool:=h.pool.grow (ht.mono' λi k=>(hG i k).1.1)
 hx:=.inl h.hx
 self:=(ht.block s h.lt λk=>(hG s k).1.2.1 rfl).trans h.self
 cfg:=h.cfg
 live:=λhn=>by
  obtain ⟨B,o,e,hB,hcell⟩:=h.live hn
  have hk:=ht.block B hB λk=>(hG B k).2.1 _ e rfl
  exact ⟨B,o,e,Nat.lt_of_lt_of_le hB ht.size,λj hj=>⟨(World.cell?_of_block (a:=⟨B,o+j * 3,none⟩) hk).trans (hcell j hj).1,(World.cell?_of_block (a:=⟨B,o+j * 3+1,none⟩) hk).trans (hcell j hj).2.1,(World.cell?_of_block (a:=⟨B,o+j * 3+2,none⟩) hk).trans (hcell j hj).2.2⟩⟩
 lives:=λad e=>⟨.inl (h.lives ad e).1,(h.lives ad e).2⟩
 lnone:=h.lnone
 fresh:=vS h.fresh λk e=>by
  have hl:=World.ownsRow.lt h.fresh k e
  refine ht.block k hl.2 λk2=>?_
  cases Af with
  | none =>
   have e':(none:Option Nat)=some k:=e
   cases e'
  | some ad =>
   have e':some ad.block=some k:=e
   exact (hG k k2).2.2.1 ad rfl (Option.some.inj e')
 freshs:=λad e=>⟨.inl (h.freshs ad e).1,(h.freshs ad e).2⟩
 data:=λq hq=>⟨λhn=>by
  obtain ⟨ad,e,hb,hc⟩:=(h.data q hq).1 hn
  have hk:=ht.block ad.block (h.pool.there _ hb.1) λk=>(hG _ k).2.2.2 q hq hn ad e rfl
  exact ⟨ad,e,⟨.inl hb.1,hb.2⟩,λj hj=>(World.cell?_of_block (by rw[vH];exact hk)).trans (hc j hj)⟩,(h.data q hq).2⟩
theorem StAt.clr_new (h:StAt wx s p c y g Q lv fr Al cl Af cf) {b:Nat} (hb:wx.heap.size<=b):Clr b lv fr Al Af:=by
 refine ⟨λad e e2=>?_,λad e e2=>?_,λq hq hl ad e e2=>?_⟩
 . have:=h.pool.there _ (h.lives ad e).1
   omega
 . have:=h.pool.there _ (h.freshs ad e).1
   omega
 . obtain ⟨ad',e',hb',-⟩:=(h.data q hq).1 hl
   rw[e] at e'
   obtain rfl:=Option.some.inj e'
   have:=h.pool.there _ hb'.1
   omega
theorem Und.grown {Gb2:Option Nat} (h:Und N w s p c y g Q D lv fr Al cl Af cf cc m gs Gb wx) (hN:∀b,Gb=some b->N<=b) (hg:wx.grownBy w2 Gb) (B5:Gb2=Gb\/Gb2=some wx.heap.size) (E7:∀b,Gb2=some b->b<w2.heap.size):Und N w s p c (λb=>y b\/New wx w2 b) g Q D lv fr Al cl Af cf cc m gs Gb2 w2:=by
 have ht:Turned (λb=>Gb=some b) wx w2:=⟨hg.os,hg.tape,hg.output,hg.size,λi hi hn=>hg.block i hi λe=>hn e.symm⟩
 have E8:N<=wx.heap.size:=Nat.le_trans h.big h.bel.size
 refine ⟨⟨h.sit.st.apart ht h.lone,h.sit.inv,h.sit.dat,h.sit.bud,h.sit.calm,h.sit.over⟩,h.root,h.lenl,λb hb=>⟨.inl (h.far b hb).1,(h.far b hb).2⟩,h.big,⟨hg.os.trans h.bel.os,hg.tape.trans h.bel.tape,hg.output.trans h.bel.output,Nat.le_trans h.bel.size hg.size,λb hb=>(ht.block b (Nat.lt_of_lt_of_le hb E8) λe=>by have:=hN b e;omega).trans (h.bel.block b hb)⟩,h.seq,h.gone,h.wfs,λb e=>?_⟩
 rcases B5 with k | k
 . rw[k] at e
   exact ⟨⟨.inl (h.lone b e).1.1,(h.lone b e).1.2⟩,(h.lone b e).2⟩
 . have BD:=E7 b e
   rw[k] at e
   have e1:=Option.some.inj e
   subst e1
   refine ⟨⟨.inr ⟨Nat.le_refl _,BD⟩,?_,λad e e2=>?_⟩,h.sit.st.clr_new nL⟩
   . have:=h.sit.st.lt
     omega
   . have:=h.sit.st.pool.there _ (h.sit.st.freshs ad e).1
     omega
theorem Und.room (h:Und N w s p c y g Q D lv fr Al cl Af cf cc m gs Gb wx) {b:Nat} (hb:Gb=some b):b<wx.heap.size:=h.sit.st.pool.there b (h.lone b hb).1.1
def UndPut (N:Nat) (w:World) (s p c:Nat) (y:Nat->Prop) (g:Cf) (lv fr:List Pg) (Al:Option Addr) (cl:Nat) (Af:Option Addr) (cc m:Nat) (gs:List P2) (Gb:Option Nat) (wx:World) (e:Ending) (w':World):Prop :=
 e=.returned (.bool true)/\(∃Q' D' fr' Af' cf' y',Und N w s p c y' g Q' D' lv fr' Al cl Af' cf' cc m gs Gb w'/\fr'.length<=fr.length+1)/\Safe (vW y s Af) wx w'
theorem und_put (d:Cal) (h:Und N w s p c y g Q D lv fr Al cl Af cf (cc+1) m gs Gb wx) (BO:CB wx (vW y s Af) d.A d.d) (Ca:d.d.length<=60) (BP:d.A=none->d.d.length=0/\d.c=0) :
 Calls Tryz.prog 15 #[.pointer (some ⟨s,0,none⟩),.agg #[.int .i64 d.dO,.int .i64 d.n,.int .i64 d.keep,.int .i64 d.page,.slice d.A d.d.length d.c,.slice d.A2 d.pk.length d.c2]] wx (UndPut N w s p c y g lv fr Al cl Af cc (m+1) gs Gb wx):=by
 refine (lput_anyC d cc h.sit.st h.sit.inv h.sit.dat h.sit.bud BO Ca BP).mono ?_
 rintro e w' ⟨rfl,Q',D',fr',Af',cf',y',AF,hi,BM,hb,Bc,An,hk,CD,B6⟩
 have Bd:Q'.over=false:=(zMw hk h.sit.calm (h.sit.st.cfg.trans AF.cfg.symm)).trans h.sit.over
 have AR:=h.seq
 refine ⟨rfl,?_,An⟩
 have hlone:∀b,Gb=some b->vW y' s Af' b/\Clr b lv fr' Al Af':=λb e=>⟨Bc b (h.lone b e).1,B6 b (h.room e) (h.lone b e).2⟩
 rcases CD with ⟨rfl,rfl,-⟩ | ⟨k,-⟩ | ⟨-,k1,A,ca,rfl⟩
 . exact ⟨Q',D',fr',Af',cf',y',⟨⟨AF,hi,BM,hb,(hk.calm h.sit.calm).1,Bd⟩,h.root,h.lenl,λb hb=>Bc b (h.far b hb),h.big,below_safeU h.big h.bel An h.far,by omega,h.gone,h.wfs,hlone⟩,Nat.le_succ _⟩
 . rw[Bd] at k;cases k
 . refine ⟨Q',D',_,Af',cf',y',⟨⟨AF,hi,BM,hb,(hk.calm h.sit.calm).1,Bd⟩,h.root,h.lenl,λb hb=>Bc b (h.far b hb),h.big,below_safeU h.big h.bel An h.far,by omega,λr hr=>?_,h.wfs,hlone⟩,by rw[List.length_append];exact Nat.le_refl _⟩
   obtain ⟨g1,g2⟩:=h.gone r hr
   refine ⟨λk=>?_,by omega⟩
   rw[show qY (fr++[(⟨(d.page,Q.seq+1),d.d,A,ca⟩:Pg)])=qY fr++[(d.page,Q.seq+1)] from List.map_append,<-List.append_assoc] at k
   rcases List.mem_append.1 k with k | k
   . exact g1 k
   . rw[List.mem_singleton] at k
     rw[k] at g2
     have g3:Q.seq+1<=Q.seq:=g2
     omega
theorem pick_roots {all:List Pg} (h:∀q∈all,q.r.1=0) (pk:List Bool) (K:Int):zDn all pk K = []:=by
 cases e:zDn all pk K with
 | nil=>rfl
 | cons a l =>
  have k:=zHv all pk K all.length a (by
   have e':vb all pk K all.length=a::l:=e
   rw[e'];exact List.mem_cons_self)
  exact absurd (h a k.1) k.2
def UndSeal (N:Nat) (w:World) (s p c:Nat) (y:Nat->Prop) (g:Cf) (Af:Option Addr) (cc m:Nat) (gs:List P2) (Gb:Option Nat) (wx:World) (e:Ending) (w':World):Prop :=
 e=.returned (.bool true)/\(∃Q' D' lv' Al' cl' y',Und N w s p c y' g Q' D' lv' [] Al' cl' none 0 cc m gs Gb w')/\Safe (vW y s Af) wx w'
theorem und_seal (h:Und N w s p c y g Q D lv [] Al cl Af cf (cc+1) m gs Gb wx) (A2:Option Addr) (c2 n:Nat) (pk:List Bool) (hn:pk.length=n) (BQ:BA wx A2 pk) (Cb:n<=1000) (hm:m<=100000) :
 Calls Tryz.prog 11 #[.pointer (some ⟨s,0,none⟩),.agg #[.int .i64 0,.int .i64 0,.int .i64 0,.int .i64 0,.slice none 0 0,.slice A2 n c2]] wx (UndSeal N w s p c y g Af cc (m+1) gs Gb wx):=by
 subst hn
 have AR:=h.seq
 refine (lseal_anyC ⟨0,0,0,0,none,0,[],A2,c2,pk⟩ cc h.sit.st h.sit.inv h.sit.dat h.sit.bud (λk=>absurd k (by simp)) (by show (0:Nat)<=60;omega) (λ_=>⟨rfl,rfl⟩) BQ Cb (by omega)).mono ?_
 rintro e w' ⟨rfl,Q',D',lv',Al',cl',y',AF,hi,BM,hb,Bc,An,hk,CD,B6⟩
 have Bd:Q'.over=false:=(zMw hk h.sit.calm (h.sit.st.cfg.trans AF.cfg.symm)).trans h.sit.over
 refine ⟨rfl,?_,An⟩
 have hlone:∀b,Gb=some b->vW y' s none b/\Clr b lv' [] Al' none:=λb e=>⟨Bc b (h.lone b e).1,B6 b (h.room e) (h.lone b e).2⟩
 rcases CD with ⟨k,-⟩ | ⟨-,k1,A,ca,rfl⟩
 . rw[Bd] at k;cases k
 . rw[pick_roots (by rw[List.append_nil];exact h.root)] at AF hi BM hlone
   refine ⟨Q',D',_,Al',cl',y',⟨AF,hi,BM,hb,(hk.calm h.sit.calm).1,Bd⟩,λq hq=>?_,Nat.le_refl _,λb hb=>Bc b (h.far b hb),h.big,below_safeU h.big h.bel An h.far,by omega,λr hr=>⟨λk=>?_,?_⟩,h.wfs,hlone⟩
   . rw[List.nil_append,List.mem_singleton] at hq
     rw[hq]
   . obtain ⟨g1,g2⟩:=h.gone r hr
     have k':r∈[((0:Int),Q.seq+1)]++[]:=k
     rw[List.append_nil,List.mem_singleton] at k'
     rw[k'] at g2
     have g3:Q.seq+1<=Q.seq:=g2
     omega
   . have:=(h.gone r hr).2
     omega
theorem inv_wf {lv fr:List P2} (h:Inv Q D lv fr) {r:P2} (hr:r∈lv++fr):WfP r:=by
 obtain ⟨s,hs⟩:=h.mem hr
 obtain ⟨i,j,e,hj,hm,-⟩:=h.mid.page _ hs
 have h1:0<=r.1/\r.1<=60:=hm.1
 have h2:1<=r.2/\r.2<=1099511627776:=hm.2.1
 exact ⟨yg ⟨by omega,by omega⟩,yg ⟨by omega,by omega⟩⟩
theorem inv_apart {lv fr:List P2} (h:Inv Q D lv fr):∀r∈fr,r∉lv:=by
 have h1:=h.mid.tabs.nodR
 rw[List.map_append] at h1
 have h2:=(h.refsL.append h.refsF).nodup_iff.1 h1
 exact λr hr hl=>(List.nodup_append.1 h2).2.2 r hl r hr rfl
theorem Und.undone (h:Und N w s p c y g Q D lv fr Al cl Af cf cc m gs Gb wx) (hs:StAt w2 s p c y g Q.undo lv fr Al cl Af cf) (An:Safe y wx w2):Und N w s p c y g Q.undo D lv [] Al cl none 0 cc m (gs++qY fr) Gb (w2.setCell ⟨s,9,none⟩ (.slice none 0 0)):=by
 have E9:N<=s:=Nat.le_of_not_lt λk=>(h.far s k).2.1 rfl
 refine ⟨zWm h.sit hs,h.root,h.lenl,λb hb=>⟨(h.far b hb).1,(h.far b hb).2.1,λ_ e=>(by cases e)⟩,h.big,(below_safeU h.big h.bel An λb hb=>(h.far b hb).1).setCell (p:=⟨s,9,none⟩) E9 _,h.seq,λr hr=>?_,λr hr=>?_,λb e=>⟨⟨(h.lone b e).1.1,(h.lone b e).1.2.1,λ_ e=>(by cases e)⟩,(h.lone b e).2.clear⟩⟩
 . have e0:qY lv++qY []=qY lv:=List.append_nil _
   rw[e0]
   rcases List.mem_append.1 hr with k | k
   . exact ⟨λk2=>(h.gone r k).1 (List.mem_append_left _ k2),(h.gone r k).2⟩
   . exact ⟨inv_apart h.sit.inv r k,h.sit.inv.seqs r (List.mem_append_right _ k)⟩
 . rcases List.mem_append.1 hr with k | k
   . exact h.wfs r k
   . exact inv_wf h.sit.inv (List.mem_append_right _ k)
theorem und_read (r:P2) (h:Und N w s p c y g Q D lv fr Al cl Af cf cc m gs Gb wx) (hr:r∈gs):Calls Tryz.prog 26 #[.pointer (some ⟨p,0,none⟩),P2V r] wx λe w'=>∃A m0 n,e=.returned (.tuple #[.slice A n m0,.int .i64 8])/\Und N w s p c y g Q D lv fr Al cl Af cf cc m gs Gb w'/\Safe y wx w':=by
 refine (sit_none r h.sit (h.gone r hr).1 (h.wfs r hr)).mono ?_
 rintro e w' ⟨A,m0,n,rfl,h1,h2⟩
 exact ⟨A,m0,n,rfl,⟨h1,h.root,h.lenl,h.far,h.big,below_safeU h.big h.bel h2 λb hb=>(h.far b hb).1,h.seq,h.gone,h.wfs,h.lone⟩,h2⟩
end
end
end Go.Proofs.YtinkkmlbhkfmnaaGreat
