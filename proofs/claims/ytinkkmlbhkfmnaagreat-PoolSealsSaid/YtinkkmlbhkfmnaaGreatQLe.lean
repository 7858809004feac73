/- A part of what the last text proves: PoL8, PoL9, PoL10, PoN1. -/
import Derived.Test.YtinkkmlbhkfmnaaGreatQPoL7
set_option maxRecDepth 100000
set_option maxHeartbeats 40000000
namespace Go.Proofs.YtinkkmlbhkfmnaaGreat
section
open Go.RowKit
attribute [local go_sem] Oper.semAt_some
theorem zHv (all:List Pg) (pk:List Bool) (K:Int) (m:Nat):∀x∈vb all pk K m,x∈all/\x.r.1≠0:=by
 induction m with
 | zero=>intro x hx;cases hx
 | succ m ih =>
  intro x hx
  have hx':x∈vJ all pk K (vb all pk K m) (all.length - 1 - m):=hx
  unfold vJ at hx'
  split at hx'
  . exact ih x hx'
  . next y hy =>
    split at hx'
    . exact ih x hx'
    . next hn =>
      rcases List.mem_append.1 hx' with k | k
      . exact ih x k
      . rw[List.mem_singleton] at k
        subst k
        exact ⟨List.mem_of_getElem? hy,λe=>hn (.inl e)⟩
theorem zMs (all:List Pg) (pk:List Bool) (K:Int) (hK:0<=K) (m:Nat):((vb all pk K m).length:Int)<=K:=by
 induction m with
 | zero=>exact hK
 | succ m ih =>
  show ((vJ all pk K (vb all pk K m) (all.length - 1 - m)).length:Int)<=K
  unfold vJ
  split
  . exact ih
  . split
    . exact ih
    . next hn =>
      have:¬K<=((vb all pk K m).length:Int):=λk=>hn (.inr (.inr (.inr (.inl k))))
      rw[List.length_append]
      simp only[List.length_cons,List.length_nil]
      omega
theorem zMr (all:List Pg) (pk:List Bool) (K:Int) (m:Nat):((vb all pk K m).map (·.r.1)).Nodup:=by
 induction m with
 | zero=>exact List.nodup_nil
 | succ m ih =>
  show ((vJ all pk K (vb all pk K m) (all.length - 1 - m)).map (·.r.1)).Nodup
  unfold vJ
  split
  . exact ih
  . split
    . exact ih
    . next y _ hn =>
      rw[List.map_append,List.nodup_append]
      refine ⟨ih,by simp,λa ha b hb e=>?_⟩
      obtain ⟨z,hz,rfl⟩:=List.mem_map.1 ha
      simp only[List.map_cons,List.map_nil,List.mem_singleton] at hb
      refine hn (.inr (.inr (.inr (.inr ?_))))
      rw[List.any_eq_true]
      exact ⟨z,hz,by rw[beq_iff_eq,e,hb]⟩
theorem may_zero {s:Int} {d:List UInt8} (hs:1<=s/\s<=1099511627776) (hd:d.length<=60):vg 0 s d:=by
 refine ⟨by omega,hs,by omega,?_⟩
 have h1:=qn (Int.toNat 0) (by decide)
 have h2:=qn s.toNat (by omega)
 have h3:=qn d.length (by omega)
 unfold qo
 simp only[List.length_append,List.length_cons,List.length_nil]
 omega
section
variable {w w':World} {s p c l f:Nat} {x k:Nat->Prop} {g:Cf} {Q Q':PS} {D:Dat} {lv fr:List Pg} {Al Af:Option Addr} {cl cf:Nat}
theorem may_pick (hi:Inv Q D (qY lv) (qY fr)) (pk:List Bool):Q.may (qY (zDn (lv++fr) pk Q.K))=true:=by
 have hK:=hi.mid.ok.may.2.2.2.1
 refine may_of hi ?_ ?_ λr hr=>?_
 . rw[List.length_map]
   exact zMs _ _ _ (by omega) _
 . unfold ya
   have:=zMr (lv++fr) pk Q.K (lv++fr).length
   rw[List.map_map]
   have e:(List.map (λy:Pg=>y.r.1) (zDn (lv++fr) pk Q.K)).Nodup:=this
   show (!decide ((List.map (λy:Pg=>y.r.1) (zDn (lv++fr) pk Q.K)).Nodup))=false
   rw[decide_eq_true e]
   rfl
 . obtain ⟨y,hy,rfl⟩:=List.mem_map.1 hr
   obtain ⟨h1,h2⟩:=zHv _ _ _ _ y hy
   exact ⟨by rw[<- List.map_append];exact List.mem_map_of_mem h1,h2⟩
theorem zMh {W V:World} {y:Nat->Prop} {A A0:Option Addr} {m m0:Nat} {d:List UInt8} {l0:List P2} {er:Int} {Q1:PS} (hP:Pool W p c y Q) (ok:Ok Q) (hV:Below W.heap.size W V) (hd:RB W W.heap.size A d) (hl:RLies V A0 l0) (hx:∀ad,A0=some ad->W.heap.size<=ad.block/\ad.block<V.heap.size) {n0:Nat} (hn0:l0.length=n0) (hlen:l0.length<=200) (hwf:∀r∈l0,WfP r) (hm:Q.sealQ 100 d l0=some (er,Q1)) :
 Calls Tryz.prog 28 #[.pointer (some ⟨p,0,none⟩),.slice A d.length m,.slice A0 n0 m0] V λe w'=>e=.returned (.int .i64 er)/\Pool w' p c y Q1/\Safe y W w':=by
 subst hn0
 refine (q_seal 100 A m d A0 m0 l0 (hP.more hV) ok ((hd.below hV nL).mono hV.size) hl (λ_ ad e=>.inr (hx ad e)) hlen hwf hm).mono ?_
 rintro e w' ⟨rfl,h1,h2⟩
 exact ⟨rfl,h1.less λ_ k=>.inl k,(qC hV).then' h2 λ_ _ k=>.inl k⟩
theorem zDe {P:Program} {w:World} {ops:Array Oper} {rest:List Oper} {o:Oper} {a:Act} {Q:Exit->Act->World->Prop} (hgd:o.guard=none) (s x:Operand) (t:TypeId)
 (ho:o.op=.call { callee:=.builtin .append,args:=#[s,x],argTypes:=#[t,t] })
 (base:Nat) (e:TypeId) (i:TypeInfo) (z:Value) (size bytes:Nat) (ht:P.underlying t=some (.slice e)) (hi:P.info? e=some i) (hz:i.zero=some z)
 (hsize:i.size=size) (hby:i.bytes=bytes) (hzs:z.cells.size=size) (hsz:0<size)
 (v:Value) (n:Nat) (xs:List Value) (hs:a.eval s=v) (hown:w.ownsRow base e size v n xs)
 (A:Option Addr) (m c:Nat) (news:List Value) (hx:a.eval x=.slice A m c) (hl:news.length=m * size) (hA:A=none->m=0/\c=0) (hnews:∀ad,A=some ad->∀j u,news[j]? = some u->w.cell? (ad.add j)=some u) (h1:∀u∈news,u.oneCell'=true)
 (h63:n+m<=maxLen) (hbytes:(n+m) * bytes<=140737488355328) (hbase:base<=w.heap.size)
 (h:∀q cap w',w'.ownsRow base e size (.slice q (n+m) cap) (n+m) (xs++news)->w.grownBy w' v.ownBlock->wpList P ops Q rest (a.put o.dst (.slice q (n+m) cap)) w') :
 wpList P ops Q (o::rest) a w:=by
 refine wpList_plain hgd λ_ hK=>?_
 cases A with
 | some ad =>
  obtain ⟨v',w',hr,h2,h3,_⟩:=run_append_own (P:=P) (w:=w) base t o.type e i z size bytes ht hi hz hsize hby hzs hsz v n xs hown ad m c news hl (hnews ad rfl) h1 h63 hbytes hbase
  obtain ⟨q,cap,rfl,_⟩:=qN h2
  unfold Oper.wp execOp
  simp only[ho,resolve,invoke,builtin,Sem.run_bind,Sem.run_pure,Result.andThen_ok,List.map_toArray,List.map_cons,List.map_nil,hs,hx,hr]
  exact hK _ _ (h q cap w' h2 h3)
 | none =>
  obtain ⟨rfl,rfl⟩:=hA rfl
  have hnil:news = []:=List.eq_nil_of_length_eq_zero (by simpa using hl)
  subst hnil
  have hr:=run_append_owned_none (P:=P) (w:=w) base t o.type e i size ht hi v n xs hown
  obtain ⟨q,cap,rfl,_⟩:=qN hown
  unfold Oper.wp execOp
  simp only[ho,resolve,invoke,builtin,Sem.run_bind,Sem.run_pure,Result.andThen_ok,List.map_toArray,List.map_cons,List.map_nil,hs,hx,hr]
  exact hK _ _ (h q cap w (by simpa using hown) ⟨rfl,rfl,rfl,Nat.le_refl _,λ_ _ _=>rfl⟩)
theorem zHa {w:World} {ops:Array Oper} {rest:List Oper} {o:Oper} {a:Act} {Q:Exit->Act->World->Prop} (hgd:o.guard=none) (s x:Operand) (ho:o.op=.call { callee:=.builtin .append,args:=#[s,x],argTypes:=#[31,31] })
 (base:Nat) (v:Value) (n:Nat) (xs:List Pg) (m:Nat) (l:List Pg) (ad:Addr) (c:Nat) (hs:a.eval s=v) (hx:a.eval x=.slice (some ad) m c) (hn:xs.length=n) (hm:l.length=m) (hown:GOwn w base v xs) (hl:GLies w (some ad) l) (h63:n+m<=1000000) (hbase:base<=w.heap.size)
 (h:∀q cap w',GOwn w' base (.slice q (n+m) cap) (xs++l)->w.grownBy w' v.ownBlock->((Value.slice q (n+m) cap).ownBlock=v.ownBlock\/(Value.slice q (n+m) cap).ownBlock=some w.heap.size)->wpList Tryz.prog ops Q rest (a.put o.dst (.slice q (n+m) cap)) w') :
 wpList Tryz.prog ops Q (o::rest) a w:=by
 subst hn
 subst hm
 refine wpList_plain hgd λ_ hK=>?_
 obtain ⟨i,hi,hz,hsz,hb⟩:=zDo
 obtain ⟨v',w',hr,h2,h3,-,h5⟩:=run_append_own_at (P:=Tryz.prog) w base 31 o.type 36 i _ 3 40 Tryz.underlying31 hi hz hsz hb rfl (by omega) v xs.length (vm xs) hown ad l.length c (vm l) (zBd l) (hl.cells rfl) (λu hu=>zDu hu) (by unfold maxLen;omega) (by omega) hbase
 obtain ⟨q,cap,rfl,_⟩:=qN h2
 unfold Oper.wp execOp
 simp only[ho,resolve,invoke,builtin,Sem.run_bind,Sem.run_pure,Result.andThen_ok,List.map_toArray,List.map_cons,List.map_nil,hs,hx,hr]
 exact hK _ _ (h q cap w' (by unfold GOwn;rw[List.length_append,zDv];exact h2) h3 h5)
theorem StAt.sealed {x0:Nat->Prop} {Q0:PS} {g0:Cf} {W4 W6 w7:World} {lv' L:List Pg} {Al' A7 q:Option Addr} {cl' c7 cap base:Nat} (h:StAt w s p c x g0 Q0 lv fr Al cl Af cf) (h4:StAt W4 s p c x0 g Q lv' [] Al' cl' none 0) (hx0:∀b,x b->x0 b) (hsf:Safe (vW x s Af) w W4) (hL:∀y∈L,y∈lv++fr) (pg:Pg) (hA:∀ad,A7=some ad->x0 ad.block/\w.heap.size<=ad.block) (hb6:Below W4.heap.size W4 W6) (hown:GOwn w7 base (.slice q (L.length+1) cap) (L++[pg])) (hg:W6.grownBy w7 (Value.slice A7 L.length c7).ownBlock) (hat:(Value.slice q (L.length+1) cap).ownBlock=(Value.slice A7 L.length c7).ownBlock\/(Value.slice q (L.length+1) cap).ownBlock=some W6.heap.size) (hd:CB w7 (λb=>W4.heap.size<=b/\b<W6.heap.size) pg.A pg.d/\pg.d.length<=2000) :
 StAt (w7.setCell ⟨s,8,none⟩ (.slice q (L.length+1) cap)) s p c (λb=>x0 b\/New W4 (w7.setCell ⟨s,8,none⟩ (.slice q (L.length+1) cap)) b) g Q (L++[pg]) [] q cap none 0/\Turned (λb=>b=s\/∃ad,A7=some ad/\b=ad.block) W4 (w7.setCell ⟨s,8,none⟩ (.slice q (L.length+1) cap))/\w7.heap[s]? = W4.heap[s]? :=by
 have hs:=h4.lt
 have hsw:=h.lt
 have hw4:=hsf.size
 have hrow:∀b,some b=(Value.slice A7 L.length c7).ownBlock->∃ad,A7=some ad/\b=ad.block:=λb e=>by
  cases A7 with
  | none=>have e':some b=(none:Option Nat):=e;cases e'
  | some ad=>have e':some b=some ad.block:=e;exact ⟨ad,rfl,Option.some.inj e'⟩
 have hk:∀b,b<W4.heap.size->(∀ad,A7=some ad->b≠ad.block)->w7.heap[b]? = W4.heap[b]? := λb hl hn =>
  (hg.block b (Nat.lt_of_lt_of_le hl hb6.size) λe=>by obtain ⟨ad,e1,e2⟩:=hrow b e;exact hn ad e1 e2).trans (hb6.block b hl)
 have hsA:∀ad,A7=some ad->s≠ad.block:=λad e e2=>by have:=(hA ad e).2;omega
 have hs7:w7.heap[s]? = W4.heap[s]? := hk s hs hsA
 have hsz:W4.heap.size<=w7.heap.size:=Nat.le_trans hb6.size hg.size
 have ht0:Turned (λb=>b=s\/∃ad,A7=some ad/\b=ad.block) W4 w7:=⟨hg.os.trans hb6.os,hg.tape.trans hb6.tape,hg.output.trans hb6.output,hsz,λb hl hn=>hk b hl λad e e2=>hn (.inr ⟨ad,e,e2⟩)⟩
 have ht:Turned (λb=>b=s\/∃ad,A7=some ad/\b=ad.block) W4 (w7.setCell ⟨s,8,none⟩ (.slice q (L.length+1) cap)):=ht0.setCell (p:=⟨s,8,none⟩) (λ_=>.inl rfl) _
 have hsc:∀b,b≠s->(w7.setCell ⟨s,8,none⟩ (.slice q (L.length+1) cap)).heap[b]? = w7.heap[b]? := λb hn=>Below.heap_setCell w7 _ _ b hn
 have hqb:∀ad,q=some ad->(∃a0,A7=some a0/\ad.block=a0.block)\/ad.block=W6.heap.size:=λad e=>by
  subst e
  rcases hat with k | k
  . exact .inl (hrow ad.block k)
  . exact .inr (Option.some.inj k)
 have hqlt:∀ad,q=some ad->ad.block<w7.heap.size:=λad e=>by
  subst e
  exact (World.ownsRow.lt hown ad.block rfl).2
 have hyx:∀i,(i=s\/∃ad,A7=some ad/\i=ad.block)->x0 i:=λi k=>by
  rcases k with k | ⟨ad,k1,k2⟩
  . rw[k];exact h4.hx
  . rw[k2];exact (hA ad k1).1
 have hkeep:∀b,vW x s Af b->(w7.setCell ⟨s,8,none⟩ (.slice q (L.length+1) cap)).heap[b]? = w.heap[b]? := λb hb=>(ht.block b (Nat.lt_of_lt_of_le (h.pool.there b hb.1) hw4) (by
  rintro (k | ⟨ad,k1,k2⟩)
  . exact hb.2.1 k
  . have:=(hA ad k1).2
    have:=h.pool.there b hb.1
    omega)).trans (hsf.block (h.pool.there b hb.1) hb)
 have hsq:∀ad,q=some ad->ad.block≠s:=λad e e2=>by
  rcases hqb ad e with ⟨a0,k1,k2⟩ | k
  . exact hsA a0 k1 (e2.symm.trans k2)
  . have:=hb6.size;omega
 have hzz:(w7.setCell ⟨s,8,none⟩ (.slice q (L.length+1) cap)).heap.size=w7.heap.size:=by simp
 refine ⟨⟨h4.pool.grow (ht.mono' hyx),.inl h4.hx,?_,h4.cfg,λhn=>?_,λad e=>⟨?_,hsq ad e,λ_ e2=>(by cases e2)⟩,λe=>?_,zEv _ _,λad e=>(by cases e),λa ha=>?_⟩,ht,hs7⟩
 . have:=heap_setCell_same w7 s 8 _ _ (.slice q (L.length+1) cap) (hs7.trans h4.self)
   rw[this,List.length_append]
   rfl
 . obtain ⟨B,o,e,hB,hc⟩:=hown.lies.1 hn
   have hk2:=hsc B (hsq _ e)
   exact ⟨B,o,e,by rw[hzz];exact hB,λj hj=>⟨(World.cell?_of_block (a:=⟨B,o+j * 3,none⟩) hk2).trans (hc j hj).1,(World.cell?_of_block (a:=⟨B,o+j * 3+1,none⟩) hk2).trans (hc j hj).2.1,(World.cell?_of_block (a:=⟨B,o+j * 3+2,none⟩) hk2).trans (hc j hj).2.2⟩⟩
 . rcases hqb ad e with ⟨a0,k1,k2⟩ | k
   . rw[k2];exact .inl (hA a0 k1).1
   . refine .inr ⟨by rw[k];exact hb6.size,?_⟩
     rw[hzz];exact hqlt ad e
 . obtain ⟨B,o,e',_,_⟩:=hown.lies.1 (by rw[List.length_append];exact Nat.succ_pos _)
   rw[e] at e';cases e'
 . rw[List.append_nil] at ha
   rcases List.mem_append.1 ha with k | k
   . obtain ⟨h1,h2⟩:=h.data a (hL a k)
     exact ⟨h1.keep (λb hb=>hkeep b hb) λb hb=>⟨.inl (hx0 b hb.1),hb.2.1,λ_ e=>(by cases e)⟩,h2⟩
   . rw[List.mem_singleton] at k
     subst k
     exact ⟨hd.1.keep (λb hb=>hsc b (by omega)) λb hb=>⟨.inr ⟨hb.1,by have:=hg.size;rw[hzz];omega⟩,by omega,λ_ e=>(by cases e)⟩,hd.2⟩
def zFa (w:World) (s p c:Nat) (x:Nat->Prop) (g:Cf) (Q:PS) (lv fr:List Pg) (Af:Option Addr) (pk:List Bool) (d:List UInt8) (cc:Nat) (e:Ending) (w':World):Prop :=
 e=.returned (.bool true)/\∃Q' D' lv' Al' cl' y,StAt w' s p c y g Q' lv' [] Al' cl' none 0/\Inv Q' D' (qY lv') []/\(∀q∈lv'++[],D' q.r=q.d)/\Bud Q' cc/\(∀b,vW x s Af b->vW y s none b)/\Safe (vW x s Af) w w'/\Keeps Q.S Q'.S/\((Q'.over=true/\lv'=lv/\Q'.seq<=Q.seq+1)\/(Q'.over=false/\Q'.seq=Q.seq+1/\∃A c,lv'=zDn (lv++fr) pk Q.K++[⟨(0,Q.seq+1),d,A,c⟩]))
theorem zNh (d:Cal) (cc:Nat) (h:StAt w s p c x g Q lv fr Al cl Af cf) (hi:Inv Q D (qY lv) (qY fr)) (hd:∀q∈lv++fr,D q.r=q.d) (hb:Bud Q (cc+1)) (hcd:CB w (vW x s Af) d.A d.d) (hdl:d.d.length<=60) (hdn:d.A=none->d.d.length=0/\d.c=0) (hpk:BA w d.A2 d.pk) (hpl:d.pk.length<=1000) (hsq:Q.seq+1<=1099511627776) :
 Calls Tryz.prog 11 #[.pointer (some ⟨s,0,none⟩),.agg #[.int .i64 d.dO,.int .i64 d.n,.int .i64 d.keep,.int .i64 d.page,.slice d.A d.d.length d.c,.slice d.A2 d.pk.length d.c2]] w (zFa w s p c x g Q lv fr Af d.pk d.d cc):=by
 obtain ⟨W,hW⟩:∃W,W=w.alloc (.cells #[.int .i64 d.dO,.int .i64 d.n,.int .i64 d.keep,.int .i64 d.page,.slice d.A d.d.length d.c,.slice d.A2 d.pk.length d.c2] 41):=⟨_,rfl⟩
 have hbW:Below w.heap.size w W:=by rw[hW];exact bR.alloc nL _
 have HXC:Hid (W.heap[w.heap.size]? = some (.cells #[.int .i64 d.dO,.int .i64 d.n,.int .i64 d.keep,.int .i64 d.page,.slice d.A d.d.length d.c,.slice d.A2 d.pk.length d.c2] 41 (0,0))):=hI (by rw[hW];exact heap_alloc_new _ _)
 have HTW:=hI (h.below hbW)
 have HBW:=hI hbW
 have HI:=hI hi
 have HOK:=hI hi.mid.ok
 have HD:=hI hd
 have HBud:=hI hb
 have HCD:=hI hcd
 have HT:=hI h
 have HBP:=hI hpk
 have HSQ0:=hI hsq
 obtain ⟨lp,fp,hpt⟩:=HTW.out.pool.parts
 have HPK:Hid (∀V,Below W.heap.size W V->Parts V p c lp fp Q):=hI λV hV=>hpt.below hV
 have HSK:Hid (∀V,Below W.heap.size W V->V.cell? ⟨s,0,none⟩=some (.pointer (some ⟨c,0,none⟩))/\V.cell? ⟨s,1,none⟩=some (.pointer (some ⟨p,0,none⟩))):=hI λV hV=>⟨(HTW.out.sc.below hV).c0,(HTW.out.sc.below hV).c1⟩
 have hc1:=(HSK.out W bR).1
 have hc2:=(HSK.out W bR).2
 have HWE:=hI hW
 have HDN:=hI hdn
 have HCF:=hI h.cfg
 have hKg:g.K=Q.K:=by rw[<- HCF.out];rfl
 have HLEN:Hid (lv.length<=1000/\fr.length<=1000):=hI (by have h9:=hi.lenA;have:=hi.mid.ok.may.2.2.2.1;rw[List.length_map,List.length_map] at h9;omega)
 obtain ⟨L,hL⟩:∃L,L=zDn (lv++fr) d.pk Q.K:=⟨_,rfl⟩
 have HMAY:Hid (Q.may (qY L)=true):=hI (by rw[hL];exact may_pick hi d.pk)
 have HLE:=hI hL
 have hLl:L.length<=60:=by have h9:=zMs (lv++fr) d.pk Q.K (by have:=hi.mid.ok.may.2.2.2.1;omega) (lv++fr).length;have:=hi.mid.ok.may.2.2.2.1;have e:L.length=(vb (lv++fr) d.pk Q.K (lv++fr).length).length:=(by rw[hL];rfl);omega
 have HMEM:Hid (∀y∈L,y∈lv++fr/\y.r.1≠0):=hI (by rw[hL];exact zHv _ _ _ _)
 have HMZ:Hid (vg 0 (Q.seq+1) d.d):=hI (may_zero ⟨by have:=hi.mid.ok.seq;omega,hsq⟩ hdl)
 clear h hi hd hb hcd hpt hbW hW hdn hpk hsq hL
 go_enter Tryz.func11,Tryz.ntmps11
 go_upto_region 1 with fail
 rw[<- HWE.out]
 go_cut [5,6] from 10 to 19 (λv5 v6 wx=>∃b5,v5=.pointer (some ⟨b5,0,none⟩)/\v6=.int .i64 Q.bads/\wx.heap[b5]? = some (.cells #[.int .i64 Q.S.rd,.int .i64 Q.S.pr,.int .i64 Q.S.er] 85 (0,0))/\W.heap.size<=b5/\Below W.heap.size W wx)
 case first=>as_aux_lemma =>
  go_region_held3 (λV=>V.cell? ⟨s,0,none⟩=some (.pointer (some ⟨c,0,none⟩))/\V.cell? ⟨s,1,none⟩=some (.pointer (some ⟨p,0,none⟩)))
   (exact HSK.out _ (by first | exact bR.drew | exact bR | exact HBa.out | exact HBb.out | exact (bR.alloc nL _).drew | exact (bR.alloc nL _) | exact (HBa.out.alloc HBa.out.size _) | exact (HBb.out.alloc HBb.out.size _) | exact (((HBa.out.setCell (by first | exact Nat.le_refl _ | exact HBa.out.size | exact HBb.out.size | simp | omega) _).setCell (by first | exact Nat.le_refl _ | exact HBa.out.size | exact HBb.out.size | simp | omega) _).setCell (by first | exact Nat.le_refl _ | exact HBa.out.size | exact HBb.out.size | simp | omega) _) | exact (((HBb.out.setCell (by first | exact Nat.le_refl _ | exact HBa.out.size | exact HBb.out.size | simp | omega) _).setCell (by first | exact Nat.le_refl _ | exact HBa.out.size | exact HBb.out.size | simp | omega) _).setCell (by first | exact Nat.le_refl _ | exact HBa.out.size | exact HBb.out.size | simp | omega) _)))
   (first
    | (go_at_call 40;(with_reducible refine (zOm HPK.out (by first | exact bR.drew | exact bR | exact HBa.out | exact HBb.out | exact (bR.alloc nL _).drew | exact (bR.alloc nL _) | exact (HBa.out.alloc HBa.out.size _) | exact (HBb.out.alloc HBb.out.size _) | exact (((HBa.out.setCell (by first | exact Nat.le_refl _ | exact HBa.out.size | exact HBb.out.size | simp | omega) _).setCell (by first | exact Nat.le_refl _ | exact HBa.out.size | exact HBb.out.size | simp | omega) _).setCell (by first | exact Nat.le_refl _ | exact HBa.out.size | exact HBb.out.size | simp | omega) _) | exact (((HBb.out.setCell (by first | exact Nat.le_refl _ | exact HBa.out.size | exact HBb.out.size | simp | omega) _).setCell (by first | exact Nat.le_refl _ | exact HBa.out.size | exact HBb.out.size | simp | omega) _).setCell (by first | exact Nat.le_refl _ | exact HBa.out.size | exact HBb.out.size | simp | omega) _))).mono ?_);rintro e wa ⟨rfl,hw,hv⟩;have HBa:=hI hw;have HVa:=hI hv;(first | (have hbx:=(hv.block W.heap.size (by simp)).trans (heap_alloc_new W (.cells #[.int .i64 0,.int .i64 0,.int .i64 0] 85));have HBX:=hI hbx;obtain ⟨_,_,_,_,_,_⟩:=qT hbx;obtain ⟨_,_,_⟩:=vD hbx (.int .i64 Q.S.rd) (.int .i64 Q.S.pr) (.int .i64 Q.S.er);clear hbx) | (have hbx:=(hv.block wb.heap.size (by simp)).trans (heap_alloc_new wb (.cells #[.int .i64 0,.int .i64 0,.int .i64 0] 85));have HBX:=hI hbx;obtain ⟨_,_,_,_,_,_⟩:=qT hbx;obtain ⟨_,_,_⟩:=vD hbx (.int .i64 Q.S.rd) (.int .i64 Q.S.pr) (.int .i64 Q.S.er);clear hbx) | (have hbx:=(hv.block _ (qD HBX.out)).trans HBX.out;have HBX:=hI hbx;obtain ⟨_,_,_,_,_,_⟩:=qT hbx;obtain ⟨_,_,_⟩:=vD hbx (.int .i64 Q.S.rd) (.int .i64 Q.S.pr) (.int .i64 Q.S.er);clear hbx) | skip);clear hw hv)
    | (go_at_call 32;(with_reducible refine (zOn HPK.out HOK.out (by first | exact bR.drew | exact bR | exact HBa.out | exact HBb.out | exact (bR.alloc nL _).drew | exact (bR.alloc nL _) | exact (HBa.out.alloc HBa.out.size _) | exact (HBb.out.alloc HBb.out.size _) | exact (((HBa.out.setCell (by first | exact Nat.le_refl _ | exact HBa.out.size | exact HBb.out.size | simp | omega) _).setCell (by first | exact Nat.le_refl _ | exact HBa.out.size | exact HBb.out.size | simp | omega) _).setCell (by first | exact Nat.le_refl _ | exact HBa.out.size | exact HBb.out.size | simp | omega) _) | exact (((HBb.out.setCell (by first | exact Nat.le_refl _ | exact HBa.out.size | exact HBb.out.size | simp | omega) _).setCell (by first | exact Nat.le_refl _ | exact HBa.out.size | exact HBb.out.size | simp | omega) _).setCell (by first | exact Nat.le_refl _ | exact HBa.out.size | exact HBb.out.size | simp | omega) _))).mono ?_);rintro e wb ⟨rfl,hw,hv⟩;have HBb:=hI hw;have HVb:=hI hv;(first | (have hbx:=(hv.block W.heap.size (by simp)).trans (heap_alloc_new W (.cells #[.int .i64 0,.int .i64 0,.int .i64 0] 85));have HBX:=hI hbx;obtain ⟨_,_,_,_,_,_⟩:=qT hbx;obtain ⟨_,_,_⟩:=vD hbx (.int .i64 Q.S.rd) (.int .i64 Q.S.pr) (.int .i64 Q.S.er);clear hbx) | (have hbx:=(hv.block wa.heap.size (by simp)).trans (heap_alloc_new wa (.cells #[.int .i64 0,.int .i64 0,.int .i64 0] 85));have HBX:=hI hbx;obtain ⟨_,_,_,_,_,_⟩:=qT hbx;obtain ⟨_,_,_⟩:=vD hbx (.int .i64 Q.S.rd) (.int .i64 Q.S.pr) (.int .i64 Q.S.er);clear hbx) | (have hbx:=(hv.block _ (qD HBX.out)).trans HBX.out;have HBX:=hI hbx;obtain ⟨_,_,_,_,_,_⟩:=qT hbx;obtain ⟨_,_,_⟩:=vD hbx (.int .i64 Q.S.rd) (.int .i64 Q.S.pr) (.int .i64 Q.S.er);clear hbx) | skip);clear hw hv))
  all_goals
   go_wp2_with fail
   go_meet
   case rel =>
    refine ⟨_,rfl,rfl,?_,?_,?_⟩
    . (first | exact heap_alloc_new _ _ | exact (HVb.out.block _ (by simp)).trans (heap_alloc_new _ _) | exact yr HBX.out _ _ _ | exact (HVb.out.block _ (by simp;exact qD HBX.out)).trans (yr HBX.out _ _ _))
    . first | exact Nat.le_refl _ | exact HBa.out.size | exact HBb.out.size
    . exact (by first | exact bR.drew | exact bR | exact HBa.out | exact HBb.out | exact (bR.alloc nL _).drew | exact (bR.alloc nL _) | exact (HBa.out.alloc HBa.out.size _) | exact (HBb.out.alloc HBb.out.size _) | exact (((HBa.out.setCell (by first | exact Nat.le_refl _ | exact HBa.out.size | exact HBb.out.size | simp | omega) _).setCell (by first | exact Nat.le_refl _ | exact HBa.out.size | exact HBb.out.size | simp | omega) _).setCell (by first | exact Nat.le_refl _ | exact HBa.out.size | exact HBb.out.size | simp | omega) _) | exact (((HBb.out.setCell (by first | exact Nat.le_refl _ | exact HBa.out.size | exact HBb.out.size | simp | omega) _).setCell (by first | exact Nat.le_refl _ | exact HBa.out.size | exact HBb.out.size | simp | omega) _).setCell (by first | exact Nat.le_refl _ | exact HBa.out.size | exact HBb.out.size | simp | omega) _))
 case rest =>
  obtain ⟨b5,rfl,rfl,hx5,hb5,hbw⟩:=hcut
  obtain ⟨W1,rfl⟩:∃W1,W1=wc:=⟨_,rfl⟩
  have HX5:=hI hx5
  have HB5:=hI hb5
  have HB1:=hI hbw
  have HXC1:=hI ((HB1.out.block w.heap.size (qD HXC.out)).trans HXC.out)
  have HT1:=hI (HT.out.below (HBW.out.trans (HB1.out.mono HBW.out.size)))
  have HBw1:Hid (Below w.heap.size w W1):=hI (HBW.out.trans (HB1.out.mono HBW.out.size))
  obtain ⟨-,-,-,-,k4,k5⟩:=zEk HXC1.out
  have c8:=HT1.out.sc.c8
  have c9:=HT1.out.sc.c9
  have c5:=HT1.out.sc.c5
  rw[hKg] at c5
  clear hx5 hb5 hbw hc1 hc2
  go_upto_region 2 with fail
  go_region_held3 (λV=>V.cell? ⟨s,8,none⟩=some (.slice Al lv.length cl)/\V.cell? ⟨s,9,none⟩=some (.slice Af fr.length cf)/\V.cell? ⟨s,5,none⟩=some (.int .i64 Q.K)/\V.cell? ⟨w.heap.size,5,none⟩=some (.slice d.A2 d.pk.length d.c2))
   (first | exact ⟨c8,c9,c5,k5⟩ | exact HK2.out)
   (first
    | (go_at_call 17;(with_reducible refine (zPx Al Af cl cf lv fr d.A2 d.c2 d.pk Q.K W1.drew (HT1.out.live.below bR.drew) (HT1.out.fresh.lies.1.below bR.drew) HT1.out.lnone HT1.out.fnone ((HBP.out.below HBw1.out).below bR.drew) HLEN.out.1 HLEN.out.2 hpl).mono ?_);rintro e W2 ⟨A7,c7,rfl,hown,hbp⟩;rw[<- HLE.out] at hown;rw[<- HLE.out];have HO7:=hI hown;have HB21:Hid (Below W1.heap.size W1 W2):=hI (bR.drew.trans hbp);have HK2:Hid (W2.cell? ⟨s,8,none⟩=some (.slice Al lv.length cl)/\W2.cell? ⟨s,9,none⟩=some (.slice Af fr.length cf)/\W2.cell? ⟨s,5,none⟩=some (.int .i64 Q.K)/\W2.cell? ⟨w.heap.size,5,none⟩=some (.slice d.A2 d.pk.length d.c2)):=hI ⟨(HT1.out.sc.below HB21.out).c8,(HT1.out.sc.below HB21.out).c9,(HT1.out.sc.below HB21.out).c5.trans (by rw[hKg]),(HB21.out.cell (p:=⟨w.heap.size,5,none⟩) (qD HXC1.out)).trans k5⟩;clear hown hbp)
    | fail)
  clear c8 c9 c5 k4 k5
  have HB2:Hid (Below w.heap.size w W2):=hI (HBw1.out.trans (HB21.out.mono HBw1.out.size))
  have HX52:=hI ((HB21.out.block _ (qD HX5.out)).trans HX5.out)
  have HXC2:=hI ((HB21.out.block _ (qD HXC1.out)).trans HXC1.out)
  have HST2:=hI (HT.out.below HB2.out)
  have HRB2:Hid (RB W2 W2.heap.size d.A d.d):=hI (((HCD.out.rb (B:=w.heap.size) λb hb=>HT.out.pool.there b hb.1).below HB2.out nL).mono HB2.out.size)
  obtain ⟨lp2,fp2,hpt2⟩:=HST2.out.pool.parts
  have HPT2:=hI hpt2
  have HL7:=hI HO7.out.lies
  have eseq:IntKind.i64.wrap (Q.seq+1)=Q.seq+1:=qp _ (by have:=HOK.out.seq;omega)
  have c1:=HST2.out.sc.c1
  clear hpt2
  go_upto_region 4 with (go_at_call 31;(with_reducible refine (q_seq HPT2.out).mono ?_);rintro e wz ⟨rfl,hw⟩;obtain rfl:=hw)
  obtain ⟨er,Q1,hsm,hse⟩:=zMf HI.out HBud.out d.d (qY L)
  have HSM:=hI hsm
  have HSE:=hI hse
  have HWF:Hid (∀r∈qY L,WfP r):=hI λr hr=>by
   obtain ⟨y,hy,rfl⟩:=List.mem_map.1 hr
   exact HI.out.wfp (by rw[<- List.map_append];exact List.mem_map_of_mem (HMEM.out y hy).1)
  have hwC:w.heap.size<W2.heap.size:=qD HXC2.out
  have HSK2:Hid (∀V,Below W2.heap.size W2 V->V.cell? ⟨s,1,none⟩=some (.pointer (some ⟨p,0,none⟩))/\V.cell? ⟨w.heap.size,4,none⟩=some (.slice d.A d.d.length d.c)):=hI λV hV=>by
   obtain ⟨-,-,-,-,e4,-⟩:=zEk ((hV.block _ (qD HXC2.out)).trans HXC2.out)
   exact ⟨(HST2.out.sc.below hV).c1,e4⟩
  have k4:=(HSK2.out W2 bR).2
  clear hsm hse
  go_cut [9] from 42 to 50 (λv9 wx=>v9=.int .i64 er/\Pool wx p c (λb=>x b\/New w W2 b) Q1/\Safe (λb=>x b\/New w W2 b) W2 wx)
  case first=>as_aux_lemma =>
   go_region_held3 (λV=>V.cell? ⟨s,1,none⟩=some (.pointer (some ⟨p,0,none⟩))/\V.cell? ⟨w.heap.size,4,none⟩=some (.slice d.A d.d.length d.c))
    (first | exact ⟨c1,k4⟩ | exact HSK2.out _ bR.drew | exact HSK2.out _ HBr.out | exact HK4.out)
    (first
     | (go_at_call 41;(with_reducible refine (zYv A7 c7 L W2.drew (HL7.out.1.below bR.drew) (by omega)).mono ?_);rintro e wr1 ⟨A8,c8,rfl,hrl,hra,hrb⟩;have HRL:=hI hrl;have HRA:Hid (∀ad,A8=some ad->W2.heap.size<=ad.block/\ad.block<wr1.heap.size):=hI hra;have HBr:Hid (Below W2.heap.size W2 wr1):=hI (bR.drew.trans hrb);clear hrl hra hrb)
     | (go_at_call 28;(with_reducible refine (zMh HST2.out.pool HOK.out HBr.out HRB2.out HRL.out HRA.out (n0:=L.length) (List.length_map _) (by rw[List.length_map];omega) HWF.out HSM.out).mono ?_);rintro e wr2 ⟨rfl,hp4,hs4⟩;have HP4:=hI hp4;have HS4:=hI hs4;have HK4:Hid (wr2.cell? ⟨s,1,none⟩=some (.pointer (some ⟨p,0,none⟩))/\wr2.cell? ⟨w.heap.size,4,none⟩=some (.slice d.A d.d.length d.c)):=hI ⟨(HST2.out.sc.block (HS4.out.block HST2.out.lt HST2.out.hx)).c1,(World.cell?_of_block (a:=⟨w.heap.size,4,none⟩) (HS4.out.block hwC (.inr ⟨Nat.le_refl _,hwC⟩))).trans k4⟩;clear hp4 hs4)
     | fail)
   go_wp2_with fail
   go_meet
   case rel=>exact ⟨rfl,HP4.out,HS4.out⟩
  case rest =>
   obtain ⟨rfl,hp4,hs4⟩:=hcut
   obtain ⟨W3,rfl⟩:∃W3,W3=wc:=⟨_,rfl⟩
   clear c1 k4 eseq
   have HP4:=hI hp4
   have HS4:=hI hs4
   have hW2:=HB2.out.size
   have HX53:=hI ((HS4.out.block (qD HX52.out) (.inr ⟨by have:=HB5.out;have:=HBW.out.size;omega,qD HX52.out⟩)).trans HX52.out)
   have HXC3:=hI ((HS4.out.block hwC (.inr ⟨Nat.le_refl _,hwC⟩)).trans HXC2.out)
   have HRB3:Hid (RB W3 W3.heap.size d.A d.d):=hI (by
    have q1:=HCD.out.keep (λb hb=>HB2.out.block b (HT.out.pool.there b hb.1)) (λb hb=>hb)
    have q2:=q1.keep (λb hb=>HS4.out.block (Nat.lt_of_lt_of_le (HT.out.pool.there b hb.1) HB2.out.size) (.inl hb.1)) (λb hb=>hb)
    exact q2.rb (B:=W3.heap.size) λb hb=>Nat.lt_of_lt_of_le (Nat.lt_of_lt_of_le (HT.out.pool.there b hb.1) HB2.out.size) HS4.out.size)
   have HO73:Hid (GOwn W3 W1.heap.size (.slice A7 L.length c7) L):=hI (vS HO7.out λk e=>HS4.out.block (World.ownsRow.lt HO7.out k e).2 (.inr ⟨Nat.le_trans HBw1.out.size (World.ownsRow.lt HO7.out k e).1,(World.ownsRow.lt HO7.out k e).2⟩))
   have HSx:Hid (Safe x w W3):=hI ((qC HB2.out).then' HS4.out λ_ _ k=>.inl k)
   have hcf1:Q1.cf=g:=by
    rw[<- HCF.out]
    have hse:=HSE.out
    cases hse with
    | arg _=>rfl
    | over0 _ _ _=>rfl
    | over _ _ _ _ _ _ hc _ _ =>
     obtain ⟨s1,s2,s3,s4,s5,s6⟩:=hc.same
     unfold PS.cf
     rw[s1,s2,s3,s4,s5,s6]
    | ok _ _ _ _ _ _ hc _ _ =>
     obtain ⟨s1,s2,s3,s4,s5,s6⟩:=hc.same
     unfold PS.cf
     rw[s1,s2,s3,s4,s5,s6]
   have HST3:=hI (HST2.out.safe HS4.out HP4.out (λ_ k=>k) hcf1)
   have HCF1:=hI hcf1
   obtain ⟨hcl,htr⟩:=HST3.out.clear
   have HSTc:=hI hcl
   have HTR:=hI htr
   have hsl:=HST3.out.lt
   have hse:=HST3.out.self
   have f9:W3.frozen? ⟨s,9,none⟩=false:=by
    unfold vX at hse
    simp[World.frozen?,hse]
   have c9:=HST3.out.sc.c9
   clear hse hp4 hs4 hcf1 hcl htr
   obtain ⟨W4,hW4⟩:∃W4,W4=W3.setCell ⟨s,9,none⟩ (.slice none 0 0):=⟨_,rfl⟩
   rw[<- hW4] at HSTc HTR
   go_upto_region 6 with fail
   rw[<- hW4]
   clear hW4 c9 f9
   have hsw:=HT.out.lt
   have hne5:b5≠s:=by have:=HB5.out;have:=HBW.out.size;omega
   have HX54:=hI ((HTR.out.block b5 (qD HX53.out) hne5).trans HX53.out)
   have HXC4:=hI ((HTR.out.block w.heap.size (qD HXC3.out) (by omega)).trans HXC3.out)
   have HSa4:Hid (Safe (vW x s Af) w W4):=hI ((HSx.out.mono' (G:=λb=>¬vW x s Af b) λb hb k=>hb k.1).trans (HTR.out.mono' (G:=λb=>¬vW x s Af b) λb e k=>k.2.1 e) λ_ _ k=>k)
   obtain ⟨l4,f4,hpt4⟩:=HSTc.out.pool.parts
   have HPT4:=hI hpt4
   clear hpt4
   have hse:=HSE.out
   clear HSE
   have hSg:g.Sp=Q.Sp:=by rw[<- HCF.out];rfl
   have c1:=HSTc.out.sc.c1
   cases hse with
   | arg ha =>
    rcases ha with ha | ha
    . exact absurd HMZ.out ha
    . have hmay:=HMAY.out
      rw[ha] at hmay;cases hmay
   | over0 _ _ ho =>
    have HOK1:Hid (Ok Q.undo):=hI HOK.out.undo
    have HOV:Hid (Q.undo.over=true):=hI ho
    have HI1:Hid (Inv Q.undo D (qY lv) []):=hI HI.out.undo
    have HKP:Hid (Keeps Q.S Q.undo.S):=hI (Keeps.refl _)
    have HBD1:Hid (Bud Q.undo cc):=hI (HBud.out.less (Nat.le_succ _)).undo
    have HSP:Hid (decide (Q.Sp<Q.bads)=true):=hI (by have:=ho;unfold PS.over at this;exact this)
    clear ho
    have HFIN:Hid (∀w9,Below W4.heap.size W4 w9->zFa w s p c x g Q lv fr Af d.pk d.d cc (.returned (.bool true)) w9):=hI λw9 h9=>⟨rfl,Q.undo,D,lv,Al,cl,_,HSTc.out.below h9,HI1.out,λq hq=>HD.out q (by rw[List.append_nil] at hq;exact List.mem_append_left _ hq),HBD1.out,λb hb=>⟨.inl (.inl hb.1),hb.2.1,λ_ e=>(by cases e)⟩,HSa4.out.trans (Turned.of_below (F:=λb=>¬vW x s Af b) h9) λ_ _ k=>k,HKP.out,.inl ⟨HOV.out,rfl,(by show Q.seq<=Q.seq+1;omega)⟩⟩
    have e5:=HSP.out
    go_wp2_with (first
     | (go_at_call 33;(with_reducible refine (zAb HPT4.out HOK1.out).mono ?_);rintro e w12 ⟨rfl,hb12⟩;rw[HOV.out];have HB12:=hI hb12;obtain ⟨m0,m1,m2,-⟩:=qT ((hb12.block b5 (qD HX54.out)).trans HX54.out);have c4:=(HSTc.out.sc.below hb12).c4;rw[hSg] at c4;clear hb12)
     | fail)
    go_ret
    exact HFIN.out _ (HB12.out)
   | over _ _ _ ho ho1 hi1 hc1 hs1 hbd1 =>
    have HOK1:=hI hi1.mid.ok
    have HOV:Hid (Q1.over=true):=hI ho1
    have HI1:Hid (Inv Q1 D (qY lv) []):=hI hi1
    have HKP:Hid (Keeps Q.S Q1.S):=hI hc1.keeps
    have HBD1:Hid (Bud Q1 cc):=hI hbd1
    have HSQ:Hid (Q1.seq=Q.seq+1):=hI hs1
    have HSP:Hid (decide (Q.Sp<Q.bads)=false):=hI (by have:=ho;unfold PS.over at this;exact this)
    obtain ⟨dr,dp,de,t,hfit⟩:=zSo (c:=cc * 1000000) HI.out.mid hi1 (HBud.out.less (Nat.le_succ cc)).low hbd1.low hc1
    have HFIT:=hI hfit
    clear hfit ho1 hi1 hc1 hs1 hbd1
    clear ho
    have HFIN:Hid (∀w9,Below W4.heap.size W4 w9->zFa w s p c x g Q lv fr Af d.pk d.d cc (.returned (.bool true)) w9):=hI λw9 h9=>⟨rfl,Q1,D,lv,Al,cl,_,HSTc.out.below h9,HI1.out,λq hq=>HD.out q (by rw[List.append_nil] at hq;exact List.mem_append_left _ hq),HBD1.out,λb hb=>⟨.inl (.inl hb.1),hb.2.1,λ_ e=>(by cases e)⟩,HSa4.out.trans (Turned.of_below (F:=λb=>¬vW x s Af b) h9) λ_ _ k=>k,HKP.out,.inl ⟨HOV.out,rfl,Int.le_of_eq HSQ.out⟩⟩
    have e5:=HSP.out
    go_wp2_with (first
     | (go_at_call 33;(with_reducible refine (zAb HPT4.out HOK1.out).mono ?_);rintro e w12 ⟨rfl,hb12⟩;rw[HOV.out];have HB12:=hI hb12;obtain ⟨m0,m1,m2,-⟩:=qT ((hb12.block b5 (qD HX54.out)).trans HX54.out);have c4:=(HSTc.out.sc.below hb12).c4;rw[hSg] at c4;clear hb12)
     | (go_at_call 42;(with_reducible refine (zCr (HSTc.out.sc.below HB12.out) HCF1.out (HPT4.out.below HB12.out) HOK1.out Q.S.rd Q.S.pr Q.S.er Q.bads dr dp de t HFIT.out).mono ?_);rintro e w13 ⟨rfl,hb13⟩;have HB13:=hI hb13;clear hb13)
     | fail)
    go_ret
    exact HFIN.out _ ((HB12.out.trans (HB13.out.mono HB12.out.size)))
   | ok _ _ _ ho ho1 hi1 hc1 hs1 hbd1 =>
    have HOK1:=hI hi1.mid.ok
    have HOV:Hid (Q1.over=false):=hI ho1
    have HI1:=hI hi1
    have HKP:Hid (Keeps Q.S Q1.S):=hI hc1.keeps
    have HBD1:Hid (Bud Q1 cc):=hI hbd1
    have HSQ:Hid (Q1.seq=Q.seq+1):=hI hs1
    obtain ⟨dr,dp,de,t,hfit⟩:=zSo (c:=cc * 1000000) (HI.out.mid.upd (d:=d.d) (HI.out.new 0)) hi1 (HBud.out.less (Nat.le_succ cc)).low hbd1.low hc1
    have HFIT:=hI hfit
    clear hfit ho1 hi1 hc1 hs1 hbd1 ho c1
    have HRB4:Hid (RB W4 W4.heap.size d.A d.d):=hI ((HCD.out.keep (λb hb=>HSa4.out.block (HT.out.pool.there b hb.1) hb) (λb hb=>hb)).rb (B:=W4.heap.size) λb hb=>Nat.lt_of_lt_of_le (HT.out.pool.there b hb.1) HSa4.out.size)
    have HO74:Hid (GOwn W4 W1.heap.size (.slice A7 L.length c7) L):=hI (vS HO73.out λk e=>HTR.out.block k (World.ownsRow.lt HO73.out k e).2 (by have:=(World.ownsRow.lt HO73.out k e).1;have:=HBw1.out.size;omega))
    have HA7:Hid (∀ad,A7=some ad->(x ad.block\/New w W2 ad.block)/\w.heap.size<=ad.block):=hI λad e=>by
     have k1:=HO7.out.lies.2.2.1 ad e
     have k2:=(World.ownsRow.lt HO7.out ad.block (by rw[e];rfl)).2
     have k3:=HBw1.out.size
     have k4:w.heap.size<=ad.block:=Nat.le_trans k3 k1
     exact ⟨.inr ⟨k4,k2⟩,k4⟩
    obtain ⟨-,-,-,-,k4,-⟩:=zEk HXC4.out
    obtain ⟨i0,hi0,hz0,hs0,hby0⟩:=info_parts vP
    have HE:Hid ((W4.alloc (.cells #[] 5)).ownsRow W4.heap.size 5 1 (.slice (some ⟨W4.heap.size,0,none⟩) 0 0) 0 []):=hI (World.ownsRow_lit (base:=W4.heap.size) (e:=5) (size:=1) W4 #[] 0 nL (by omega) rfl)
    have HBE:Hid (Below W4.heap.size W4 (W4.alloc (.cells #[] 5))):=hI (bR.alloc nL _)
    have HNW:Hid (∀ad,d.A=some ad->∀j u,(d.d.map ub)[j]? = some u->(W4.alloc (.cells #[] 5)).cell? (ad.add j)=some u):=hI λad e j u hu=>by
     have hj:j<d.d.length:=by
      rcases Nat.lt_or_ge j d.d.length with k | k
      . exact k
      . rw[List.getElem?_eq_none (by simpa using k)] at hu;cases hu
     obtain ⟨ad',e',_,hc⟩:=(HRB4.out.below HBE.out nL) (by omega)
     rw[e] at e'
     obtain rfl:=Option.some.inj e'
     rw[hc j hj]
     rw[List.getElem?_map,List.getElem?_eq_getElem hj] at hu
     exact hu
    have HUB:Hid (∀u∈d.d.map ub,u.oneCell'=true):=hI λu hu=>by obtain ⟨b,_,rfl⟩:=List.mem_map.1 hu;rfl
    have hs4:=HSTc.out.lt
    have hwc4:w.heap.size<W4.heap.size:=qD HXC4.out
    go_upto_region 13 with fail
    go_cut [] from 96 to 108 (λwx=>∃(Al':Option Addr) (cl':Nat) (A5:Option Addr) (c5:Nat) (y:Nat->Prop),StAt wx s p c y g Q1 (L++[⟨(0,Q.seq+1),d.d,A5,c5⟩]) [] Al' cl' none 0/\(∀b,x b->y b)/\Safe (λb=>b≠s/\∀ad,A7=some ad->b≠ad.block) W4 wx)
    case first=>as_aux_lemma =>
     go_wp2_with (first
      | (at_builtin;refine zDe rfl (.tmp 100) (.tmp 102) 34 rfl W4.heap.size 5 i0 _ 1 1 Tryz.underlying34 hi0 hz0 hs0 hby0 rfl (by decide) (.slice (some ⟨W4.heap.size,0,none⟩) 0 0) 0 [] rfl HE.out d.A d.d.length d.c (d.d.map ub) rfl (by simp) HDN.out HNW.out HUB.out (by unfold maxLen;omega) (by omega) HBE.out.size ?_;intro q5 cap5 w5 hown hgr;have HO5:Hid (w5.ownsRow W4.heap.size 5 1 (.slice q5 d.d.length cap5) d.d.length (d.d.map ub)):=hI (by simpa using hown);have HB5:Hid (Below W4.heap.size W4 w5):=hI (HBE.out.grown hgr HBE.out.size λk e=>(World.ownsRow.lt HE.out k e).1);have hlt5:=HB5.out.size;have hs5:s<w5.heap.size:=Nat.lt_of_lt_of_le hs4 hlt5;have HB6:Hid (Below W4.heap.size W4 (w5.alloc (.cells #[.int .i64 0,.int .i64 (Q.seq+1),.slice q5 d.d.length cap5] 36))):=hI (HB5.out.alloc HB5.out.size _);clear hown hgr)
      | (at_builtin;refine zHa rfl (.tmp 97) (.tmp 105) rfl W1.heap.size (.slice A7 L.length c7) L.length L 1 [⟨(0,Q.seq+1),d.d,q5,cap5⟩] ⟨w5.heap.size,0,none⟩ 1 rfl rfl rfl rfl (yS HO74.out HB6.out) (zBx w5 ⟨(0,Q.seq+1),d.d,q5,cap5⟩ rfl) (by omega) (by have:=HB21.out.size;have:=HS4.out.size;have:=HTR.out.size;have:=HB6.out.size;omega) ?_;intro q7 cap7 w7 hown hgr hat;have HPU:=hI (StAt.sealed HT.out HSTc.out (λ_ k=>.inl k) HSa4.out (λy hy=>(HMEM.out y hy).1) ⟨(0,Q.seq+1),d.d,q5,cap5⟩ HA7.out HB6.out hown hgr hat ⟨cb5 HO5.out hgr (λb hb=>⟨Below.block (B:=w5.heap.size) (bR.alloc nL _) b hb,by simp;omega⟩) (λb e=>(World.ownsRow.lt HO74.out b e).2),by show d.d.length<=2000;omega⟩);have hse7:=HPU.out.2.2.trans HSTc.out.self;have f8:w7.frozen? ⟨s,8,none⟩=false:=(by unfold vX at hse7;simp[World.frozen?,hse7]);have c87:w7.cell? ⟨s,8,none⟩=some (.slice Al lv.length cl):=(by unfold vX at hse7;simp[World.cell?,hse7]);clear hown hgr hat hse7))
     go_meet
     case rel=>exact ⟨q7,cap7,q5,cap5,_,HPU.out.1,λb hb=>.inl (.inl hb),HPU.out.2.1.mono' λb k=>by rintro ⟨k1,k2⟩;rcases k with k | ⟨ad,k3,k4⟩;exact k1 k;exact k2 ad k3 k4⟩
    case rest =>
     obtain ⟨Al',cl',A5,c5,y,hst,hxy,hsf⟩:=hcut
     obtain ⟨W5,rfl⟩:∃W5,W5=wc:=⟨_,rfl⟩
     have HST5:=hI hst
     have HXY:=hI hxy
     have HSF:=hI hsf
     have hb5A:∀ad,A7=some ad->b5≠ad.block:=λad e e2=>by
      have k1:=HO7.out.lies.2.2.1 ad e
      have k2:=qD HX5.out
      have k3:W1.heap.size<=ad.block:=k1
      omega
     have HX55:=hI ((HSF.out.block (qD HX54.out) ⟨hne5,hb5A⟩).trans HX54.out)
     clear k4 hst hxy hsf hs4 hwc4 hb5A
     have c1:=HST5.out.sc.c1
     obtain ⟨l11,f11,hpt11⟩:=HST5.out.pool.parts
     have HPT11:=hI hpt11
     clear hpt11
     have HDD:Hid (∀q∈(L++[(⟨(0,Q.seq+1),d.d,A5,c5⟩:Pg)])++[],zTp D (0,Q.seq+1) d.d q.r=q.d):=hI λq hq=>by
      rw[List.append_nil] at hq
      rcases List.mem_append.1 hq with k | k
      . have h0:=(HMEM.out q k).1
        have hr:q.r∈qY lv++qY fr:=by rw[<- List.map_append];exact List.mem_map_of_mem h0
        have hne:q.r≠(0,Q.seq+1):=λe=>by
         have:=HI.out.seqs _ hr
         rw[e] at this
         have:Q.seq+1<=Q.seq:=this
         omega
        exact (if_neg hne).trans (HD.out q h0)
      . rw[List.mem_singleton] at k
        subst k
        exact if_pos rfl
     have HFIN:Hid (∀w9,Below W5.heap.size W5 w9->zFa w s p c x g Q lv fr Af d.pk d.d cc (.returned (.bool true)) w9):=hI λw9 h9=>by
      have hsa:Safe (vW x s Af) w w9:=HSa4.out.trans (Turned.trans ((HSF.out.mono' (G:=λb=>¬(b≠s/\∀ad,A7=some ad->b≠ad.block)) λb e=>e)) (Turned.of_below (F:=λb=>¬(b≠s/\∀ad,A7=some ad->b≠ad.block)) h9) λ_ _ k=>k) λb hb k=>by
       intro hw
       refine k ⟨hw.2.1,λad e e2=>?_⟩
       have:=(HA7.out ad e).2
       omega
      refine ⟨rfl,Q1,zTp D (0,Q.seq+1) d.d,L++[⟨(0,Q.seq+1),d.d,A5,c5⟩],Al',cl',_,HST5.out.below h9,by have:=HI1.out;unfold qY at this ⊢;rw[List.map_append];exact this,HDD.out,HBD1.out,λb hb=>⟨.inl (HXY.out b hb.1),hb.2.1,λ_ e=>(by cases e)⟩,hsa,HKP.out,.inr ⟨HOV.out,HSQ.out,A5,c5,by rw[<- HLE.out]⟩⟩
     have hsq1:Q1.seq=Q.seq+1:=HSQ.out
     go_wp2_with (first
      | (go_at_call 33;(with_reducible refine (zAb HPT11.out HOK1.out).mono ?_);rintro e w12 ⟨rfl,hb12⟩;rw[HOV.out];have HB12:=hI hb12;obtain ⟨m0,m1,m2,-⟩:=qT ((hb12.block b5 (qD HX55.out)).trans HX55.out);have c12:=(HST5.out.sc.below hb12).c1;clear hb12)
      | (go_at_call 31;(with_reducible refine (q_seq (HPT11.out.below HB12.out)).mono ?_);rintro e wz ⟨rfl,hw⟩;obtain rfl:=hw;rw[hsq1])
      | (go_at_call 42;(with_reducible refine (zCr (HST5.out.sc.below HB12.out) HCF1.out (HPT11.out.below HB12.out) HOK1.out Q.S.rd Q.S.pr Q.S.er Q.bads dr dp de t HFIT.out).mono ?_);rintro e w13 ⟨rfl,hb13⟩;have HB13:=hI hb13;clear hb13)
      | fail)
     go_ret
     exact HFIN.out _ (HB12.out.trans (HB13.out.mono HB12.out.size))
end
end
section
open Go.RowKit
attribute [local go_sem] Oper.semAt_some
theorem badB_set {l:List Bk} {k:Nat} (hk:k<l.length):qx (l.set k { l.getD k noB with bad:=true })=qx l+(if (l.getD k noB).bad=true then 0 else 1):=by
 unfold qx
 rw[List.countP_set hk]
 have e:l.getD k noB=l[k]:=by rw[List.getD_eq_getElem?_getD,List.getElem?_eq_getElem hk];rfl
 rw[e]
 have hp:l[k].bad=true->1<=List.countP (λb=>b.bad) l:=λh=>List.countP_pos_iff.2 ⟨l[k],List.getElem_mem hk,h⟩
 cases h:l[k].bad with
 | true=>have:=hp h;simp;omega
 | false=>simp
theorem false64:(#[.bool false,.bool false,.bool false,.bool false,.bool false,.bool false,.bool false,.bool false,.bool false,.bool false,.bool false,.bool false,.bool false,.bool false,.bool false,.bool false,.bool false,.bool false,.bool false,.bool false,.bool false,.bool false,.bool false,.bool false,.bool false,.bool false,.bool false,.bool false,.bool false,.bool false,.bool false,.bool false,.bool false,.bool false,.bool false,.bool false,.bool false,.bool false,.bool false,.bool false,.bool false,.bool false,.bool false,.bool false,.bool false,.bool false,.bool false,.bool false,.bool false,.bool false,.bool false,.bool false,.bool false,.bool false,.bool false,.bool false,.bool false,.bool false,.bool false,.bool false,.bool false,.bool false,.bool false,.bool false]:Array Value)=Array.replicate 64 (.bool false):=rfl
theorem zVn {M:List Bk} {k:Nat} (hk:k<M.length) (i:Nat):((vV M (k:Int)).getD i noB).bad=if i=k then true else (M.getD i noB).bad:=by
 have e:vV M (k:Int)=M.set k { M.getD k noB with bad:=true } :=by
  unfold vV
  rw[if_pos ⟨by omega,by omega⟩]
  rfl
 rw[e]
 by_cases h:i=k
 . rw[if_pos h,h,List.getD_eq_getElem?_getD,List.getElem?_set_self hk];rfl
 . rw[if_neg h,List.getD_eq_getElem?_getD,List.getElem?_set_ne (λe=>h e.symm),<- List.getD_eq_getElem?_getD]
theorem zVm {M:List Bk} {k:Nat} (hk:k<M.length):qx (vV M (k:Int))=qx M+(if (M.getD k noB).bad=true then 0 else 1):=by
 have e:vV M (k:Int)=M.set k { M.getD k noB with bad:=true } :=by
  unfold vV
  rw[if_pos ⟨by omega,by omega⟩]
  rfl
 rw[e]
 exact badB_set hk
theorem zJa {M:List Bk} {b:Int} (h:¬(0<=b/\b<(M.length:Int))):vV M b=M:=by
 unfold vV
 rw[if_neg h]
section
variable {w w':World}
def zGz (w:World) (B P Sp K U:Int) (bad:List Int) (l:List Cal) (e:Ending) (w':World):Prop :=
 (e=.returned (.pointer none)/\Below w.heap.size w w')\/∃s p c x Q,e=.returned (.pointer (some ⟨s,0,none⟩))/\StAt w' s p c x ⟨B,P,Sp,K,U,Q.bad⟩ Q [] [] none 0 none 0/\(∀D,Inv Q D [] [])/\(∀cc,cc<=1000->Bud Q cc)/\Q.over=false/\Q.seq=0/\(∃nb np,Q.S=qZ nb np bad)/\(∀b,b<w.heap.size->x b/\b≠s)/\Below w.heap.size w w'/\yBf B P l/\bad.length<=60
theorem zIh (B P Sp K U:Int) (Ab:Option Addr) (cb:Nat) (bad:List Int) (A:Option Addr) (m:Nat) (l:List Cal) (w:World) (hbad:IntsArg w Ab bad) (h:CalsLie w A l) (hl:l.length<=maxLen) (hbl:bad.length<=maxLen):Calls Tryz.prog 9 #[.agg #[.int .i64 B,.int .i64 P,.int .i64 Sp,.int .i64 K,.int .i64 U],.slice Ab bad.length cb,.slice A l.length m] w (zGz w B P Sp K U bad l):=by
 obtain ⟨W,hW⟩:∃W,W=w.alloc (.cells #[.int .i64 B,.int .i64 P,.int .i64 Sp,.int .i64 K,.int .i64 U] 23):=⟨_,rfl⟩
 have hbW:Below w.heap.size w W:=by rw[hW];exact bR.alloc nL _
 have HBW:=hI hbW
 have HX:Hid (W.heap[w.heap.size]? = some (.cells #[.int .i64 B,.int .i64 P,.int .i64 Sp,.int .i64 K,.int .i64 U] 23 (0,0))):=hI (by rw[hW];exact heap_alloc_new _ _)
 have HCF:Hid (∀V,Below W.heap.size W V->V.cell? ⟨w.heap.size,0,none⟩=some (.int .i64 B)/\V.cell? ⟨w.heap.size,1,none⟩=some (.int .i64 P)/\V.cell? ⟨w.heap.size,2,none⟩=some (.int .i64 Sp)/\V.cell? ⟨w.heap.size,3,none⟩=some (.int .i64 K)/\V.cell? ⟨w.heap.size,4,none⟩=some (.int .i64 U)):=hI λV hV=>cfg5 ((hV.block _ (qD HX.out)).trans HX.out)
 have HBD:=hI hbad
 have HL:=hI h
 have hmx:maxLen=9223372036854775807:=rfl
 have HWE:=hI hW
 obtain ⟨a0,a1,a2,a3,a4⟩:=HCF.out W bR
 clear hbad h hbW hW
 go_enter Tryz.func9,Tryz.ntmps9
 go_upto_region 1 with fail
 rw[<- HWE.out]
 go_wp2_with fail
 refine (zQg B P Sp K U A m l W (HL.out.below HBW.out) hl).mono ?_
 rintro e w2 ⟨k,rfl,hk,hb2⟩
 have HB2:=hI hb2
 have HK:=hI hk
 obtain ⟨a0,a1,a2,a3,a4⟩:=HCF.out w2 hb2
 clear hb2 hk
 have HNIL:Hid (∀V,Below W.heap.size W V->zGz w B P Sp K U bad l (.returned (.pointer none)) V):=hI λV hV=>.inl ⟨rfl,HBW.out.trans (hV.mono HBW.out.size)⟩
 by_cases hkp:0<k
 . go_wp2_with fail
   go_ret
   exact HNIL.out _ HB2.out
 . by_cases hb60:60<(bad.length:Int)
   . go_wp2_with fail
     go_ret
     exact HNIL.out _ HB2.out
   . by_cases hm:zEm B P Sp K U
     . have HMT:Hid (decide (zEm B P Sp K U)=true):=hI (decide_eq_true hm)
       have HMAY:=hI hm
       clear hm
       go_upto_region 3 with (go_at_call 38;(with_reducible refine (vT B P Sp K U w2).mono ?_);rintro e w3 ⟨rfl,hb3⟩;rw[HMT.out];have HB3:Hid (Below W.heap.size W w3):=hI (HB2.out.trans (hb3.mono HB2.out.size));clear hb3)
       obtain ⟨nb,rfl⟩:∃nb:Nat,B=(nb:Int):=⟨B.toNat,by have:=HMAY.out.1;omega⟩
       obtain ⟨np,rfl⟩:∃np:Nat,P=(np:Int):=⟨P.toNat,by have:=HMAY.out.2.1;omega⟩
       have hnb:3<=nb/\nb<=64:=by have:=HMAY.out.1;omega
       have hnp:2<=np/\np<=32:=by have:=HMAY.out.2.1;omega
       go_upto_region 5 with fail
       obtain ⟨W5,hW5⟩:∃W5,W5=w3.alloc (.cells #[.bool false,.bool false,.bool false,.bool false,.bool false,.bool false,.bool false,.bool false,.bool false,.bool false,.bool false,.bool false,.bool false,.bool false,.bool false,.bool false,.bool false,.bool false,.bool false,.bool false,.bool false,.bool false,.bool false,.bool false,.bool false,.bool false,.bool false,.bool false,.bool false,.bool false,.bool false,.bool false,.bool false,.bool false,.bool false,.bool false,.bool false,.bool false,.bool false,.bool false,.bool false,.bool false,.bool false,.bool false,.bool false,.bool false,.bool false,.bool false,.bool false,.bool false,.bool false,.bool false,.bool false,.bool false,.bool false,.bool false,.bool false,.bool false,.bool false,.bool false,.bool false,.bool false,.bool false,.bool false] 82):=⟨_,rfl⟩
       rw[<- hW5]
       have HB5:Hid (Below W.heap.size W W5):=hI (by rw[hW5];exact HB3.out.alloc HB3.out.size _)
       have hx5:W5.heap[w3.heap.size]? = some (.cells (Array.replicate 64 (.bool false)) 82 (0,0)):=by rw[hW5,<- false64];exact heap_alloc_new _ _
       have HX5:=hI hx5
       have hs3:=HB3.out.size
       clear hW5 hx5
       obtain ⟨b0,b1,b2,b3,b4⟩:=HCF.out W5 HB5.out
       clear a0 a1 a2 a3 a4
       have hb60':bad.length<=60:=by omega
       obtain ⟨M0,hM0⟩:∃M0,M0=(zC nb np).bl:=⟨_,rfl⟩
       have HM0:=hI hM0
       have hl0:M0.length=nb:=by rw[hM0];simp[zC]
       have hz0:∀i,(M0.getD i noB).bad=false:=λi=>by
        rw[hM0,List.getD_eq_getElem?_getD]
        show (((List.replicate nb (zCp np))[i]?).getD noB).bad=false
        rw[List.getElem?_replicate]
        split<;>rfl
       have hc0:qx M0=0:=by
        rw[hM0]
        unfold qx
        rw[List.countP_eq_zero]
        intro b hb
        have:b=zCp np:=List.eq_of_mem_replicate hb
        rw[this];simp[zCp]
       have HZ0:=hI hz0
       have HC0:=hI hc0
       clear hz0 hc0 hM0
       go_wp2_with fail
       go_loopw [7,30] (λv7 v30 wr=>∃(j:Nat) (cs:Array Value),j<=bad.length/\v30=.int .i64 j/\v7=.int .i64 (qx (zGv M0 (bad.take j)):Nat)/\wr.heap[w3.heap.size]? = some (.cells cs 82 (0,0))/\cs.size=64/\(∀i,i<nb->cs[i]? = some (.bool ((zGv M0 (bad.take j)).getD i noB).bad))/\Below W.heap.size W wr) (λ_ v30 _=>bad.length - (intOf v30).toNat)
       case atStart=>exact ⟨0,_,Nat.zero_le _,rfl,by rw[List.take_zero];show _=Value.int .i64 ((qx M0:Nat):Int);rw[HC0.out];rfl,HX5.out,by simp,λi hi=>by rw[Array.getElem?_replicate,if_pos (by omega),List.take_zero];show _=some (Value.bool (M0.getD i noB).bad);rw[HZ0.out],HB5.out⟩
       case round =>
        obtain ⟨j,cs,hj,rfl,rfl,hcs,hsz,hbits,hB⟩:=hrel
        have HB:=hI hB
        have HBITS:=hI hbits
        have HCS:=hI hcs
        obtain ⟨b0,b1,b2,b3,b4⟩:=HCF.out wr hB
        have hcnt:qx (zGv M0 (bad.take j))<=nb:=by
         have:=zGt (zGv M0 (bad.take j))
         rw[qj,hl0] at this
         exact this
        have hMl:(zGv M0 (bad.take j)).length=nb:=by rw[qj];exact hl0
        clear hB hbits
        by_cases hj1:j<bad.length
        . obtain ⟨Bb,o,rfl,hBs,hc⟩:=HBD.out (by omega)
          have hvr:wr.cell? ⟨Bb,o+j,none⟩=some (.int .i64 bad[j]):=by
           have h1:=HB.out.block Bb (Nat.lt_of_lt_of_le hBs HBW.out.size)
           have h2:=HBW.out.block Bb hBs
           exact (World.cell?_of_block (a:=⟨Bb,o+j,none⟩) (h1.trans h2)).trans (hc j hj1)
          have HTK:Hid (zGv M0 (bad.take (j+1))=vV (zGv M0 (bad.take j)) bad[j]):=hI (by rw[List.take_succ_eq_append_getElem hj1];exact zGu _ _ _)
          clear hc
          generalize bad[j]=b at hvr HTK
          generalize hMM:zGv M0 (bad.take j)=M at HTK HBITS hcnt hMl ⊢
          clear hMM
          by_cases h0:0<=b
          . by_cases h1:b<(nb:Int)
            . obtain ⟨k,rfl⟩:∃k:Nat,b=(k:Int):=⟨b.toNat,by omega⟩
              have hk:k<nb:=by omega
              have HBIT:=hI (zVn (M:=M) (k:=k) (by omega))
              have HCNT:=hI (zVm (M:=M) (k:=k) (by omega))
              have hkc:=HBITS.out k hk
              have hk64:(k:Int)<64:=by omega
              have hcell:wr.cell? ⟨w3.heap.size,k,none⟩=some (.bool (M.getD k noB).bad):=by simp[World.cell?,HCS.out,hkc]
              cases hv:(M.getD k noB).bad with
              | true =>
               rw[hv] at hcell
               have HV:=hI hv
               clear hv hkc hcs
               go_wp2_with fail
               go_roundw
               case rel=>exact ⟨j+1,cs,by omega,by go_num,by rw[HTK.out,HCNT.out,if_pos HV.out,Nat.add_zero],HCS.out,hsz,λi hi=>by
                rw[HTK.out,HBIT.out]
                by_cases e:i=k
                . rw[if_pos e,e,HBITS.out k hk,HV.out]
                . rw[if_neg e];exact HBITS.out i hi,HB.out⟩
               case measure=>simp[intOf];omega
              | false =>
               rw[hv] at hcell
               have HV:=hI hv
               have hfz:wr.frozen? ⟨w3.heap.size,k,none⟩=false:=by simp[World.frozen?,HCS.out]
               clear hv hkc hcs
               have e1:IntKind.i64.wrap ((qx M:Int)+1)=(qx M:Int)+1:=qp _ (by omega)
               go_wp2_with fail
               have HS8:Hid ((wr.setCell ⟨w3.heap.size,k,none⟩ (.bool true)).heap[w3.heap.size]? = some (.cells (cs.setIfInBounds k (.bool true)) 82 (0,0))):=hI (heap_setCell_same wr w3.heap.size k cs _ (.bool true) HCS.out)
               have HBs:Hid (Below W.heap.size W (wr.setCell ⟨w3.heap.size,k,none⟩ (.bool true))):=hI (HB.out.setCell (p:=⟨w3.heap.size,k,none⟩) hs3 _)
               go_roundw
               case rel=>exact ⟨j+1,_,by omega,by go_num,by rw[HTK.out,HCNT.out,if_neg (by rw[HV.out];simp)];go_num,HS8.out,by simp[hsz],λi hi=>by
                rw[HTK.out,HBIT.out,Array.getElem?_setIfInBounds]
                by_cases e:k=i
                . rw[if_pos e,if_pos (show k<cs.size by omega),if_pos e.symm]
                . rw[if_neg e,if_neg λe2=>e e2.symm];exact HBITS.out i hi,HBs.out⟩
               case measure=>simp[intOf];omega
            . have HOUT:=hI (zJa (M:=M) (b:=b) (by omega))
              clear hcs
              go_wp2_with fail
              go_roundw
              case rel=>exact ⟨j+1,cs,by omega,by go_num,by rw[HTK.out,HOUT.out],HCS.out,hsz,λi hi=>by rw[HTK.out,HOUT.out];exact HBITS.out i hi,HB.out⟩
              case measure=>simp[intOf];omega
          . have HOUT:=hI (zJa (M:=M) (b:=b) (by omega))
            clear hcs
            go_wp2_with fail
            go_roundw
            case rel=>exact ⟨j+1,cs,by omega,by go_num,by rw[HTK.out,HOUT.out],HCS.out,hsz,λi hi=>by rw[HTK.out,HOUT.out];exact HBITS.out i hi,HB.out⟩
            case measure=>simp[intOf];omega
        . obtain rfl:j=bad.length:=by omega
          have htk:bad.take bad.length=bad:=List.take_length
          have hML:zGv M0 bad=(qZ nb np bad).bl:=by rw[HM0.out];rfl
          rw[htk,hML] at hcnt ⊢
          clear hMl htk hML hcs hsz
          obtain ⟨n,hn⟩:∃n:Nat,n=qx (qZ nb np bad).bl:=⟨_,rfl⟩
          rw[<- hn] at hcnt ⊢
          have HN:=hI hn
          have hn64:n<=64:=by omega
          clear hn
          by_cases hf:yZ nb np Sp K U n
          . have HFT:Hid (decide (yZ nb np Sp K U n)=true):=hI (decide_eq_true hf)
            have HF:=hI hf
            clear hf
            have hl:(qZ nb np bad).bl.length=nb:=by simp[qZ,qj,zC]
            have HI:Hid (∀D cc,cc<=1000->Inv (zPr (qZ nb np bad) nb np Sp K U n 0) D [] []/\Bud (zPr (qZ nb np bad) nb np Sp K U n 0) cc/\(zPr (qZ nb np bad) nb np Sp K U n 0).over=false):=hI λD cc hcc=>inv_new bad D (by rw[HN.out]) HF.out cc hcc
            have hp0:∀(h1:1<=(qZ nb np bad).bl.length),((((qZ nb np bad).bl[0]'h1).pages.length:Nat):Int)=(np:Int):=λh1=>by
             have h9:=zRt nb np bad _ (List.getElem_mem h1)
             first | rw[h9.1] | rw[h9.2.1] | rw[h9.2.2]
            have HP0:=hI hp0
            clear hp0
            go_upto_region 14 with (go_at_call 39;(with_reducible refine (zOa nb np Sp K U n wr (yg (by omega))).mono ?_);rintro e w6 ⟨rfl,hb6⟩;rw[HFT.out];have HB6:Hid (Below W.heap.size W w6):=hI (HB.out.trans (hb6.mono HB.out.size));clear hb6 b0 b1 b2 b3 b4;obtain ⟨b0,b1,b2,b3,b4⟩:=HCF.out w6 HB6.out)
            have HBI:Hid (IntsArg w6 Ab bad):=hI λhn=>by
             obtain ⟨Bb,o,e,hB',hc⟩:=HBD.out hn
             have k1:=HB6.out.block Bb (Nat.lt_of_lt_of_le hB' HBW.out.size)
             exact ⟨Bb,o,e,Nat.lt_of_lt_of_le hB' (Nat.le_trans HBW.out.size HB6.out.size),λj hj=>(World.cell?_of_block (a:=⟨Bb,o+j,none⟩) (k1.trans (HBW.out.block Bb hB'))).trans (hc j hj)⟩
            have hs6:=HB6.out.size
            have hws:=HBW.out.size
            have hxl:w.heap.size<W.heap.size:=qD HX.out
            go_wp2_with (first
             | (go_at_call 34;(with_reducible refine (zSi nb np Ab cb bad HBI.out (by omega) (by omega) (by omega) (by omega) (by omega)).mono ?_);rintro e w7 ⟨ch,rfl,hH,hB⟩;have HH:=hI hH;have HB7:Hid (Below w6.heap.size w6 w7):=hI hB;clear hH hB b0 b1 b2 b3 b4;obtain ⟨b0,b1,b2,b3,b4⟩:=HCF.out w7 (HB6.out.trans (HB7.out.mono HB6.out.size)))
             | (go_at_call 27;(with_reducible refine (q_open nb np Sp K U n 0 HH.out (by omega) (by omega) (yg (by omega)) HF.out (by rw[hl]) (HP0.out (by omega)) (by rw[HN.out];exact Int.le_refl _) (by omega) rfl).mono ?_);rintro e w8 ⟨p,rfl,hP,hS⟩;have HP:=hI hP;have HS:=hI hS;have HX8:Hid (w8.heap[w.heap.size]? = some (.cells #[.int .i64 nb,.int .i64 np,.int .i64 Sp,.int .i64 K,.int .i64 U] 23 (0,0))):=hI ((HS.out.block (Nat.lt_of_lt_of_le (Nat.lt_of_lt_of_le hxl hs6) HB7.out.size) (Nat.lt_of_lt_of_le hxl hs6)).trans ((HB7.out.block _ (Nat.lt_of_lt_of_le hxl hs6)).trans ((HB6.out.block _ hxl).trans HX.out)));clear hP hS b0 b1 b2 b3 b4;obtain ⟨b0,b1,b2,b3,b4⟩:=cfg5 HX8.out)
             | fail)
            obtain ⟨W9,hW9⟩:∃W9,W9=w8.alloc (.cells (vX ch p ⟨nb,np,Sp,K,U,n⟩ (.slice none 0 0) (.slice none 0 0)) 38):=⟨_,rfl⟩
            have hb9:Below w8.heap.size w8 W9:=by rw[hW9];exact bR.alloc nL _
            have hx9:W9.heap[w8.heap.size]? = some (.cells (vX ch p ⟨nb,np,Sp,K,U,n⟩ (.slice none 0 0) (.slice none 0 0)) 38 (0,0)):=by rw[hW9];exact heap_alloc_new _ _
            have hp9:=HP.out.more hb9
            have hs8:=HS.out.size
            have hs7:=HB7.out.size
            have hs9:w8.heap.size<W9.heap.size:=qD hx9
            unfold vX at hW9
            go_ret
            rw[<- hW9]
            refine .inr ⟨w8.heap.size,p,ch,_,zPr (qZ nb np bad) nb np Sp K U n 0,rfl,⟨hp9,.inr ⟨Nat.le_refl _,hs9⟩,hx9,rfl,λhn=>absurd hn (by simp),λad e=>(by cases e),λ_=>⟨rfl,rfl⟩,zEv _ _,λad e=>(by cases e),λq hq=>(by cases hq)⟩,λD=>(HI.out D 0 (by omega)).1,λcc hcc=>(HI.out (λ_=>[]) cc hcc).2.1,(HI.out (λ_=>[]) 0 (by omega)).2.2,rfl,⟨nb,np,rfl⟩,λb hb=>⟨.inl (by show b<w6.heap.size;omega),by omega⟩,?_,HK.out (by omega),by omega⟩
            have k1:Below w.heap.size w w7:=HBW.out.trans ((HB6.out.trans (HB7.out.mono HB6.out.size)).mono HBW.out.size)
            have k2:Below w.heap.size w w8:=⟨HS.out.os.trans k1.os,HS.out.tape.trans k1.tape,HS.out.output.trans k1.output,Nat.le_trans k1.size hs8,λb hb=>(HS.out.block (Nat.lt_of_lt_of_le hb k1.size) (by show b<w6.heap.size;omega)).trans (k1.block b hb)⟩
            exact k2.trans (hb9.mono k2.size)
          . have HFT:Hid (decide (yZ nb np Sp K U n)=false):=hI (decide_eq_false hf)
            clear hf
            go_wp2_with (first
             | (go_at_call 39;(with_reducible refine (zOa nb np Sp K U n wr (yg (by omega))).mono ?_);rintro e w6 ⟨rfl,hb6⟩;rw[HFT.out];have HB6:Hid (Below W.heap.size W w6):=hI (HB.out.trans (hb6.mono HB.out.size));clear hb6)
             | fail)
            go_ret
            exact HNIL.out _ HB6.out
     . have HMT:Hid (decide (zEm B P Sp K U)=false):=hI (decide_eq_false hm)
       clear hm
       go_wp2_with (first
        | (go_at_call 38;(with_reducible refine (vT B P Sp K U w2).mono ?_);rintro e w3 ⟨rfl,hb3⟩;rw[HMT.out];have HB3:Hid (Below W.heap.size W w3):=hI (HB2.out.trans (hb3.mono HB2.out.size));clear hb3)
        | fail)
       go_ret
       exact HNIL.out _ HB3.out
end
end
section
open Go.RowKit
attribute [local go_sem] Oper.semAt_some
theorem zYp {p s:Int} {d:List UInt8} (hp:0<=p/\p<=60) (hs:1<=s/\s<=1099511627776) (hd:d.length<=60):vg p s d:=by
 refine ⟨hp,hs,by omega,?_⟩
 have h1:=qn p.toNat (by omega)
 have h2:=qn s.toNat (by omega)
 have h3:=qn d.length (by omega)
 unfold qo
 simp only[List.length_append,List.length_cons,List.length_nil]
 omega
structure Sit (w:World) (s p c:Nat) (x:Nat->Prop) (g:Cf) (Q:PS) (D:Dat) (lv fr:List Pg) (Al:Option Addr) (cl:Nat) (Af:Option Addr) (cf:Nat) (cc:Nat):Prop where
 st:StAt w s p c x g Q lv fr Al cl Af cf
 inv:Inv Q D (qY lv) (qY fr)
 dat:∀q∈lv++fr,D q.r=q.d
 bud:Bud Q cc
 calm:Q.S.f.set=false/\Q.S.w.set=false
 over:Q.over=false
section
variable {w w':World} {s p c l f:Nat} {x k:Nat->Prop} {g:Cf} {Q Q':PS} {D:Dat} {lv fr:List Pg} {Al Af:Option Addr} {cl cf cc:Nat}
theorem zMw (hk:Keeps Q.S Q'.S) (hc:Q.S.f.set=false/\Q.S.w.set=false) (hcf:Q.cf=Q'.cf):Q'.over=Q.over:=by
 have h1:=(hk.calm hc).2
 have e1:Q'.Sp=Q.Sp:=by have:=congrArg Cf.Sp hcf;exact this.symm
 have e2:Q'.bad=Q.bad:=by have:=congrArg Cf.bad hcf;exact this.symm
 unfold PS.over PS.bads
 rw[h1,e1,e2]
theorem Sit.below (h:Sit w s p c x g Q D lv fr Al cl Af cf cc) (hb:Below w.heap.size w w'):Sit w' s p c (λb=>x b\/New w w' b) g Q D lv fr Al cl Af cf cc :=
 ⟨h.st.below hb,h.inv,h.dat,h.bud,h.calm,h.over⟩
theorem sit_put (d:Cal) (h:Sit w s p c x g Q D lv fr Al cl Af cf (cc+1)) (hcd:CB w (vW x s Af) d.A d.d) (hdl:d.d.length<=60) (hdn:d.A=none->d.d.length=0/\d.c=0) (hp:1<=d.page/\d.page<=60) (hsq:Q.seq+1<=1099511627776) (hn:(lv.length:Int)+fr.length<Q.K+6) :
 Calls Tryz.prog 15 #[.pointer (some ⟨s,0,none⟩),.agg #[.int .i64 d.dO,.int .i64 d.n,.int .i64 d.keep,.int .i64 d.page,.slice d.A d.d.length d.c,.slice d.A2 d.pk.length d.c2]] w λe w'=>e=.returned (.bool true)/\∃Q' D' Af' cf' y A ca,Sit w' s p c y g Q' D' lv (fr++[⟨(d.page,Q.seq+1),d.d,A,ca⟩]) Al cl Af' cf' cc/\Q'.seq=Q.seq+1/\(∀b,vW x s Af b->vW y s Af' b)/\Safe (vW x s Af) w w':=by
 refine (zRu d cc h.st h.inv h.dat h.bud hcd hdl hdn).mono ?_
 rintro e w' ⟨rfl,Q',D',fr',Af',cf',y,hst,hi,hd,hb,haw,hsf,hk,how⟩
 have hov:Q'.over=false:=(zMw hk h.calm (h.st.cfg.trans hst.cfg.symm)).trans h.over
 refine ⟨rfl,?_⟩
 rcases how with ⟨-,-,k | k⟩ | ⟨k,-⟩ | ⟨-,k1,A,ca,rfl⟩
 . rcases k with k | k
   . omega
   . exact absurd (zYp ⟨by omega,hp.2⟩ ⟨by have:=h.inv.mid.ok.seq;omega,hsq⟩ hdl) k
 . omega
 . rw[hov] at k;cases k
 . exact ⟨Q',D',Af',cf',y,A,ca,⟨hst,hi,hd,hb,(hk.calm h.calm).1,hov⟩,k1,haw,hsf⟩
theorem sit_seal (d:Cal) (h:Sit w s p c x g Q D lv fr Al cl Af cf (cc+1)) (hcd:CB w (vW x s Af) d.A d.d) (hdl:d.d.length<=60) (hdn:d.A=none->d.d.length=0/\d.c=0) (hpk:BA w d.A2 d.pk) (hpl:d.pk.length<=1000) (hsq:Q.seq+1<=1099511627776) :
 Calls Tryz.prog 11 #[.pointer (some ⟨s,0,none⟩),.agg #[.int .i64 d.dO,.int .i64 d.n,.int .i64 d.keep,.int .i64 d.page,.slice d.A d.d.length d.c,.slice d.A2 d.pk.length d.c2]] w λe w'=>e=.returned (.bool true)/\∃Q' D' Al' cl' y A ca,Sit w' s p c y g Q' D' (zDn (lv++fr) d.pk Q.K++[⟨(0,Q.seq+1),d.d,A,ca⟩]) [] Al' cl' none 0 cc/\Q'.seq=Q.seq+1/\(∀b,vW x s Af b->vW y s none b)/\Safe (vW x s Af) w w':=by
 refine (zNh d cc h.st h.inv h.dat h.bud hcd hdl hdn hpk hpl hsq).mono ?_
 rintro e w' ⟨rfl,Q',D',lv',Al',cl',y,hst,hi,hd,hb,haw,hsf,hk,how⟩
 have hov:Q'.over=false:=(zMw hk h.calm (h.st.cfg.trans hst.cfg.symm)).trans h.over
 refine ⟨rfl,?_⟩
 rcases how with ⟨k,-⟩ | ⟨-,k1,A,ca,rfl⟩
 . rw[hov] at k;cases k
 . exact ⟨Q',D',Al',cl',y,A,ca,⟨hst,hi,hd,hb,(hk.calm h.calm).1,hov⟩,k1,haw,hsf⟩
theorem zWk {B P Sp K U:Int} {bad:List Int} {l:List Cal} {e:Ending} (h:zGz w B P Sp K U bad l e w'):(e=.returned (.pointer none)/\Below w.heap.size w w')\/∃s p c x Q,e=.returned (.pointer (some ⟨s,0,none⟩))/\(∀D cc,cc<=1000->Sit w' s p c x ⟨B,P,Sp,K,U,Q.bad⟩ Q D [] [] none 0 none 0 cc)/\Q.seq=0/\Q.K=K/\(∀b,b<w.heap.size->x b/\b≠s)/\Below w.heap.size w w'/\yBf B P l:=by
 rcases h with h | ⟨s,p,c,x,Q,rfl,h1,h2,h3,h4,h5,⟨nb,np,h6⟩,h7,h8,h9,-⟩
 . exact .inl h
 . refine .inr ⟨s,p,c,x,Q,rfl,λD cc hcc=>⟨h1,h2 D,λq hq=>(by cases hq),h3 cc hcc,?_,h4⟩,h5,?_,h7,h8,h9⟩
   . rw[h6];exact ⟨rfl,rfl⟩
   . have:=congrArg Cf.K h1.cfg;exact this
end
end
section
open Go.RowKit
attribute [local go_sem] Oper.semAt_some
section
variable {w w' V:World} {s p c l f:Nat} {x k:Nat->Prop} {g:Cf} {Q Q':PS} {D:Dat} {lv fr:List Pg} {Al Af:Option Addr} {cl cf cc:Nat}
theorem zPh {lv fr:List P2} {r:P2} (h:Inv Q D lv fr) (hr:r∉lv++fr):Q.readQ r=Q:=by
 unfold PS.readQ
 rw[zTe λf hf e=>hr (by rw[<- e];exact h.ref hf)]
theorem zMg {lv fr:List P2} (h:Inv Q D lv fr) {c:Nat} (hb:Bud Q (c+1)) (d:List UInt8) {l:List P2} (hm:Q.may l=false):Q.sealQ 100 d l=some (1,Q.undo):=by
 obtain ⟨e,Q1,h1,h2⟩:=zMf h hb d l
 cases h2 with
 | arg _=>exact h1
 | over0 _ k=>rw[hm] at k;cases k
 | over _ _ k=>rw[hm] at k;cases k
 | ok _ _ k=>rw[hm] at k;cases k
theorem zOy (A:Option Addr) (m:Nat) (d:List UInt8) (A0:Option Addr) (m0 n0:Nat) (l0:List P2) (h:Sit w s p c x g Q D lv fr Al cl Af cf (cc+1)) (hV:Below w.heap.size w V) (hd:RB w w.heap.size A d) (hl:RLies V A0 l0) (hx:∀ad,A0=some ad->w.heap.size<=ad.block/\ad.block<V.heap.size) (hn0:l0.length=n0) (hlen:l0.length<=200) (hwf:∀r∈l0,WfP r) (hm:Q.may l0=false) :
 Calls Tryz.prog 28 #[.pointer (some ⟨p,0,none⟩),.slice A d.length m,.slice A0 n0 m0] V λe w'=>e=.returned (.int .i64 1)/\StAt w' s p c x g Q.undo lv fr Al cl Af cf/\Safe x w w':=by
 refine (zMh h.st.pool h.inv.mid.ok hV hd hl hx hn0 hlen hwf (zMg h.inv h.bud d hm)).mono ?_
 rintro e w' ⟨rfl,h1,h2⟩
 exact ⟨rfl,h.st.safe h2 h1 (λ_ k=>k) h.st.cfg,h2⟩
theorem zWm (h:Sit w s p c x g Q D lv fr Al cl Af cf cc) (hs:StAt w' s p c x g Q.undo lv fr Al cl Af cf):Sit (w'.setCell ⟨s,9,none⟩ (.slice none 0 0)) s p c x g Q.undo D lv [] Al cl none 0 cc :=
 ⟨hs.clear.1,h.inv.undo,λq hq=>h.dat q (by rw[List.append_nil] at hq;exact List.mem_append_left _ hq),h.bud.undo,h.calm,h.over⟩
theorem sit_none (r:P2) (h:Sit w s p c x g Q D lv fr Al cl Af cf cc) (hr:r∉qY lv++qY fr) (hwf:WfP r):Calls Tryz.prog 26 #[.pointer (some ⟨p,0,none⟩),P2V r] w λe w'=>∃A m n,e=.returned (.tuple #[.slice A n m,.int .i64 8])/\Sit w' s p c x g Q D lv fr Al cl Af cf cc/\Safe x w w':=by
 refine (zXj r h.st.pool h.inv.mid.ok hwf).mono ?_
 rintro e w' ⟨A,m,d,er,rfl,_,ht,hp,hs⟩
 obtain ⟨rfl,rfl⟩:=zXg hr h.inv ht.out
 rw[zPh h.inv hr] at hp
 exact ⟨A,m,_,rfl,⟨h.st.safe hs hp (λ_ k=>k) h.st.cfg,h.inv,h.dat,h.bud,h.calm,h.over⟩,hs⟩
theorem zWj (h:Sit w s p c x g Q D lv fr Al cl Af cf (cc+1)) (hlen:lv.length+fr.length<=1000):Calls Tryz.prog 16 #[.pointer (some ⟨s,0,none⟩)] w λe w'=>e=.returned (.bool true)/\Safe x w w':=by
 refine (zIe 0 h.st h.inv h.dat (h.bud.low.spent (Spent.refl _) ⟨by omega,by omega,by omega⟩) hlen).mono ?_
 rintro e w' ⟨rfl,Q1,y,_,_,_,_,_,h1,_⟩
 exact ⟨rfl,h1⟩
theorem zNe {lv fr:List P2} (h:Inv Q D lv fr) {l:List P2} (ht:ya l=true):Q.may l=false:=by
 cases hm:Q.may l with
 | false=>rfl
 | true=>have:=(zJp h hm).2.1;rw[ht] at this;cases this
theorem zIa {lv fr:List P2} (h:Inv Q D lv fr) {l:List P2} {r:P2} (hr:r∈l) (hn:r∉lv++fr\/r.1=0):Q.may l=false:=by
 cases hm:Q.may l with
 | false=>rfl
 | true =>
  have k:=(zJp h hm).2.2 r hr
  rcases hn with hn | hn
  . exact absurd k.1 hn
  . exact absurd hn k.2
end
end
end Go.Proofs.YtinkkmlbhkfmnaaGreat
