/- A part of what the last text proves: PoD1, PoD2, PoD3, PoD4, PoE1, PoE2, PoE3, PoE4, PoE5. -/
import Derived.Test.YtinkkmlbhkfmnaaGreatQPb
import Derived.Test.YtinkkmlbhkfmnaaGreatQGs
import Derived.Deep.LoopGhost
import Derived.BigRegion
set_option maxRecDepth 100000
set_option maxHeartbeats 8000000
namespace Go.Proofs.YtinkkmlbhkfmnaaGreat
section
open Go.RowKit
theorem CB.mono {w:World} {C D:Nat->Prop} {A:Option Addr} {l:List UInt8} (h:CB w C A l) (hD:∀b,C b->D b):CB w D A l:=h.keep (λ_ _=>rfl) hD
section
variable {w w':World} {p c l f:Nat} {x y X Y Z:Nat->Prop} {Q Q1:PS} {T:List Fd}
theorem Pool.off (h:Pool w p c x Q):∃l f X Y Z,PoolAt w p c l f X Y Z Q/\(∀b,x b->b<w.heap.size/\¬X b/\¬Y b/\¬Z b/\b≠p)/\∀b,x b->Off w X b:=by
 obtain ⟨l,f,X,Y,Z,h1,h2⟩:=h
 exact ⟨l,f,X,Y,Z,h1,h2,λb hb=>⟨(h2 b hb).1,(h2 b hb).2.1⟩⟩
theorem Pool.prog (A:Option Addr) (n cc:Nat) (l:List UInt8) (b pg:Int) (hn:n=l.length) (h:Pool w p c x Q) (hl:CB w x A l) :
 Calls Tryz.prog 119 #[.pointer (some ⟨c,0,none⟩),.agg #[.int .i64 b,.int .i64 pg],.slice A n cc] w λe w'=>e=.returned (.int .i64 (qU Q.S b pg l).1)/\Pool w' p c x { Q with S:=(qU Q.S b pg l).2 } /\ Safe x w w':=by
 obtain ⟨l1,f,X,Y,Z,h1,h2,h3⟩:=h.off
 refine (zQf A n cc l b pg hn h1.chip (hl.mono h3)).mono ?_
 rintro e w' ⟨rfl,k1,k2⟩
 exact ⟨rfl,h1.chip_op h2 k1 k2⟩
theorem Pool.erase (b:Int) (h:Pool w p c x Q):Calls Tryz.prog 166 #[.pointer (some ⟨c,0,none⟩),.int .i64 b] w λe w'=>e=.returned (.int .i64 (qf Q.S b).1)/\Pool w' p c x { Q with S:=(qf Q.S b).2 } /\ Safe x w w':=by
 obtain ⟨l1,f,X,Y,Z,h1,h2,h3⟩:=h.off
 refine (zUr b h1.chip).mono ?_
 rintro e w' ⟨rfl,k1,k2⟩
 exact ⟨rfl,h1.chip_op h2 k1 k2⟩
theorem Pool.readc (b pg:Int) (h:Pool w p c x Q):Calls Tryz.prog 59 #[.pointer (some ⟨c,0,none⟩),.agg #[.int .i64 b,.int .i64 pg]] w λe w'=>∃A L,e=.returned (.tuple #[.slice A L.length L.length,.int .i64 (rdL Q.S b pg).2.1])/\Hid (L=(rdL Q.S b pg).1)/\CB w' (New w w') A L/\Pool w' p c (λb=>x b\/New w w' b) { Q with S:=(rdL Q.S b pg).2.2 } /\ Safe x w w':=by
 obtain ⟨l1,f,X,Y,Z,h1,h2,h3⟩:=h.off
 refine (zZn b pg h1.chip).mono ?_
 rintro e w' ⟨A,L,rfl,hL,hc,k1,k2⟩
 exact ⟨A,L,rfl,hL,hc,h1.chip_read h2 k1 k2⟩
theorem Pool.failc (n:Int) (hn:n<=9223372036854775807) (h:Pool w p c x Q):Calls Tryz.prog 13 #[.pointer (some ⟨c,0,none⟩),.int .i64 n] w λe w'=>e=.returned (.tuple #[])/\Pool w' p c x { Q with S := { Q.S with f:=vY n } } /\ Safe x w w':=by
 obtain ⟨l1,f,X,Y,Z,h1,h2,h3⟩:=h.off
 refine (zZp n hn h1.chip).mono ?_
 rintro e w' ⟨rfl,k1,k2⟩
 exact ⟨rfl,h1.chip_op h2 k1 k2⟩
theorem Pool.wornc (n:Int) (hn:n<=9223372036854775807) (h:Pool w p c x Q):Calls Tryz.prog 14 #[.pointer (some ⟨c,0,none⟩),.int .i64 n] w λe w'=>e=.returned (.tuple #[])/\Pool w' p c x { Q with S := { Q.S with w:=vY n } } /\ Safe x w w':=by
 obtain ⟨l1,f,X,Y,Z,h1,h2,h3⟩:=h.off
 refine (zZm n hn h1.chip).mono ?_
 rintro e w' ⟨rfl,k1,k2⟩
 exact ⟨rfl,h1.chip_op h2 k1 k2⟩
def Pgs (w:World) (y:Nat->Prop) (A:Option Addr) (pg:List (List UInt8)):Prop :=
 0<pg.length->∃B o,A=some ⟨B,o,none⟩/\y B/\∀j (h:j<pg.length),∃Aj cj,w.cell? ⟨B,o+j,none⟩=some (.slice Aj pg[j].length cj)/\CB w y Aj pg[j]
theorem Pgs.safe {A:Option Addr} {pg:List (List UInt8)} (h:Pgs w y A pg) (hs:Safe x w w') (hy:∀b,y b->x b/\b<w.heap.size):Pgs w' y A pg:=λhn=>by
 obtain ⟨B,o,e,hB,hc⟩:=h hn
 refine ⟨B,o,e,hB,λj hj=>?_⟩
 obtain ⟨Aj,cj,k1,k2⟩:=hc j hj
 exact ⟨Aj,cj,(World.cell?_of_block (a:=⟨B,o+j,none⟩) (hs.block (hy B hB).2 (hy B hB).1)).trans k1,k2.safe hs hy λ_ k=>k⟩
theorem Pgs.mono {A:Option Addr} {pg:List (List UInt8)} (h:Pgs w y A pg) (hx:∀b,y b->x b):Pgs w x A pg:=λhn=>by
 obtain ⟨B,o,e,hB,hc⟩:=h hn
 refine ⟨B,o,e,hx B hB,λj hj=>?_⟩
 obtain ⟨Aj,cj,k1,k2⟩:=hc j hj
 exact ⟨Aj,cj,k1,k2.mono hx⟩
theorem fill_at (Q:PS) (td:Int) (i:Nat) (pg:List (List UInt8)) {j:Nat} (hj:j<pg.length):Q.fill td i (pg.drop j)=if (qU Q.S td i pg[j]).1=0 then PS.fill { Q with S:=(qU Q.S td i pg[j]).2 } td (i+1) (pg.drop (j+1)) else ((qU Q.S td i pg[j]).1,{ Q with S:=(qU Q.S td i pg[j]).2 }):=by
 rw[List.drop_eq_getElem_cons hj];rfl
theorem zXk (td:Int) (A:Option Addr) (m:Nat) (pg:List (List UInt8)) (hlen:pg.length<=1000) (h:Pool w p c x Q) (hp:Pgs w x A pg):Calls Tryz.prog 184 #[.pointer (some ⟨p,0,none⟩),.int .i64 td,.slice A pg.length m] w λe w'=>e=.returned (.int .i64 (Q.fill td 0 pg).1)/\Pool w' p c x (Q.fill td 0 pg).2/\Safe x w w':=by
 have HX:=hI h.there
 have HP:=hI h
 have HG:=hI hp
 clear h hp
 go_enter Tryz.func184,Tryz.ntmps184
 go_wp2_with fail
 go_loopw [7,8,9,12] (λ_ _ _ v12 wr=>∃j:Nat,j<=pg.length/\v12=.int .i64 j/\∃Q1,Pool wr p c x Q1/\Safe x w wr/\Q.fill td 0 pg=Q1.fill td j (pg.drop j)) (λ_ _ _ v12 _=>pg.length - (intOf v12).toNat)
 case atStart=>exact ⟨0,Nat.zero_le _,rfl,Q,HP.out,.refl _ _,rfl⟩
 case round =>
  obtain ⟨j,hj,rfl,Q1,hP,hS,hF⟩:=hrel
  have HP1:=hI hP
  have HS:=hI hS
  have HF:=hI hF
  obtain ⟨l,f,hpt⟩:=hP.parts
  have c0:=hpt.c0
  clear hP hS hF hpt
  by_cases hj1:j<pg.length
  . obtain ⟨B,o,rfl,hB,hc⟩:=(HG.out.safe HS.out λb hb=>⟨hb,HX.out b hb⟩) (by omega)
    obtain ⟨Aj,cj,k0,hcb⟩:=hc j hj1
    have HC:=hI hcb
    have HFA:=hI (fill_at Q1 td j pg hj1)
    clear hc hcb
    generalize pg[j]=bj at k0 HC HFA
    by_cases he:(qU Q1.S td j bj).1=0
    . have HE:=hI he
      rw[if_pos he] at HFA
      clear he
      go_wp2_with (go_at_call 119;(with_reducible refine (Pool.prog _ _ _ bj td (j:Int) rfl HP1.out HC.out).mono ?_);rintro e w2 ⟨rfl,h2,hs2⟩;rw[HE.out];have HP2:=hI h2;have HS2:=hI hs2;clear h2 hs2)
      go_roundw
      case rel=>exact ⟨j+1,by omega,by go_num,_,HP2.out,HS.out.then HS2.out,by rw[HF.out,HFA.out]⟩
      case measure=>simp[intOf];omega
    . have HE:Hid (Q.fill td 0 pg=((qU Q1.S td j bj).1,{ Q1 with S:=(qU Q1.S td j bj).2 })):=hI (by rw[HF.out,HFA.out,if_neg he])
      obtain ⟨er,her⟩:∃er,er=(qU Q1.S td j bj).1:=⟨_,rfl⟩
      rw[<- her] at he
      have HER:=hI her
      clear her
      go_wp2_with (go_at_call 119;(with_reducible refine (Pool.prog _ _ _ bj td (j:Int) rfl HP1.out HC.out).mono ?_);rintro e w2 ⟨rfl,h2,hs2⟩;rw[<- HER.out];have HP2:=hI h2;have HS2:=hI hs2;clear h2 hs2)
      go_ret
      exact ⟨ret_int (by rw[HE.out];exact HER.out),by rw[HE.out];exact HP2.out,HS.out.then HS2.out⟩
  . obtain rfl:j=pg.length:=by omega
    have HE:Hid (Q.fill td 0 pg=(0,Q1)):=hI (by rw[HF.out,List.drop_length];rfl)
    go_wp2_with fail
    go_ret
    exact ⟨ret_int (by rw[HE.out]),by rw[HE.out];exact HP1.out,HS.out⟩
end
end
section
open Go.RowKit
theorem yC {P:Program} {w:World} {ops:Array Oper} {rest:List Oper} {o:Oper} {a:Act} {Q:Exit->Act->World->Prop} (hgd:o.guard=none) (s x:Operand) (t:TypeId)
 (ho:o.op=.call { callee:=.builtin .append,args:=#[s,x],argTypes:=#[t,t] })
 (base:Nat) (e:TypeId) (i:TypeInfo) (z:Value) (size bytes:Nat) (ht:P.underlying t=some (.slice e)) (hi:P.info? e=some i) (hz:i.zero=some z)
 (hsize:i.size=size) (hby:i.bytes=bytes) (hzs:z.cells.size=size) (hsz:0<size)
 (v:Value) (n:Nat) (xs:List Value) (hs:a.eval s=v) (hown:w.ownsRow base e size v n xs)
 (ad:Addr) (m c:Nat) (news:List Value) (hx:a.eval x=.slice (some ad) m c) (hl:news.length=m * size) (hnews:∀j u,news[j]? = some u->w.cell? (ad.add j)=some u) (h1:∀u∈news,u.oneCell'=true)
 (h63:n+m<=maxLen) (hbytes:(n+m) * bytes<=140737488355328) (hbase:base<=w.heap.size)
 (h:∀q cap w',w'.ownsRow base e size (.slice q (n+m) cap) (n+m) (xs++news)->w.grownBy w' v.ownBlock->((Value.slice q (n+m) cap).ownBlock=v.ownBlock\/(Value.slice q (n+m) cap).ownBlock=some w.heap.size)->wpList P ops Q rest (a.put o.dst (.slice q (n+m) cap)) w') :
 wpList P ops Q (o::rest) a w:=by
 refine wpList_plain hgd λ_ hK=>?_
 obtain ⟨v',w',hr,h2,h3,_,h5⟩:=run_append_own_at (P:=P) w base t o.type e i z size bytes ht hi hz hsize hby hzs hsz v n xs hown ad m c news hl hnews h1 h63 hbytes hbase
 obtain ⟨q,cap,rfl,_⟩:=qN h2
 unfold Oper.wp execOp
 simp only[ho,resolve,invoke,builtin,Sem.run_bind,Sem.run_pure,Result.andThen_ok,List.map_toArray,List.map_cons,List.map_nil,hs,hx,hr]
 exact hK _ _ (h q cap w' h2 h3 h5)
section
variable {w w':World} {p c l f:Nat} {x y X Y Z:Nat->Prop} {Q Q1:PS} {T:List Fd}
theorem zKx {row:Option Nat} (hg:w.grownBy w' row):Turned (λb=>row=some b) w w':=⟨hg.os,hg.tape,hg.output,hg.size,λi hi hn=>hg.block i hi λe=>hn e.symm⟩
def PgO (w:World) (base:Nat) (v:Value) (pg:List (List UInt8)):Prop :=
 ∃L:List Value,L.length=pg.length/\w.ownsRow base 34 1 v pg.length L/\∀j (h:j<pg.length) (h2:j<L.length),∃Aj cj,L[j]=.slice Aj pg[j].length cj/\CB w (λk=>base<=k/\k<w.heap.size/\v.ownBlock≠some k) Aj pg[j]
theorem PgO.nil (w:World) (base:Nat):PgO w base (.slice none 0 0) []:=⟨[],rfl,World.ownsRow_nil _ _ _ _,λ_ h=>absurd h (by simp)⟩
theorem PgO.move {base:Nat} {v:Value} {pg:List (List UInt8)} (h:PgO w base v pg) (ht:Turned (λb=>b<base) w w'):PgO w' base v pg:=by
 obtain ⟨L,h1,h2,h3⟩:=h
 have hk:∀k,base<=k->k<w.heap.size->w'.heap[k]? = w.heap[k]? := λk h4 h5=>ht.block k h5 (by omega)
 refine ⟨L,h1,vS h2 λk e=>hk k (h2.lt k e).1 (h2.lt k e).2,λj hj hj2=>?_⟩
 obtain ⟨Aj,cj,e,hc⟩:=h3 j hj hj2
 exact ⟨Aj,cj,e,hc.keep (λb hb=>hk b hb.1 hb.2.1) λb hb=>⟨hb.1,Nat.lt_of_lt_of_le hb.2.1 ht.size,hb.2.2⟩⟩
theorem PgO.slice {base:Nat} {v:Value} {pg:List (List UInt8)} (h:PgO w base v pg):(∃A m,v=.slice A pg.length m)/\(∀k,v.ownBlock=some k->base<=k/\k<w.heap.size):=by
 obtain ⟨L,h1,h2,h3⟩:=h
 obtain ⟨A,m,e,_⟩:=qN h2
 exact ⟨⟨A,m,e⟩,h2.lt⟩
theorem PgO.pgs {base:Nat} {A:Option Addr} {m:Nat} {pg:List (List UInt8)} (h:PgO w base (.slice A pg.length m) pg):Pgs w (λk=>base<=k/\k<w.heap.size) A pg:=λhn=>by
 obtain ⟨L,h1,h2,h3⟩:=h
 rcases h2.2 with ⟨_,e⟩ | ⟨g,cap,cur,e,_,hg,_⟩
 . omega
 . simp at e
   obtain ⟨rfl,rfl⟩:=e
   have hlt:=h2.lt g rfl
   refine ⟨g,0,rfl,hlt,λj hj=>?_⟩
   obtain ⟨Aj,cj,e,hc⟩:=h3 j hj (by omega)
   refine ⟨Aj,cj,?_,hc.mono λk hk=>⟨hk.1,hk.2.1⟩⟩
   have:=h2.cellAt j (by simpa using hj)
   rw[Nat.zero_add,this,<- e]
   simp[h1,hj]
theorem PgO.add {w3:World} {base cb cap:Nat} {V:Value} {pg:List (List UInt8)} {L:List Value} {A:Option Addr} {bb:List UInt8} {q:Option Addr} (h1:L.length=pg.length) (h3:∀j (h:j<pg.length) (h2:j<L.length),∃Aj cj,L[j]=.slice Aj pg[j].length cj/\CB w (λk=>base<=k/\k<w.heap.size/\V.ownBlock≠some k) Aj pg[j])
 (hc:CB w (λk=>base<=k/\k<w.heap.size/\V.ownBlock≠some k) A bb) (hown:w3.ownsRow base 34 1 (.slice q (pg.length+1) cap) (pg.length+1) (L++[.slice A bb.length cb])) (hg:w.grownBy w3 V.ownBlock) (hb:(Value.slice q (pg.length+1) cap).ownBlock=V.ownBlock\/(Value.slice q (pg.length+1) cap).ownBlock=some w.heap.size):PgO w3 base (.slice q (pg.length+1) cap) (pg++[bb]):=by
 have key:∀(Aj:Option Addr) (x:List UInt8),CB w (λk=>base<=k/\k<w.heap.size/\V.ownBlock≠some k) Aj x->CB w3 (λk=>base<=k/\k<w3.heap.size/\(Value.slice q (pg.length+1) cap).ownBlock≠some k) Aj x:=λAj x k=>k.keep (λb hb=>hg.block b hb.2.1 λe=>hb.2.2 e.symm) λb hb2=>⟨hb2.1,Nat.lt_of_lt_of_le hb2.2.1 hg.size,by
  rcases hb with e | e
  . rw[e];exact hb2.2.2
  . rw[e];intro e';cases e';have:=hb2.2.1;omega⟩
 refine ⟨L++[.slice A bb.length cb],by simp[h1],by simpa using hown,λj hj hj2=>?_⟩
 by_cases hl:j<L.length
 . obtain ⟨Aj,cj,e,k⟩:=h3 j (by omega) hl
   have e1:(L++[Value.slice A bb.length cb])[j]=L[j]:=List.getElem_append_left hl
   have e2:(pg++[bb])[j]=pg[j]'(by omega):=List.getElem_append_left (by omega)
   rw[e1,e2]
   exact ⟨Aj,cj,e,key _ _ k⟩
 . have hj3:j=L.length:=by simp at hj2;omega
   subst hj3
   refine ⟨A,cb,by simp[h1],?_⟩
   have e2:(pg++[bb])[L.length]'hj=bb:=by simp[h1]
   rw[e2]
   exact key _ _ hc
theorem safe_low {n:Nat} (h:Safe y w w') (hy:∀b,n<=b->b<w.heap.size->y b):Turned (λb=>b<n) w w':=⟨h.os,h.tape,h.output,h.size,λi hi hn=>h.block hi (hy i (Nat.le_of_not_lt hn) hi)⟩
theorem FLies.safe {A:Option Addr} {l:List Fd} (h:FLies w A l) (hs:Safe x w w') (hx:0<l.length->∀ad,A=some ad->x ad.block):FLies w' A l:=λhn=>by
 obtain ⟨B,o,e,hB,hc⟩:=h hn
 have hk:=hs.block hB (hx hn _ e)
 have k:∀i,w'.cell? ⟨B,i,none⟩=w.cell? ⟨B,i,none⟩:=λi=>World.cell?_of_block (a:=⟨B,i,none⟩) hk
 refine ⟨B,o,e,Nat.lt_of_lt_of_le hB hs.size,λj hj=>?_⟩
 rw[k,k,k,k];exact hc j hj
theorem pages_at (Q:PS) (acc:List (List UInt8)) (l:List Fd) {j:Nat} (hj:j<l.length):Q.pages acc (l.drop j)=if (rdL Q.S l[j].2.1 l[j].2.2).2.1=0 then PS.pages { Q with S:=(rdL Q.S l[j].2.1 l[j].2.2).2.2 } (acc++[(rdL Q.S l[j].2.1 l[j].2.2).1]) (l.drop (j+1)) else ((rdL Q.S l[j].2.1 l[j].2.2).2.1,[],{ Q with S:=(rdL Q.S l[j].2.1 l[j].2.2).2.2 }):=by
 rw[List.drop_eq_getElem_cons hj];rfl
theorem zCx {w:World} {p:Nat} {a b c d:Value} {t:TypeId} (hh:w.heap[p]? = some (.cells #[a,b,c,d] t (0,0))):w.cell? ⟨p,0,none⟩=some a/\w.cell? ⟨p,1,none⟩=some b/\w.cell? ⟨p,2,none⟩=some c/\w.cell? ⟨p,3,none⟩=some d:=by
 simp[World.cell?,hh]
theorem zXy:∃i,Tryz.prog.info? 34=some i/\i.zero=some (.slice none 0 0)/\i.size=1/\i.bytes=24:=by
 obtain ⟨i,hi,hz,hs,hb⟩:=info_parts zIj
 exact ⟨i,hi,hz,hs,hb⟩
theorem q_pages (A:Option Addr) (m:Nat) (l:List Fd) (hlen:l.length<=1000) (h:Pool w p c x Q) (hF:FLies w A l) (hx:0<l.length->∀ad,A=some ad->x ad.block):Calls Tryz.prog 183 #[.pointer (some ⟨p,0,none⟩),.slice A l.length m] w λe w'=>∃A' m',e=.returned (.tuple #[.slice A' (Q.pages [] l).2.1.length m',.int .i64 (Q.pages [] l).1])/\Pgs w' (New w w') A' (Q.pages [] l).2.1/\Pool w' p c (λb=>x b\/New w w' b) (Q.pages [] l).2.2/\Safe x w w':=by
 obtain ⟨i0,hi0,hz0,hs0,hby0⟩:=zXy
 have HX:=hI h.there
 have HP:=hI h
 have HG:=hI hF
 have HA:=hI hx
 clear h hF hx
 go_enter Tryz.func183,Tryz.ntmps183
 go_wp2_with fail
 go_loopw [6,9,10,13] (λv6 _ _ v13 wr=>∃j:Nat,j<=l.length/\v13=.int .i64 j/\∃Q1 acc,acc.length=j/\PgO wr w.heap.size v6 acc/\Pool wr p c (λb=>x b\/New w wr b) Q1/\Safe x w wr/\Q.pages [] l=Q1.pages acc (l.drop j)) (λ_ _ _ v13 _=>l.length - (intOf v13).toNat)
 case atStart=>exact ⟨0,Nat.zero_le _,rfl,Q,[],rfl,.nil _ _,HP.out.less λb k=>k.elim id λk=>absurd k.2 (by have:=k.1;omega),.refl _ _,rfl⟩
 case round =>
  obtain ⟨j,hj,rfl,Q1,acc,hacc,hO,hP,hS,hE⟩:=hrel
  have hsz:=hS.size
  obtain ⟨⟨V,mv,rfl⟩,hVlt⟩:=hO.slice
  rw[hacc] at hO hVlt ⊢
  have HO:=hI hO
  have HVlt:=hI hVlt
  have HP1:=hI hP
  have HS:=hI hS
  have HE:=hI hE
  have HACC:=hI hacc
  clear hO hP hS hE hVlt hacc
  by_cases hj1:j<l.length
  . obtain ⟨B,o,rfl,hB,hc⟩:=(HG.out.safe HS.out HA.out) (by omega)
    obtain ⟨k0,k1,k2,k3⟩:=hc j hj1
    have HPA:=hI (pages_at Q1 acc l hj1)
    clear hc
    generalize l[j]=fd at k0 k1 k2 k3 HPA
    obtain ⟨W,hW⟩:∃W,wr.alloc (.cells #[.int .i64 fd.1.1,.int .i64 fd.1.2,.int .i64 fd.2.1,.int .i64 fd.2.2] 71)=W:=⟨_,rfl⟩
    have HBW:Hid (Below wr.heap.size wr W):=hI (by rw[<- hW];exact bR.alloc nL _)
    have HBX:Hid (W.heap[wr.heap.size]? = some (.cells #[.int .i64 fd.1.1,.int .i64 fd.1.2,.int .i64 fd.2.1,.int .i64 fd.2.2] 71 (0,0))):=hI (by rw[<- hW];exact heap_alloc_new _ _)
    have HPW:Hid (Pool W p c (λb=>x b\/New w W b) Q1):=hI ((HP1.out.more HBW.out).less λb k=>by
     rcases k with k | ⟨k1,k2⟩
     . exact .inl (.inl k)
     . rcases Nat.lt_or_ge b wr.heap.size with e | e
       . exact .inl (.inr ⟨k1,e⟩)
       . exact .inr ⟨e,k2⟩)
    have hWs:=HBW.out.size
    have hbx:=qD HBX.out
    obtain ⟨l1,f1,hpt⟩:=HPW.out.parts
    have c0:=hpt.c0
    have HPT:Hid (∀V,Pool V p c (λb=>x b\/New w W b) { Q1 with S:=(rdL Q1.S fd.2.1 fd.2.2).2.2 } -> V.cell? ⟨p,0,none⟩=some (.pointer (some ⟨c,0,none⟩))):=hI λV hV=>by
     obtain ⟨l2,f2,k⟩:=hV.parts
     exact k.c0
    obtain ⟨b0,b1,b2,b3⟩:=zCx HBX.out
    clear hpt
    go_upto_region 5 with fail
    clear hW
    go_region_held3 (λV=>V.cell? ⟨p,0,none⟩=some (.pointer (some ⟨c,0,none⟩))/\V.cell? ⟨wr.heap.size,2,none⟩=some (.int .i64 fd.2.1)/\V.cell? ⟨wr.heap.size,3,none⟩=some (.int .i64 fd.2.2))
     (first | exact ⟨c0,b2,b3⟩ | exact HK2.out)
     (first
      | (go_at_call 59;(with_reducible refine (Pool.readc fd.2.1 fd.2.2 (HPW.out.below bR.drew)).mono ?_);rintro e w2 ⟨A2,L2,rfl,hL2,hc2,h2,hs2⟩;have HP2:=hI h2;have HS2:Hid (Safe (λb=>x b\/New w W b) W w2):=hI ((qC bR.drew).then hs2);have HC2:=hI hc2;have hWd:W.drew.heap.size=W.heap.size:=rfl;have HK2:Hid (w2.cell? ⟨p,0,none⟩=some (.pointer (some ⟨c,0,none⟩))/\w2.cell? ⟨wr.heap.size,2,none⟩=some (.int .i64 fd.2.1)/\w2.cell? ⟨wr.heap.size,3,none⟩=some (.int .i64 fd.2.2)):=hI ⟨HPT.out w2 (HP2.out.less λb k=>.inl k),(World.cell?_of_block (a:=⟨wr.heap.size,2,none⟩) (HS2.out.block hbx (.inr ⟨hsz,hbx⟩))).trans b2,(World.cell?_of_block (a:=⟨wr.heap.size,3,none⟩) (HS2.out.block hbx (.inr ⟨hsz,hbx⟩))).trans b3⟩;clear h2 hs2 hc2))
    have hd2:=HS2.out.size
    have HW2:Hid (Safe x w w2):=hI ((HS.out.then (qC HBW.out)).then' HS2.out λb hb k=>.inl k)
    have HP3:Hid (Pool w2 p c (λb=>x b\/New w w2 b) { Q1 with S:=(rdL Q1.S fd.2.1 fd.2.2).2.2 }):=hI (HP2.out.less λb k=>by
     rcases k with k | ⟨k1,k2⟩
     . exact .inl (.inl k)
     . rcases Nat.lt_or_ge b W.heap.size with e | e
       . exact .inl (.inr ⟨k1,e⟩)
       . exact .inr ⟨e,k2⟩)
    by_cases he:(rdL Q1.S fd.2.1 fd.2.2).2.1=0
    . rw[if_pos he] at HPA
      rw[he]
      have HO2:Hid (PgO w2 w.heap.size (.slice V j mv) acc):=hI ((HO.out.move (Turned.of_below HBW.out)).move (safe_low HS2.out λb k1 k2=>.inr ⟨k1,k2⟩))
      clear he
      obtain ⟨Lv,hl1,hown,hpg⟩:=HO2.out
      have HOw:=hI hown
      have HPg:=hI hpg
      have HL1:=hI hl1
      clear hown hpg hl1
      obtain ⟨W3,hW3⟩:∃W3,w2.alloc (.cells #[.slice A2 L2.length L2.length] 34)=W3:=⟨_,rfl⟩
      have HB3:Hid (Below w2.heap.size w2 W3):=hI (by rw[<- hW3];exact bR.alloc nL _)
      have HX3:Hid (W3.heap[w2.heap.size]? = some (.cells #[.slice A2 L2.length L2.length] 34 (0,0))):=hI (by rw[<- hW3];exact heap_alloc_new _ _)
      have HCB3:Hid (CB W3 (λk=>w.heap.size<=k/\k<W3.heap.size/\(Value.slice V j mv).ownBlock≠some k) A2 L2):=hI (HC2.out.keep (λb hb=>HB3.out.block b hb.2) λb hb=>⟨by have:=hb.1;omega,Nat.lt_of_lt_of_le hb.2 HB3.out.size,λe=>by have:=HVlt.out b e;have:=hb.1;omega⟩)
      have HO3:Hid (PgO W3 w.heap.size (.slice V j mv) acc):=hI (HO2.out.move (Turned.of_below HB3.out))
      clear HO2 HOw HPg HL1 Lv
      obtain ⟨Lv,hl1,hown,hpg⟩:=HO3.out
      have hjl:acc.length=j:=HACC.out
      rw[hjl] at hown
      have HOw:=hI hown
      have HPg:=hI hpg
      have HL1:=hI hl1
      have hw3:w.heap.size<=W3.heap.size:=by have:=HB3.out.size;have:=HW2.out.size;omega
      clear hown hpg hl1 hjl
      go_wp2_with (at_builtin;refine yC rfl _ _ _ rfl w.heap.size 34 i0 _ 1 24 Tryz.underlying99 hi0 hz0 hs0 hby0 rfl (by decide) (.slice V j mv) j Lv rfl HOw.out ⟨w2.heap.size,0,none⟩ 1 1 [.slice A2 L2.length L2.length] rfl rfl (λk u hu=>by cases k with | zero=>(simp at hu;subst hu;simp[World.cell?,HX3.out,Addr.add]) | succ n=>simp at hu) (λu hu=>by simp at hu;subst hu;rfl) (by unfold maxLen;omega) (by omega) hw3 ?_;intro q3 cap3 w4 hown4 hg4 hob4)
      have HG4:=hI hg4
      have HPG:Hid (PgO w4 w.heap.size (.slice q3 (j+1) cap3) (acc++[L2])):=hI (by
       have h9:=PgO.add (cb:=L2.length) (q:=q3) (cap:=cap3) (w3:=w4) HL1.out HPg.out HCB3.out (by rw[HACC.out];exact hown4) hg4 (by rw[HACC.out];exact hob4)
       rw[HACC.out] at h9;exact h9)
      have HT4:Hid (Turned (New w W3) W3 w4):=hI ((zKx hg4).mono' λb hb=>by
       have:=HVlt.out b hb
       have:=HB3.out.size
       have:=HW2.out.size
       exact ⟨by omega,by omega⟩)
      clear hown4 hg4 hob4
      go_roundw
      case rel =>
       have h6:Pool W3 p c (λb=>x b\/New w W3 b) { Q1 with S:=(rdL Q1.S fd.2.1 fd.2.2).2.2 } := (HP3.out.more HB3.out).less λb k=>by
        rcases k with k | ⟨k1,k2⟩
        . exact .inl (.inl k)
        . rcases Nat.lt_or_ge b w2.heap.size with e | e
          . exact .inl (.inr ⟨k1,e⟩)
          . exact .inr ⟨e,k2⟩
       have h7:=(h6.grow (HT4.out.mono' λb k=>.inr k)).less (y:=λb=>x b\/New w w4 b) λb k=>by
        rcases k with k | ⟨k1,k2⟩
        . exact .inl (.inl k)
        . rcases Nat.lt_or_ge b W3.heap.size with e | e
          . exact .inl (.inr ⟨k1,e⟩)
          . exact .inr ⟨e,k2⟩
       have h8:Safe x w w4:=(HW2.out.then (qC HB3.out)).then (HT4.out.mono' λb k kx=>by have:=HX.out b kx;have:=k.1;omega)
       have hLd:L2=(rdL Q1.S fd.2.1 fd.2.2).1:=hL2.out
       exact ⟨j+1,by omega,by go_num,_,acc++[L2],by simp[HACC.out],HPG.out,h7,h8,by rw[HE.out,HPA.out,hLd]⟩
      case measure=>simp[intOf];omega
    . have HZ:Hid (Q.pages [] l=((rdL Q1.S fd.2.1 fd.2.2).2.1,[],{ Q1 with S:=(rdL Q1.S fd.2.1 fd.2.2).2.2 })):=hI (by rw[HE.out,HPA.out,if_neg he])
      obtain ⟨er,her⟩:∃er,er=(rdL Q1.S fd.2.1 fd.2.2).2.1:=⟨_,rfl⟩
      rw[<- her] at he ⊢
      have HER:=hI her
      clear her
      go_wp2_with fail
      go_ret2
      rw[HZ.out]
      exact ⟨none,0,by rw[HER.out];rfl,λhn=>absurd hn (by simp),HP3.out,HW2.out⟩
  . obtain rfl:j=l.length:=by omega
    have HZ:Hid (Q.pages [] l=(0,acc,Q1)):=hI (by rw[HE.out,List.drop_length];rfl)
    go_wp2_with fail
    go_ret2
    rw[HZ.out]
    refine ⟨V,mv,by show _=Ending.returned (.tuple #[.slice V acc.length mv,.int .i64 0]);rw[HACC.out];rfl,?_,HP1.out,HS.out⟩
    have:=HO.out
    rw[<- HACC.out] at this
    exact this.pgs
end
end
section
open Go.RowKit
section
variable {w w':World} {p c l f:Nat} {x y X Y Z:Nat->Prop} {Q Q1:PS} {T:List Fd}
theorem PoolAt.putL (r s:P2) (h1:PoolAt w p c l f X Y Z Q) (h2:∀b,x b->b<w.heap.size/\¬X b/\¬Y b/\¬Z b/\b≠p) (hl:Q.L.length<=1000) (hr:WfP r) (hs:WfP s):Calls Tryz.prog 56 #[.pointer (some ⟨l,0,none⟩),P2V r,P2V s] w λe w'=>e=.returned (.bool (zGr Q.L r s))/\Pool w' p c x { Q with L:=zD Q.L r s } /\ Safe x w w':=by
 refine (zCn r s h1.live hl hr hs).mono ?_
 rintro e w' ⟨rfl,k1,k2⟩
 exact ⟨rfl,h1.live_op h2 k1 k2⟩
theorem PoolAt.putF (r s:P2) (h1:PoolAt w p c l f X Y Z Q) (h2:∀b,x b->b<w.heap.size/\¬X b/\¬Y b/\¬Z b/\b≠p) (hl:Q.F.length<=1000) (hr:WfP r) (hs:WfP s):Calls Tryz.prog 56 #[.pointer (some ⟨f,0,none⟩),P2V r,P2V s] w λe w'=>e=.returned (.bool (zGr Q.F r s))/\Pool w' p c x { Q with F:=zD Q.F r s } /\ Safe x w w':=by
 refine (zCn r s h1.fresh hl hr hs).mono ?_
 rintro e w' ⟨rfl,k1,k2⟩
 exact ⟨rfl,h1.fresh_op h2 k1 k2⟩
theorem zCm (T:List Fd) (r s:P2):(zD T r s).length<=T.length+1:=by
 unfold zD
 split
 . split<;>simp
 . omega
theorem zWo (Q:PS) (td:Int) (i:Nat) (l:List Fd) {j:Nat} (hj:j<l.length):Q.settle td i (l.drop j)=(Q.put1 td i l[j]).settle td (i+1) (l.drop (j+1)):=by
 rw[List.drop_eq_getElem_cons hj];rfl
theorem q_settle (td:Int) (A:Option Addr) (m:Nat) (l:List Fd) (hlen:Q.L.length+Q.F.length+l.length<=900) (h:Pool w p c x Q) (hF:FLies w A l) (hx:0<l.length->∀ad,A=some ad->x ad.block) (hw:∀f∈l,WfP f.1/\WfP f.2) (hto:(Lit.int .i64 td).wf=true):Calls Tryz.prog 185 #[.pointer (some ⟨p,0,none⟩),.slice A l.length m,.int .i64 td] w λe w'=>e=.returned (.tuple #[])/\Pool w' p c x (Q.settle td 0 l)/\Safe x w w':=by
 have HX:=hI h.there
 have HP:=hI h
 have HG:=hI hF
 have HA:=hI hx
 have HWF:=hI hw
 have HTO:=hI hto
 have HLN:=hI hlen
 have hll:l.length<=900:=by omega
 clear h hF hx hw hto hlen
 go_enter Tryz.func185,Tryz.ntmps185
 go_wp2_with fail
 go_loopw [6,8,10,13] (λ_ _ _ v13 wr=>∃j:Nat,j<=l.length/\v13=.int .i64 j/\∃Q1,Q1.L.length+Q1.F.length<=Q.L.length+Q.F.length+j/\Pool wr p c x Q1/\Safe x w wr/\Q.settle td 0 l=Q1.settle td j (l.drop j)) (λ_ _ _ v13 _=>l.length - (intOf v13).toNat)
 case atStart=>exact ⟨0,Nat.zero_le _,rfl,Q,Nat.le_refl _,HP.out,.refl _ _,rfl⟩
 case round =>
  obtain ⟨j,hj,rfl,Q1,hn,hP,hS,hE⟩:=hrel
  have hsz:=hS.size
  have HP1:=hI hP
  have HS:=hI hS
  have HE:=hI hE
  have HN:=hI hn
  clear hP hS hE hn
  by_cases hj1:j<l.length
  . obtain ⟨B,o,rfl,hB,hc⟩:=(HG.out.safe HS.out HA.out) (by omega)
    obtain ⟨k0,k1,k2,k3⟩:=hc j hj1
    have HPA:=hI (zWo Q1 td j l hj1)
    have HWJ:=hI (HWF.out l[j] (List.getElem_mem hj1))
    clear hc
    generalize l[j]=fd at k0 k1 k2 k3 HPA HWJ
    obtain ⟨W,hW⟩:∃W,wr.alloc (.cells #[.int .i64 fd.1.1,.int .i64 fd.1.2,.int .i64 fd.2.1,.int .i64 fd.2.2] 71)=W:=⟨_,rfl⟩
    have HBW:Hid (Below wr.heap.size wr W):=hI (by rw[<- hW];exact bR.alloc nL _)
    have HBX:Hid (W.heap[wr.heap.size]? = some (.cells #[.int .i64 fd.1.1,.int .i64 fd.1.2,.int .i64 fd.2.1,.int .i64 fd.2.2] 71 (0,0))):=hI (by rw[<- hW];exact heap_alloc_new _ _)
    have hbx:=qD HBX.out
    obtain ⟨l1,f1,X,Y,Z,hat,hout⟩:=((HP1.out.more HBW.out).less (y:=λb=>x b\/b=wr.heap.size) λb k=>k.imp id λe=>⟨by omega,by omega⟩)
    have c7:=hat.parts.c7
    have c8:=hat.parts.c8
    have HAT:=hI hat
    have HOUT:=hI hout
    have HSK:Hid (∀V,Below W.heap.size W V->V.cell? ⟨p,8,none⟩=some (.pointer (some ⟨f1,0,none⟩))/\V.cell? ⟨wr.heap.size,2,none⟩=some (.int .i64 fd.2.1)/\V.cell? ⟨wr.heap.size,3,none⟩=some (.int .i64 fd.2.2)):=hI λV hV=>by
     have e:=zCx ((hV.block _ hbx).trans HBX.out)
     exact ⟨(hat.below hV).parts.c8,e.2.2.1,e.2.2.2⟩
    have HK7:Hid (∀V,Below W.heap.size W V->V.cell? ⟨p,7,none⟩=some (.pointer (some ⟨l1,0,none⟩))/\V.cell? ⟨wr.heap.size,0,none⟩=some (.int .i64 fd.1.1)/\V.cell? ⟨wr.heap.size,1,none⟩=some (.int .i64 fd.1.2)):=hI λV hV=>by
     have e:=zCx ((hV.block _ hbx).trans HBX.out)
     exact ⟨(hat.below hV).parts.c7,e.1,e.2.1⟩
    obtain ⟨s8,b2,b3⟩:=HSK.out W bR
    have HSP:Hid (WfP (td,(j:Int))):=hI ⟨HTO.out,yg ⟨by show (-9223372036854775808:Int)<=(j:Int);omega,by show (j:Int)<=9223372036854775807;omega⟩⟩
    have HLE:Hid (Q1.L.length<=1000/\Q1.F.length<=1000):=hI (by have:=HN.out;have:=HLN.out;omega)
    clear hat hout
    cases hon:(onT Q1.F fd.2).isSome with
    | false =>
     have HON:=hI hon
     have HPE:Hid (Q1.put1 td j fd = { Q1 with L:=zD Q1.L fd.1 (td,(j:Int)) }):=hI (by unfold PS.put1;rw[hon];rfl)
     clear hon
     go_upto_region 4 with fail
     clear hW
     go_region_held3 (λV=>V.cell? ⟨p,8,none⟩=some (.pointer (some ⟨f1,0,none⟩))/\V.cell? ⟨wr.heap.size,2,none⟩=some (.int .i64 fd.2.1)/\V.cell? ⟨wr.heap.size,3,none⟩=some (.int .i64 fd.2.2))
      (first | exact ⟨c8,b2,b3⟩ | exact HSK.out _ HBB.out | exact HSK.out _ (HBB.out.alloc HBB.out.size _) | exact HSK.out _ (bR.alloc nL _).drew | exact HSK.out _ (bR.alloc nL _) | exact HSK.out _ ((HBB.out.setCell nL _).setCell nL _))
      (first
       | (go_at_call 89;(with_reducible refine (zBv fd.2 (HAT.out.fresh.below bR.drew) HLE.out.2 HWJ.out.2).mono ?_);rintro e w2 ⟨rfl,hb2⟩;rw[HON.out];have HBB:Hid (Below W.heap.size W w2):=hI (bR.drew.trans hb2))
       | (go_at_call 89;(with_reducible refine (zBv fd.2 (HAT.out.fresh.below (bR.alloc nL _).drew) HLE.out.2 HWJ.out.2).mono ?_);rintro e w2 ⟨rfl,hb2⟩;rw[HON.out];have HBB:Hid (Below W.heap.size W w2):=hI ((bR.alloc nL _).drew.trans (hb2.mono (by simp)));obtain ⟨n0,n1,n2,n3⟩:=qG ((hb2.block W.heap.size (by simp)).trans (heap_alloc_new W _))))
     . obtain ⟨V,hV⟩:∃V,w2.alloc (.cells #[.int .i64 ((onT Q1.F fd.2).getD (0,0)).1,.int .i64 ((onT Q1.F fd.2).getD (0,0)).2] 33)=V:=⟨_,rfl⟩
       have HBV:Hid (Below W.heap.size W V):=hI (by rw[<- hV];exact HBB.out.alloc HBB.out.size _)
       rw[hV]
       clear hV hb2
       have HBV':Hid (Below wr.heap.size wr V):=hI (HBW.out.trans (HBV.out.mono HBW.out.size))
       obtain ⟨s8,-,-⟩:=HSK.out V HBV.out
       obtain ⟨s7,b0,b1⟩:=HK7.out V HBV.out
       have HATV:=hI (HAT.out.below HBV.out)
       have HOUTV:Hid (∀b,(x b\/b=wr.heap.size)->b<V.heap.size/\¬X b/\¬Y b/\¬Z b/\b≠p):=hI λb k=>⟨Nat.lt_of_lt_of_le (HOUT.out b k).1 HBV.out.size,(HOUT.out b k).2⟩
       go_wp2_with (go_at_call 56;(with_reducible refine (PoolAt.putL fd.1 (td,(j:Int)) HATV.out HOUTV.out HLE.out.1 HWJ.out.1 HSP.out).mono ?_);rintro e w5 ⟨rfl,h5,hs5⟩;have HP5:=hI h5;have HS5:=hI hs5;clear h5 hs5)
       go_roundw
       case rel=>exact ⟨j+1,by omega,by go_num,{ Q1 with L:=zD Q1.L fd.1 (td,(j:Int)) },by have:=HN.out;have:=zCm Q1.L fd.1 (td,(j:Int));show (zD Q1.L fd.1 (td,(j:Int))).length+(Q1.F).length<=_;omega,HP5.out.less λ_ k=>.inl k,(HS.out.then (qC HBV'.out)).then' HS5.out λ_ _ k=>.inl k,by rw[HE.out,HPA.out,HPE.out]⟩
       case measure=>simp[intOf];omega
     . obtain ⟨V,hV⟩:∃V,(w2.setCell ⟨W.heap.size,0,none⟩ (.int .i64 ((onT Q1.F fd.2).getD (0,0)).1)).setCell ⟨W.heap.size,1,none⟩ (.int .i64 ((onT Q1.F fd.2).getD (0,0)).2)=V:=⟨_,rfl⟩
       have HBV:Hid (Below W.heap.size W V):=hI (by rw[<- hV];exact (HBB.out.setCell nL _).setCell nL _)
       rw[hV]
       clear hV hb2 n0 n1 n2 n3
       have HBV':Hid (Below wr.heap.size wr V):=hI (HBW.out.trans (HBV.out.mono HBW.out.size))
       obtain ⟨s8,-,-⟩:=HSK.out V HBV.out
       obtain ⟨s7,b0,b1⟩:=HK7.out V HBV.out
       have HATV:=hI (HAT.out.below HBV.out)
       have HOUTV:Hid (∀b,(x b\/b=wr.heap.size)->b<V.heap.size/\¬X b/\¬Y b/\¬Z b/\b≠p):=hI λb k=>⟨Nat.lt_of_lt_of_le (HOUT.out b k).1 HBV.out.size,(HOUT.out b k).2⟩
       go_wp2_with (go_at_call 56;(with_reducible refine (PoolAt.putL fd.1 (td,(j:Int)) HATV.out HOUTV.out HLE.out.1 HWJ.out.1 HSP.out).mono ?_);rintro e w5 ⟨rfl,h5,hs5⟩;have HP5:=hI h5;have HS5:=hI hs5;clear h5 hs5)
       go_roundw
       case rel=>exact ⟨j+1,by omega,by go_num,{ Q1 with L:=zD Q1.L fd.1 (td,(j:Int)) },by have:=HN.out;have:=zCm Q1.L fd.1 (td,(j:Int));show (zD Q1.L fd.1 (td,(j:Int))).length+(Q1.F).length<=_;omega,HP5.out.less λ_ k=>.inl k,(HS.out.then (qC HBV'.out)).then' HS5.out λ_ _ k=>.inl k,by rw[HE.out,HPA.out,HPE.out]⟩
       case measure=>simp[intOf];omega
    | true =>
     have HON:=hI hon
     have HPE:Hid (Q1.put1 td j fd = { Q1 with F:=zD Q1.F fd.1 (td,(j:Int)) }):=hI (by unfold PS.put1;rw[hon];rfl)
     clear hon
     go_upto_region 4 with fail
     clear hW
     go_region_held3 (λV=>V.cell? ⟨p,8,none⟩=some (.pointer (some ⟨f1,0,none⟩))/\V.cell? ⟨wr.heap.size,2,none⟩=some (.int .i64 fd.2.1)/\V.cell? ⟨wr.heap.size,3,none⟩=some (.int .i64 fd.2.2))
      (first | exact ⟨c8,b2,b3⟩ | exact HSK.out _ HBB.out | exact HSK.out _ (HBB.out.alloc HBB.out.size _) | exact HSK.out _ (bR.alloc nL _).drew | exact HSK.out _ (bR.alloc nL _) | exact HSK.out _ ((HBB.out.setCell nL _).setCell nL _))
      (first
       | (go_at_call 89;(with_reducible refine (zBv fd.2 (HAT.out.fresh.below bR.drew) HLE.out.2 HWJ.out.2).mono ?_);rintro e w2 ⟨rfl,hb2⟩;rw[HON.out];have HBB:Hid (Below W.heap.size W w2):=hI (bR.drew.trans hb2))
       | (go_at_call 89;(with_reducible refine (zBv fd.2 (HAT.out.fresh.below (bR.alloc nL _).drew) HLE.out.2 HWJ.out.2).mono ?_);rintro e w2 ⟨rfl,hb2⟩;rw[HON.out];have HBB:Hid (Below W.heap.size W w2):=hI ((bR.alloc nL _).drew.trans (hb2.mono (by simp)));obtain ⟨n0,n1,n2,n3⟩:=qG ((hb2.block W.heap.size (by simp)).trans (heap_alloc_new W _))))
     . obtain ⟨V,hV⟩:∃V,w2.alloc (.cells #[.int .i64 ((onT Q1.F fd.2).getD (0,0)).1,.int .i64 ((onT Q1.F fd.2).getD (0,0)).2] 33)=V:=⟨_,rfl⟩
       have HBV:Hid (Below W.heap.size W V):=hI (by rw[<- hV];exact HBB.out.alloc HBB.out.size _)
       rw[hV]
       clear hV hb2
       have HBV':Hid (Below wr.heap.size wr V):=hI (HBW.out.trans (HBV.out.mono HBW.out.size))
       obtain ⟨s8,-,-⟩:=HSK.out V HBV.out
       obtain ⟨s7,b0,b1⟩:=HK7.out V HBV.out
       have HATV:=hI (HAT.out.below HBV.out)
       have HOUTV:Hid (∀b,(x b\/b=wr.heap.size)->b<V.heap.size/\¬X b/\¬Y b/\¬Z b/\b≠p):=hI λb k=>⟨Nat.lt_of_lt_of_le (HOUT.out b k).1 HBV.out.size,(HOUT.out b k).2⟩
       go_wp2_with (go_at_call 56;(with_reducible refine (PoolAt.putF fd.1 (td,(j:Int)) HATV.out HOUTV.out HLE.out.2 HWJ.out.1 HSP.out).mono ?_);rintro e w5 ⟨rfl,h5,hs5⟩;have HP5:=hI h5;have HS5:=hI hs5;clear h5 hs5)
       go_roundw
       case rel=>exact ⟨j+1,by omega,by go_num,{ Q1 with F:=zD Q1.F fd.1 (td,(j:Int)) },by have:=HN.out;have:=zCm Q1.F fd.1 (td,(j:Int));show (Q1.L).length+(zD Q1.F fd.1 (td,(j:Int))).length<=_;omega,HP5.out.less λ_ k=>.inl k,(HS.out.then (qC HBV'.out)).then' HS5.out λ_ _ k=>.inl k,by rw[HE.out,HPA.out,HPE.out]⟩
       case measure=>simp[intOf];omega
     . obtain ⟨V,hV⟩:∃V,(w2.setCell ⟨W.heap.size,0,none⟩ (.int .i64 ((onT Q1.F fd.2).getD (0,0)).1)).setCell ⟨W.heap.size,1,none⟩ (.int .i64 ((onT Q1.F fd.2).getD (0,0)).2)=V:=⟨_,rfl⟩
       have HBV:Hid (Below W.heap.size W V):=hI (by rw[<- hV];exact (HBB.out.setCell nL _).setCell nL _)
       rw[hV]
       clear hV hb2 n0 n1 n2 n3
       have HBV':Hid (Below wr.heap.size wr V):=hI (HBW.out.trans (HBV.out.mono HBW.out.size))
       obtain ⟨s8,-,-⟩:=HSK.out V HBV.out
       obtain ⟨s7,b0,b1⟩:=HK7.out V HBV.out
       have HATV:=hI (HAT.out.below HBV.out)
       have HOUTV:Hid (∀b,(x b\/b=wr.heap.size)->b<V.heap.size/\¬X b/\¬Y b/\¬Z b/\b≠p):=hI λb k=>⟨Nat.lt_of_lt_of_le (HOUT.out b k).1 HBV.out.size,(HOUT.out b k).2⟩
       go_wp2_with (go_at_call 56;(with_reducible refine (PoolAt.putF fd.1 (td,(j:Int)) HATV.out HOUTV.out HLE.out.2 HWJ.out.1 HSP.out).mono ?_);rintro e w5 ⟨rfl,h5,hs5⟩;have HP5:=hI h5;have HS5:=hI hs5;clear h5 hs5)
       go_roundw
       case rel=>exact ⟨j+1,by omega,by go_num,{ Q1 with F:=zD Q1.F fd.1 (td,(j:Int)) },by have:=HN.out;have:=zCm Q1.F fd.1 (td,(j:Int));show (Q1.L).length+(zD Q1.F fd.1 (td,(j:Int))).length<=_;omega,HP5.out.less λ_ k=>.inl k,(HS.out.then (qC HBV'.out)).then' HS5.out λ_ _ k=>.inl k,by rw[HE.out,HPA.out,HPE.out]⟩
       case measure=>simp[intOf];omega
  . obtain rfl:j=l.length:=by omega
    have HZ:Hid (Q.settle td 0 l=Q1):=hI (by rw[HE.out,List.drop_length];rfl)
    go_wp2_with fail
    go_end0
    rw[HZ.out]
    exact ⟨rfl,HP1.out,HS.out⟩
end
end
section
open Go.RowKit
theorem zZs (n:Nat) (w:World) (h:n<=1000000):Calls Tryz.prog 193 #[.slice none 0 0,.int .i64 n] w λe w'=>∃v,e=.returned v/\w'.ownsRow w.heap.size 71 4 v 0 []/\Below w.heap.size w w':=by
 by_cases h0:n=0
 . subst h0
   go_enter Tryz.func193,Tryz.ntmps193
   go_wp2
   go_ret
   exact ⟨_,rfl,World.ownsRow_nil _ _ _ _,bR⟩
 . obtain ⟨i0,hi,hz0,hz1,hz2⟩:=zGc
   have hrun:=λty=>Lib.run_append_nil_zeros (P:=Tryz.prog) w 62 3 ty 71 i0 _ .i64 .i64 Tryz.underlying62 Tryz.underlying3 hi hz0 n (by omega) (by omega) (by omega) (by rw[hz2];omega)
   have hge:=grownCap_ge w n 0 71
   have hmx:=grownCap_le_maxLen w n 0 71 (by unfold maxLen;omega)
   obtain ⟨G,hG⟩:∃G,G=grownCap w n 0 71:=⟨_,rfl⟩
   rw[<- hG] at hrun hge hmx
   clear hG
   go_enter Tryz.func193,Tryz.ntmps193
   go_wp2_with (at_builtin;refine Lib.wpList_append_run _ rfl _ _ _ _ rfl _ _ rfl rfl _ _ (hrun _) ?_)
   go_ret
   exact ⟨_,rfl,World.ownsRow_made w.drew _ G nL hmx (by simp[Builtin.zeroCells];omega),bR.drew.alloc nL _⟩
theorem zZr (x:Int) (n:Nat) (w:World) (hx:x=n) (h:n<=1000000):Calls Tryz.prog 193 #[.slice none 0 0,.int .i64 x] w λe w'=>∃v,e=.returned v/\w'.ownsRow w.heap.size 71 4 v 0 []/\Below w.heap.size w w':=by
 subst hx
 exact zZs n w h
theorem zQo (g:Nat) (A1 A2:Option Addr) (c1 c2 k:Nat) (l1 l2:List Fd) (w:World) (hg:w.heap[g]? = some (.cells #[.slice A1 l1.length c1,.slice A2 l2.length c2] 62 (0,0)))
 (h1:FLies w A1 l1) (h2:FLies w A2 l2) (e1:A1=none->l1.length=0/\c1=0) (e2:A2=none->l2.length=0/\c2=0) (hl1:l1.length<=400) (hl2:l2.length<=400) :
 Calls Tryz.prog 181 #[.slice (some ⟨g,0,none⟩) 2 k] w λe w'=>∃A c,e=.returned (.slice A (l1++l2).length c)/\FLies w' A (l1++l2)/\(∀ad,A=some ad->w.heap.size<=ad.block)/\Below w.heap.size w w':=by
 have n1:A1=none->l1 = []/\c1=0:=λe=>⟨List.length_eq_zero_iff.1 (e1 e).1,(e1 e).2⟩
 have n2:A2=none->l2 = []/\c2=0:=λe=>⟨List.length_eq_zero_iff.1 (e2 e).1,(e2 e).2⟩
 have N1:=hI n1
 have N2:=hI n2
 clear n1 n2 e1 e2
 have hgl:=qD hg
 have hc0:w.cell? ⟨g,0,none⟩=some (.slice A1 l1.length c1):=by simp[World.cell?,hg]
 have hc1:w.cell? ⟨g,1,none⟩=some (.slice A2 l2.length c2):=by simp[World.cell?,hg]
 go_enter Tryz.func181,Tryz.ntmps181
 go_wp2
 refine wp_loop_rounds 3 ?_
 rw[rounds_succ]
 go_wp2
 rw[rounds_succ]
 go_wp2
 rw[rounds_succ]
 go_wp2_with fail
 refine (zZr _ (l1.length+l2.length) _ (by omega) (by omega)).mono ?_
 rintro e w1 ⟨v,rfl,hown,hb⟩
 obtain ⟨p,cap,rfl,_⟩:=qN hown
 have hs1:=hb.size
 have hc0':w1.cell? ⟨g,0,none⟩=some (.slice A1 l1.length c1):=(hb.cell (p:=⟨g,0,none⟩) hgl).trans hc0
 have hc1':w1.cell? ⟨g,1,none⟩=some (.slice A2 l2.length c2):=(hb.cell (p:=⟨g,1,none⟩) hgl).trans hc1
 have r1:=hI (h1.below hb)
 have r2:=hI (h2.below hb)
 clear hc0 hc1
 go_wp2
 refine wp_loop_rounds 3 ?_
 rw[rounds_succ]
 go_wp2_with (at_builtin;refine yi rfl _ _ rfl w.heap.size _ [] l1 A1 c1 rfl rfl hown r1.out N1.out (by simp;omega) hs1 ?_;intro p1 cap1 w2 hown1 hg1)
 rw[rounds_succ]
 simp only[List.nil_append,List.length_nil,Nat.zero_add] at hown1
 have hb1:=hb.grown hg1 hs1 λk e=>(hown.lt k e).1
 have hs2:=hb1.size
 have hc1'':w2.cell? ⟨g,1,none⟩=some (.slice A2 l2.length c2):=(World.cell?_of_block (hg1.block g (by omega) λe=>by have:=(hown.lt g e.symm).1;omega)).trans hc1'
 have r2':=hI (h2.below hb1)
 clear hc0' hc1'
 go_wp2_with (at_builtin;refine yi rfl _ _ rfl w.heap.size _ l1 l2 A2 c2 rfl rfl hown1 r2'.out N2.out (by omega) hs2 ?_;intro p2 cap2 w3 hown2 hg2)
 rw[rounds_succ]
 have hb2:=hb1.grown hg2 hs2 λk e=>(hown1.lt k e).1
 go_wp2
 go_ret
 exact ⟨p2,cap2,by rw[List.length_append];rfl,hown2.lies.1,hown2.lies.2.2.1,hb2⟩
end
section
open Go.RowKit
section
variable {w w':World} {p c l f:Nat} {x y X Y Z:Nat->Prop} {Q Q1:PS} {T:List Fd}
abbrev Picks (pv:Value) (hot:Bool):Prop:=∀(w:World) (p c l f:Nat) (Q:PS),Parts w p c l f Q->Ok Q->Calls Tryz.prog 146 #[.pointer (some ⟨p,0,none⟩),pv] w λe w'=>e=.returned (.int .i64 (Q.clean hot))/\Below w.heap.size w w'
theorem zDm:Picks (.func (.func 147) #[] #[]) false:=λ_ _ _ _ _ _ h ok=>q_cold h ok
theorem zMp:Picks (.func (.func 188) #[] #[]) true:=λ_ _ _ _ _ _ h ok=>q_hot h ok
theorem zRp {i:Int} (h:Q.num i) (ok:Ok Q):(Lit.int .i64 i).wf=true:=yg (by have:=ok.may.1;have:=h.1;have:=h.2;omega)
theorem here_wf (h:Pool w p c x Q) (i:Int):∀f∈Q.here i,WfP f.1/\WfP f.2:=by
 obtain ⟨l,f,hp⟩:=h.parts
 intro g hg
 have key:∀T:List Fd,g∈inT T i->g∈T:=λT k=>by
  unfold inT at k
  have:=(yT _ []).mem_iff.1 k
  simp at this
  exact this.1
 rcases List.mem_append.1 hg with k | k
 . exact hp.live.ints g (key _ k)
 . exact hp.fresh.ints g (key _ k)
theorem zMk {pv:Value} {hot:Bool} (hpk:Picks pv hot) (i:Int) (n:Nat) {td er:Int} {Q':PS} (h:Pool w p c x Q) (ok:Ok Q) (hi:(Lit.int .i64 i).wf=true) (hm:Q.move n i hot=some (td,er,Q')):Calls Tryz.prog 165 #[.pointer (some ⟨p,0,none⟩),.int .i64 i,pv] w λr w'=>r=.returned (.tuple #[.int .i64 td,.int .i64 er])/\Pool w' p c x Q'/\Safe x w w':=by
 obtain ⟨l,f,hpt⟩:=h.parts
 have c7:=hpt.c7
 have c8:=hpt.c8
 have HT:=hI hpt
 have HP:=hI h
 have HOk:=hI ok
 have HI:=hI hi
 have HM:=hI hm
 have HL:Hid (Q.L.length<=1000/\Q.F.length<=1000):=hI (by have:=ok.tabs;omega)
 have HW:=hI (here_wf h i)
 have HN:Hid ((inT Q.L i).length<=400/\(inT Q.F i).length<=400):=hI (by
  have h1:=zJw Q i
  have h2:=ok.held i
  unfold PS.here at h1
  rw[List.length_append] at h1
  omega)
 have HK:=hI hpk
 clear hpt h ok hi hm hpk
 go_enter Tryz.func165,Tryz.ntmps165
 go_upto_region 1 with fail
 go_region_held3 (λV=>V.cell? ⟨p,7,none⟩=some (.pointer (some ⟨l,0,none⟩))/\V.cell? ⟨p,8,none⟩=some (.pointer (some ⟨f,0,none⟩)))
  (first | exact ⟨c7,c8⟩ | exact ⟨(HT.out.below HB2.out).c7,(HT.out.below HB2.out).c8⟩ | exact ⟨(HT.out.below HB3.out).c7,(HT.out.below HB3.out).c8⟩ | exact ⟨(HT.out.below HB4.out).c7,(HT.out.below HB4.out).c8⟩ | exact ⟨(HT.out.below HB5.out).c7,(HT.out.below HB5.out).c8⟩)
  (first
   | (go_at_call 182;(with_reducible refine (zZh i (HT.out.live.below bR.drew) HL.out.1 HI.out).mono ?_);rintro e w2 ⟨A2,m2,rfl,hf2,ha2,hn2,hb2⟩;have HF2:=hI hf2;have HA2:=hI ha2;have HE2:=hI hn2;have HB2:Hid (Below w.heap.size w w2):=hI (bR.drew.trans hb2);clear hf2 ha2 hn2 hb2)
   | (go_at_call 182;(with_reducible refine (zZh i (HT.out.fresh.below HB2.out) HL.out.2 HI.out).mono ?_);rintro e w3 ⟨A3,m3,rfl,hf3,ha3,hn3,hb3⟩;have HF3:=hI hf3;have HA3:=hI ha3;have HE3:=hI hn3;have HF23:=hI (HF2.out.below hb3);have HB3:Hid (Below w.heap.size w w3):=hI (HB2.out.trans (hb3.mono HB2.out.size));have HB4:Hid (Below w.heap.size w (w3.alloc (.cells #[.slice A2 (inT Q.L i).length m2,.slice A3 (inT Q.F i).length m3] 62))):=hI (HB3.out.alloc HB3.out.size _);clear hf3 ha3 hn3 hb3)
   | (go_at_call 181;refine (zQo _ A2 A3 m2 m3 _ (inT Q.L i) (inT Q.F i) _ (heap_alloc_new w3 _) (HF23.out.below (bR.alloc nL _)) (HF3.out.below (bR.alloc nL _)) HE2.out HE3.out HN.out.1 HN.out.2).mono ?_;rintro e w5 ⟨A5,m5,rfl,hf5,ha5,hb5⟩;have HF5:=hI hf5;have HA5:Hid (∀ad,A5=some ad->w.heap.size<=ad.block):=hI (λad e=>by have:=ha5 ad e;have:=HB4.out.size;omega);have HB5:Hid (Below w.heap.size w w5):=hI (HB4.out.trans (hb5.mono HB4.out.size));clear hf5 ha5 hb5))
 have HPA:Hid (Pool w5 p c (λb=>x b\/New w w5 b) Q):=hI (HP.out.more HB5.out)
 have HFL:Hid (FLies w5 A5 (Q.here i)):=HF5
 have hhl:(inT Q.L i).length+(inT Q.F i).length=(Q.here i).length:=by simp[PS.here]
 rw[hhl]
 have hh4:(Q.here i).length<=400:=by rw[zJw];exact HOk.out.held i
 have HXA:Hid (0<(Q.here i).length->∀ad,A5=some ad->(x ad.block\/New w w5 ad.block)):=hI λhn ad e=>.inr ⟨HA5.out ad e,by obtain ⟨B,o,e2,hB,-⟩:=HFL.out hn;rw[e] at e2;cases e2;exact hB⟩
 clear hhl HF23 HF2 HF3 HA2 HA3 HE2 HE3 HB2 HB3 HB4 c7 c8
 have hpl:=zXx (Q.here i) Q []
 have HOp:=hI (HOk.out.pages (Q.here i) [])
 have HMv:Hid ((if (Q.pages [] (Q.here i)).1=0 then PS.moveLoop (Q.here i) (Q.pages [] (Q.here i)).2.1 hot n (Q.pages [] (Q.here i)).2.2 else some (-1,(Q.pages [] (Q.here i)).1,(Q.pages [] (Q.here i)).2.2))=some (td,er,Q')):=HM
 have HPg:=hI (q_pages A5 m5 (Q.here i) (by omega) HPA.out HFL.out HXA.out)
 have HLS:Hid (Q.L.length+Q.F.length+(Q.here i).length<=900):=hI (by have:=HOk.out.tabs;omega)
 have HWH:=HW
 obtain ⟨H0,hH0⟩:∃H0,H0=Q.here i:=⟨_,rfl⟩
 rw[<- hH0] at HMv HPg HOp hpl HFL HXA hh4 HLS HWH ⊢
 obtain ⟨⟨pe,pg,Q2⟩,hR⟩:∃R,R=Q.pages [] H0:=⟨_,rfl⟩
 rw[<- hR] at HMv HPg HOp hpl
 simp only at HMv HPg HOp hpl
 have hpgl:pg.length<=1000:=by simp at hpl;omega
 clear hR hH0 HM HW hpl
 by_cases hpe:pe=0
 case neg =>
  have HE:Hid (td = -1/\er=pe/\Q'=Q2):=hI (by have:=HMv.out;rw[if_neg hpe] at this;simp at this;exact ⟨this.1.symm,this.2.1.symm,this.2.2.symm⟩)
  go_wp2_with (go_at_call 183;(with_reducible refine HPg.out.mono ?_);rintro e w6 ⟨A6,m6,rfl,hg6,h6,hs6⟩;have HP6:=hI h6;have HS6:=hI hs6;clear hg6 h6 hs6)
  go_ret2
  obtain ⟨e1,e2,e3⟩:=HE.out
  rw[e1,e2,e3]
  exact ⟨rfl,HP6.out.less λb k=>.inl (.inl k),(qC HB5.out).then' HS6.out λ_ _ k=>.inl k⟩
 case pos =>
  subst hpe
  have HML:Hid (PS.moveLoop H0 pg hot n Q2=some (td,er,Q')):=HMv
  clear HMv
  go_wp2_with (go_at_call 183;(with_reducible refine HPg.out.mono ?_);rintro e w6 ⟨A6,m6,rfl,hg6,h6,hs6⟩;have HG6:=hI hg6;have HP6:=hI h6;have HS6:=hI hs6;clear hg6 h6 hs6)
  have hz6:=HS6.out.size
  have hz5:=HB5.out.size
  have HPz:Hid (Pool w6 p c (λb=>x b\/New w w6 b) Q2):=hI (HP6.out.less λb k=>by
   rcases k with k | ⟨k1,k2⟩
   . exact .inl (.inl k)
   . rcases Nat.lt_or_ge b w5.heap.size with e | e
     . exact .inl (.inr ⟨k1,e⟩)
     . exact .inr ⟨e,k2⟩)
  have HGz:Hid (Pgs w6 (λb=>x b\/New w w6 b) A6 pg):=hI (HG6.out.mono λb k=>.inr ⟨Nat.le_trans hz5 k.1,k.2⟩)
  have HFz:Hid (FLies w6 A5 H0):=hI (HFL.out.safe HS6.out HXA.out)
  have HXz:Hid (0<H0.length->∀ad,A5=some ad->(x ad.block\/New w w6 ad.block)):=hI λhn ad e=>(HXA.out hn ad e).imp id λk=>⟨k.1,Nat.lt_of_lt_of_le k.2 hz6⟩
  have HSz:Hid (Safe x w w6):=hI ((qC HB5.out).then' HS6.out λ_ _ k=>.inl k)
  clear HG6 HP6 HPg HS6 HPA HFL HXA
  go_loopg [11,12] n (λk _ _ wr=>∃Q1,Pool wr p c (λb=>x b\/New w w6 b) Q1/\Ok Q1/\PS.moveLoop H0 pg hot k Q1=some (td,er,Q')/\Safe (λb=>x b\/New w w6 b) w6 wr)
  case atStart=>exact ⟨Q2,HPz.out,HOp.out,HML.out,.refl _ _⟩
  case round =>
   obtain ⟨Q1,hP,hO,hM,hS⟩:=hrel
   have HP1:=hI hP
   have HO1:=hI hO
   have HS1:=hI hS
   obtain ⟨l1,f1,hpt1⟩:=hP.parts
   have HT1:=hI hpt1
   have HZ:Hid (∀b,(x b\/New w w6 b)->(x b\/New w w6 b)/\b<w6.heap.size):=hI λb k=>⟨k,HPz.out.there b k⟩
   cases gk with
   | zero=>cases hM
   | succ k1 =>
    obtain ⟨t1,ht1⟩:∃t1,t1=Q1.clean hot:=⟨_,rfl⟩
    obtain ⟨⟨e1,Q3⟩,hF1⟩:∃R,R=Q1.fill t1 0 pg:=⟨_,rfl⟩
    have HMu:Hid ((if t1 = -1 then some (-1,6,Q1) else if ¬Q1.num t1 then none else if e1=0 then (if (Q3.settle t1 0 H0).small then some (t1,0,Q3.settle t1 0 H0) else none) else if Q3.passed e1=0 then PS.moveLoop H0 pg hot k1 Q3 else some (-1,Q3.passed e1,Q3))=some (td,er,Q')):=hI (by
     unfold PS.moveLoop at hM
     rw[<- ht1,<- hF1] at hM;exact hM)
    have HT:=hI ht1
    have HFi:Hid (Q1.fill t1 0 pg=(e1,Q3)):=hI hF1.symm
    have HO3:Hid (Ok Q3):=hI (by have:=hO.fill t1 pg 0;rw[<- hF1] at this;exact this)
    clear hP hO hM hS hpt1 ht1 hF1
    by_cases h1:t1 = -1
    . have HE:Hid (td = -1/\er=6/\Q'=Q1):=hI (by have:=HMu.out;rw[if_pos h1] at this;simp at this;exact ⟨this.1.symm,this.2.1.symm,this.2.2.symm⟩)
      rw[h1] at HT
      clear h1
      go_wp2_with (go_at_call 146;(with_reducible refine (HK.out _ _ _ _ _ _ HT1.out HO1.out).mono ?_);rintro e w7 ⟨rfl,hb7⟩;rw[<- HT.out];have HB7:=hI hb7;clear hb7)
      go_ret2
      obtain ⟨e1,e2,e3⟩:=HE.out
      rw[e1,e2,e3]
      exact ⟨rfl,(HP1.out.below HB7.out).less λb k=>.inl k,(HSz.out.then' HS1.out λ_ _ k=>.inl k).then (qC HB7.out)⟩
    . by_cases h2:Q1.num t1
      case neg=>exact absurd HMu.out (by rw[if_neg h1,if_pos h2];exact λe=>nomatch e)
      case pos =>
       have HTW:=hI (zRp h2 HO1.out)
       have HMv:Hid ((if e1=0 then (if (Q3.settle t1 0 H0).small then some (t1,0,Q3.settle t1 0 H0) else none) else if Q3.passed e1=0 then PS.moveLoop H0 pg hot k1 Q3 else some (-1,Q3.passed e1,Q3))=some (td,er,Q')):=hI (by have:=HMu.out;rw[if_neg h1,if_neg (λk=>k h2)] at this;exact this)
       clear HMu h2
       have hne1:¬t1 = -1:=h1
       clear h1
       by_cases he:e1=0
       . subst he
         have hsm:(Q3.settle t1 0 H0).small:=by
          have:=HMv.out
          rw[if_pos rfl] at this
          by_cases k:(Q3.settle t1 0 H0).small
          . exact k
          . rw[if_neg k] at this;cases this
         have HE:Hid (td=t1/\er=0/\Q'=Q3.settle t1 0 H0):=hI (by have:=HMv.out;rw[if_pos rfl,if_pos hsm] at this;simp at this;exact ⟨this.1.symm,this.2.1.symm,this.2.2.symm⟩)
         have HL3:Hid (Q3.L.length+Q3.F.length+H0.length<=900):=hI (by have:=HO3.out.tabs;omega)
         clear HMv hsm
         go_wp2_with (first
          | (go_at_call 146;(with_reducible refine (HK.out _ _ _ _ _ _ HT1.out HO1.out).mono ?_);rintro e w7 ⟨rfl,hb7⟩;rw[<- HT.out];have HB7:=hI hb7;clear hb7)
          | (go_at_call 184;(with_reducible refine (zXk t1 A6 m6 pg hpgl (HP1.out.below HB7.out) ((HGz.out.safe HS1.out HZ.out).safe (qC HB7.out) (λb k=>⟨k,Nat.lt_of_lt_of_le (HZ.out b k).2 HS1.out.size⟩))).mono ?_);rintro e w8 ⟨rfl,h8,hs8⟩;rw[HFi.out] at h8 ⊢;have HP8:=hI h8;have HS8:Hid (Safe (λb=>x b\/New w w6 b) w6 w8):=hI ((HS1.out.then (qC HB7.out)).then hs8);clear h8 hs8)
          | (go_at_call 185;(with_reducible refine (q_settle t1 A5 m5 H0 HL3.out HP8.out (HFz.out.safe HS8.out HXz.out) HXz.out HWH.out HTW.out).mono ?_);rintro e w9 ⟨rfl,h9,hs9⟩;have HP9:=hI h9;have HS9:=hI hs9;clear h9 hs9))
         go_ret2
         obtain ⟨e1,e2,e3⟩:=HE.out
         rw[e1,e2,e3]
         exact ⟨rfl,HP9.out.less λb k=>.inl k,HSz.out.then' (HS8.out.then HS9.out) λ_ _ k=>.inl k⟩
       . by_cases hp:Q3.passed e1=0
         . have HM2:Hid (PS.moveLoop H0 pg hot k1 Q3=some (td,er,Q')):=hI (by have:=HMv.out;rw[if_neg he,if_pos hp] at this;exact this)
           have HPS:=hI hp
           clear HMv hp
           go_wp2_with (first
            | (go_at_call 146;(with_reducible refine (HK.out _ _ _ _ _ _ HT1.out HO1.out).mono ?_);rintro e w7 ⟨rfl,hb7⟩;rw[<- HT.out];have HB7:=hI hb7;clear hb7)
            | (go_at_call 184;(with_reducible refine (zXk t1 A6 m6 pg hpgl (HP1.out.below HB7.out) ((HGz.out.safe HS1.out HZ.out).safe (qC HB7.out) (λb k=>⟨k,Nat.lt_of_lt_of_le (HZ.out b k).2 HS1.out.size⟩))).mono ?_);rintro e w8 ⟨rfl,h8,hs8⟩;rw[HFi.out] at h8 ⊢;have HP8:=hI h8;have HS8:Hid (Safe (λb=>x b\/New w w6 b) w6 w8):=hI ((HS1.out.then (qC HB7.out)).then hs8);obtain ⟨l8,f8,hpt8⟩:=h8.parts;have HT8:=hI hpt8;clear h8 hs8 hpt8)
            | (go_at_call 120;(with_reducible refine (vy e1 HT8.out HO3.out).mono ?_);rintro e w9 ⟨rfl,hb9⟩;rw[HPS.out];have HB9:=hI hb9;clear hb9))
           go_roundg k1
           case measure=>omega
           case rel=>exact ⟨Q3,HP8.out.below HB9.out,HO3.out,HM2.out,HS8.out.then (qC HB9.out)⟩
         . have HE:Hid (td = -1/\er=Q3.passed e1/\Q'=Q3):=hI (by have:=HMv.out;rw[if_neg he,if_neg hp] at this;simp at this;exact ⟨this.1.symm,this.2.1.symm,this.2.2.symm⟩)
           obtain ⟨e9,he9⟩:∃e9,e9=Q3.passed e1:=⟨_,rfl⟩
           rw[<- he9] at hp
           have HPS:=hI he9
           clear HMv he9
           go_wp2_with (first
            | (go_at_call 146;(with_reducible refine (HK.out _ _ _ _ _ _ HT1.out HO1.out).mono ?_);rintro e w7 ⟨rfl,hb7⟩;rw[<- HT.out];have HB7:=hI hb7;clear hb7)
            | (go_at_call 184;(with_reducible refine (zXk t1 A6 m6 pg hpgl (HP1.out.below HB7.out) ((HGz.out.safe HS1.out HZ.out).safe (qC HB7.out) (λb k=>⟨k,Nat.lt_of_lt_of_le (HZ.out b k).2 HS1.out.size⟩))).mono ?_);rintro e w8 ⟨rfl,h8,hs8⟩;rw[HFi.out] at h8 ⊢;have HP8:=hI h8;have HS8:Hid (Safe (λb=>x b\/New w w6 b) w6 w8):=hI ((HS1.out.then (qC HB7.out)).then hs8);obtain ⟨l8,f8,hpt8⟩:=h8.parts;have HT8:=hI hpt8;clear h8 hs8 hpt8)
            | (go_at_call 120;(with_reducible refine (vy e1 HT8.out HO3.out).mono ?_);rintro e w9 ⟨rfl,hb9⟩;rw[<- HPS.out];have HB9:=hI hb9;clear hb9))
           go_ret2
           obtain ⟨f1,f2,f3⟩:=HE.out
           rw[f1,f2,f3,<- HPS.out]
           exact ⟨rfl,(HP8.out.below HB9.out).less λb k=>.inl k,(HSz.out.then' HS8.out λ_ _ k=>.inl k).then (qC HB9.out)⟩
end
end
section
open Go.RowKit
section
variable {w w':World} {p c l f:Nat} {x y X Y Z:Nat->Prop} {Q Q1:PS} {T:List Fd}
theorem Ok.renew {n:Nat} {d er:Int} {Q':PS} (h:Ok Q) (hm:Q.renew n d=some (er,Q')):Ok Q':=by
 unfold PS.renew at hm
 split at hm
 . split at hm
   . cases hm
   . next h1 =>
     split at hm
     . cases hm;exact (h.move h1).wipe _
     . cases hm;exact h.move h1
 . cases hm;exact h.wipe _
theorem Ok.level {n:Nat} : ∀(k:Nat) (Q:PS) {er:Int} {Q':PS},Ok Q->PS.level n k Q=some (er,Q')->Ok Q':=by
 intro k
 induction k with
 | zero=>intro Q er Q' h hm;cases hm;exact h
 | succ k ih =>
  intro Q er Q' h hm
  unfold PS.level at hm
  split at hm
  . cases hm;exact h
  . split at hm
    . cases hm
    . split at hm
      . cases hm;exact h
      . split at hm
        . cases hm
        . next h1 =>
          split at hm
          . exact ih _ (h.renew h1) hm
          . cases hm;exact h.renew h1
theorem zJj (d:Int) (n:Nat) {er:Int} {Q':PS} (h:Pool w p c x Q) (ok:Ok Q) (hd:Q.num d) (hm:Q.renew n d=some (er,Q')):Calls Tryz.prog 189 #[.pointer (some ⟨p,0,none⟩),.int .i64 d] w λr w'=>r=.returned (.int .i64 er)/\Pool w' p c x Q'/\Safe x w w':=by
 obtain ⟨l,f,hpt⟩:=h.parts
 have HT:=hI hpt
 have HP:=hI h
 have HO:=hI ok
 have HI:=hI (zRp hd ok)
 unfold PS.renew at hm
 by_cases hh:0<Q.held d
 . rw[if_pos hh] at hm
   cases hmv:Q.move n d true with
   | none=>rw[hmv] at hm;cases hm
   | some R =>
    obtain ⟨td,e1,Q1⟩:=R
    rw[hmv] at hm
    simp only at hm
    have HMV:=hI hmv
    have HO1:=hI (ok.move hmv)
    obtain ⟨hn,hhn⟩:∃hn,hn=Q.held d:=⟨_,rfl⟩
    rw[<- hhn] at hh
    have HH:=hI hhn
    have hpos:(0:Int)<(hn:Int):=by omega
    clear hhn hmv h ok hd hpt
    by_cases he:e1=0
    . subst he
      rw[if_pos rfl] at hm
      have HW:Hid (Q1.wipe d=(er,Q')):=hI (by simpa using hm)
      clear hm
      go_enter Tryz.func189,Tryz.ntmps189
      go_upto_region 5 with (first
       | (go_at_call 164;(with_reducible refine (yw d HT.out HO.out HI.out).mono ?_);rintro e w2 ⟨rfl,hb2⟩;rw[<- HH.out];have HB2:=hI hb2;clear hb2)
       | (go_at_call 165;(with_reducible refine (zMk zMp d n (HP.out.below HB2.out) HO.out HI.out HMV.out).mono ?_);rintro e w3 ⟨rfl,h3,hs3⟩;have HP3:=hI h3;have HS3:=hI hs3;clear h3 hs3))
      obtain ⟨l3,f3,hpt3⟩:=HP3.out.parts
      have c0:=hpt3.c0
      clear hpt3
      go_wp2_with (first
       | (go_at_call 166;(with_reducible refine (Pool.erase d HP3.out).mono ?_);rintro e w4 ⟨rfl,h4,hs4⟩;have HP4:=hI h4;have HS4:=hI hs4;obtain ⟨l4,f4,hpt4⟩:=h4.parts;have HT4:=hI hpt4;clear h4 hs4 hpt4)
       | (go_at_call 120;(with_reducible refine (vy _ HT4.out (HO1.out.erase d)).mono ?_);rintro e w5 ⟨rfl,hb5⟩;have HB5:=hI hb5;clear hb5))
      go_ret
      have e1:(Q1.wipe d).1=er:=by rw[HW.out]
      have e2:(Q1.wipe d).2=Q':=by rw[HW.out]
      exact ⟨ret_int e1,by rw[<- e2];exact HP4.out.below HB5.out,((qC HB2.out).then HS3.out).then (HS4.out.then (qC HB5.out))⟩
    . rw[if_neg he] at hm
      have HE:Hid (er=e1/\Q'=Q1):=hI (by simp at hm;exact ⟨hm.1.symm,hm.2.symm⟩)
      clear hm
      go_enter Tryz.func189,Tryz.ntmps189
      go_wp2_with (first
       | (go_at_call 164;(with_reducible refine (yw d HT.out HO.out HI.out).mono ?_);rintro e w2 ⟨rfl,hb2⟩;rw[<- HH.out];have HB2:=hI hb2;clear hb2)
       | (go_at_call 165;(with_reducible refine (zMk zMp d n (HP.out.below HB2.out) HO.out HI.out HMV.out).mono ?_);rintro e w3 ⟨rfl,h3,hs3⟩;have HP3:=hI h3;have HS3:=hI hs3;clear h3 hs3))
      go_ret
      rw[HE.out.1,HE.out.2]
      exact ⟨rfl,HP3.out,(qC HB2.out).then HS3.out⟩
 . rw[if_neg hh] at hm
   have HW:Hid (Q.wipe d=(er,Q')):=hI (by simpa using hm)
   have HH:Hid (Q.held d=0):=hI (by omega)
   clear hh hm h ok hd hpt
   have c0:=HT.out.c0
   go_enter Tryz.func189,Tryz.ntmps189
   go_wp2_with (first
    | (go_at_call 164;(with_reducible refine (yw d HT.out HO.out HI.out).mono ?_);rintro e w2 ⟨rfl,hb2⟩;rw[HH.out];have HB2:=hI hb2;have c0':=(HT.out.below hb2).c0;clear hb2)
    | (go_at_call 166;(with_reducible refine (Pool.erase d (HP.out.below HB2.out)).mono ?_);rintro e w4 ⟨rfl,h4,hs4⟩;have HP4:=hI h4;have HS4:=hI hs4;obtain ⟨l4,f4,hpt4⟩:=h4.parts;have HT4:=hI hpt4;clear h4 hs4 hpt4)
    | (go_at_call 120;(with_reducible refine (vy _ HT4.out (HO.out.erase d)).mono ?_);rintro e w5 ⟨rfl,hb5⟩;have HB5:=hI hb5;clear hb5))
   go_ret
   have e1:(Q.wipe d).1=er:=by rw[HW.out]
   have e2:(Q.wipe d).2=Q':=by rw[HW.out]
   exact ⟨ret_int e1,by rw[<- e2];exact HP4.out.below HB5.out,(qC HB2.out).then (HS4.out.then (qC HB5.out))⟩
end
end
section
open Go.RowKit
section
variable {w w':World} {p c l f:Nat} {x y X Y Z:Nat->Prop} {Q Q1:PS} {T:List Fd}
theorem q_level (n m:Nat) (hmB:Q.B+2=(m:Int)) {er:Int} {Q':PS} (h:Pool w p c x Q) (ok:Ok Q) (hm:PS.level n m Q=some (er,Q')):Calls Tryz.prog 167 #[.pointer (some ⟨p,0,none⟩)] w λr w'=>r=.returned (.int .i64 er)/\Pool w' p c x Q'/\Safe x w w':=by
 obtain ⟨l,f,hpt⟩:=h.parts
 have c1:=hpt.c1
 have HP:=hI h
 have HO:=hI ok
 have HM:=hI hm
 have hB:=ok.may.1
 obtain ⟨B,hBe⟩:∃B,B=Q.B:=⟨_,rfl⟩
 rw[<- hBe] at c1 hB hmB
 clear hBe h ok hm hpt
 have hm66:m<=66:=by omega
 have hmw:B+2=(m:Int):=hmB
 clear hmB
 go_enter Tryz.func167,Tryz.ntmps167
 go_wp2_with fail
 go_loopw [3,4,11] (λ_ _ v11 wr=>∃j:Nat,j<=m/\v11=.int .i64 j/\∃Q1,Pool wr p c x Q1/\Ok Q1/\PS.level n (m - j) Q1=some (er,Q')/\Safe x w wr) (λ_ _ v11 _=>m - (intOf v11).toNat)
 case atStart=>exact ⟨0,Nat.zero_le _,rfl,Q,HP.out,HO.out,HM.out,.refl _ _⟩
 case round =>
  obtain ⟨j,hj,rfl,Q1,hP,hO,hM,hS⟩:=hrel
  have HP1:=hI hP
  have HO1:=hI hO
  have HS1:=hI hS
  obtain ⟨l1,f1,hpt1⟩:=hP.parts
  have HT1:=hI hpt1
  clear hP hS hpt1
  by_cases hj1:j<m
  . obtain ⟨k,hk⟩:∃k,m - j=k+1:=⟨m - j - 1,by omega⟩
    have hk2:m - (j+1)=k:=by omega
    rw[hk] at hM
    unfold PS.level at hM
    have HK2:=hI hk2
    clear hk hk2
    by_cases h1:Q1.due = -1
    . rw[if_pos h1] at hM
      have HE:Hid (er=0/\Q'=Q1):=hI (by simp at hM;exact ⟨hM.1.symm,hM.2.symm⟩)
      have HD:=hI h1
      clear hM hO h1
      go_wp2_with (go_at_call 187;(with_reducible refine (zUd HT1.out HO1.out).mono ?_);rintro e w2 ⟨rfl,hb2⟩;rw[HD.out];have HB2:=hI hb2;clear hb2)
      go_ret
      rw[HE.out.1,HE.out.2]
      exact ⟨rfl,HP1.out.below HB2.out,HS1.out.then (qC HB2.out)⟩
    . rw[if_neg h1] at hM
      by_cases h2:Q1.num Q1.due
      case neg=>rw[if_pos h2] at hM;cases hM
      case pos =>
       rw[if_neg (λk=>k h2)] at hM
       obtain ⟨d,hd⟩:∃d,d=Q1.due:=⟨_,rfl⟩
       rw[<- hd] at h1 h2 hM
       have HD:=hI hd
       have HW:=hI (zRp h2 hO)
       have H2:=hI h2
       clear hd h2 hO
       by_cases h3:0<Q1.held d
       . obtain ⟨hn,hhn⟩:∃hn,hn=Q1.held d:=⟨_,rfl⟩
         rw[<- hhn] at h3 hM
         have HH:=hI hhn
         have hpos:(0:Int)<(hn:Int):=by omega
         clear hhn
         by_cases h4:Q1.clean true = -1
         . rw[if_pos ⟨h3,h4⟩] at hM
           have HE:Hid (er=0/\Q'=Q1):=hI (by simp at hM;exact ⟨hM.1.symm,hM.2.symm⟩)
           have HC:=hI h4
           clear hM h4
           go_wp2_with (first
            | (go_at_call 187;(with_reducible refine (zUd HT1.out HO1.out).mono ?_);rintro e w2 ⟨rfl,hb2⟩;rw[<- HD.out];have HB2:=hI hb2;clear hb2)
            | (go_at_call 164;(with_reducible refine (yw d (HT1.out.below HB2.out) HO1.out HW.out).mono ?_);rintro e w3 ⟨rfl,hb3⟩;rw[<- HH.out];have HB3:=hI (HB2.out.trans (hb3.mono HB2.out.size));clear hb3)
            | (go_at_call 146;(with_reducible refine (q_hot (HT1.out.below HB3.out) HO1.out).mono ?_);rintro e w4 ⟨rfl,hb4⟩;rw[HC.out];have HB4:=hI (HB3.out.trans (hb4.mono HB3.out.size));clear hb4))
           go_ret
           rw[HE.out.1,HE.out.2]
           exact ⟨rfl,HP1.out.below HB4.out,HS1.out.then (qC HB4.out)⟩
         . rw[if_neg (λk=>h4 k.2)] at hM
           obtain ⟨cl,hcl⟩:∃cl,cl=Q1.clean true:=⟨_,rfl⟩
           rw[<- hcl] at h4
           have HC:=hI hcl
           clear hcl
           have h5:(cl == -1)=false:=by simpa using h4
           have h6:decide (cl = -1)=false:=decide_eq_false h4
           cases hr:Q1.renew n d with
           | none=>rw[hr] at hM;cases hM
           | some R =>
            obtain ⟨e1,Q2⟩:=R
            rw[hr] at hM
            simp only at hM
            have HR:=hI hr
            have HO2:=hI (HO1.out.renew hr)
            clear hr
            by_cases he:e1=0
            . subst he
              rw[if_pos rfl] at hM
              have HM2:=hI hM
              clear hM
              go_wp2_with (first
               | (go_at_call 187;(with_reducible refine (zUd HT1.out HO1.out).mono ?_);rintro e w2 ⟨rfl,hb2⟩;rw[<- HD.out];have HB2:=hI hb2;clear hb2)
               | (go_at_call 164;(with_reducible refine (yw d (HT1.out.below HB2.out) HO1.out HW.out).mono ?_);rintro e w3 ⟨rfl,hb3⟩;rw[<- HH.out];have HB3:=hI (HB2.out.trans (hb3.mono HB2.out.size));clear hb3)
               | (go_at_call 146;(with_reducible refine (q_hot (HT1.out.below HB3.out) HO1.out).mono ?_);rintro e w4 ⟨rfl,hb4⟩;rw[<- HC.out];have HB4:=hI (HB3.out.trans (hb4.mono HB3.out.size));clear hb4)
               | (go_at_call 189;(with_reducible refine (zJj d n (HP1.out.below HB4.out) HO1.out H2.out HR.out).mono ?_);rintro e w5 ⟨rfl,h5,hs5⟩;have HP5:=hI h5;have HS5:=hI hs5;clear h5 hs5))
              go_roundw
              case rel=>exact ⟨j+1,by omega,by go_num,Q2,HP5.out,HO2.out,by rw[HK2.out];exact HM2.out,(HS1.out.then (qC HB4.out)).then HS5.out⟩
              case measure=>simp[intOf];omega
            . rw[if_neg he] at hM
              have HE:Hid (er=e1/\Q'=Q2):=hI (by simp at hM;exact ⟨hM.1.symm,hM.2.symm⟩)
              clear hM
              go_wp2_with (first
               | (go_at_call 187;(with_reducible refine (zUd HT1.out HO1.out).mono ?_);rintro e w2 ⟨rfl,hb2⟩;rw[<- HD.out];have HB2:=hI hb2;clear hb2)
               | (go_at_call 164;(with_reducible refine (yw d (HT1.out.below HB2.out) HO1.out HW.out).mono ?_);rintro e w3 ⟨rfl,hb3⟩;rw[<- HH.out];have HB3:=hI (HB2.out.trans (hb3.mono HB2.out.size));clear hb3)
               | (go_at_call 146;(with_reducible refine (q_hot (HT1.out.below HB3.out) HO1.out).mono ?_);rintro e w4 ⟨rfl,hb4⟩;rw[<- HC.out];have HB4:=hI (HB3.out.trans (hb4.mono HB3.out.size));clear hb4)
               | (go_at_call 189;(with_reducible refine (zJj d n (HP1.out.below HB4.out) HO1.out H2.out HR.out).mono ?_);rintro e w5 ⟨rfl,h5,hs5⟩;have HP5:=hI h5;have HS5:=hI hs5;clear h5 hs5))
              go_ret
              rw[HE.out.1,HE.out.2]
              exact ⟨rfl,HP5.out,(HS1.out.then (qC HB4.out)).then HS5.out⟩
       . rw[if_neg (λk=>h3 k.1)] at hM
         have HH:Hid (Q1.held d=0):=hI (by omega)
         clear h3
         cases hr:Q1.renew n d with
         | none=>rw[hr] at hM;cases hM
         | some R =>
          obtain ⟨e1,Q2⟩:=R
          rw[hr] at hM
          simp only at hM
          have HR:=hI hr
          have HO2:=hI (HO1.out.renew hr)
          clear hr
          by_cases he:e1=0
          . subst he
            rw[if_pos rfl] at hM
            have HM2:=hI hM
            clear hM
            go_wp2_with (first
             | (go_at_call 187;(with_reducible refine (zUd HT1.out HO1.out).mono ?_);rintro e w2 ⟨rfl,hb2⟩;rw[<- HD.out];have HB2:=hI hb2;clear hb2)
             | (go_at_call 164;(with_reducible refine (yw d (HT1.out.below HB2.out) HO1.out HW.out).mono ?_);rintro e w3 ⟨rfl,hb3⟩;rw[HH.out];have HB3:=hI (HB2.out.trans (hb3.mono HB2.out.size));clear hb3)
             | (go_at_call 189;(with_reducible refine (zJj d n (HP1.out.below HB3.out) HO1.out H2.out HR.out).mono ?_);rintro e w5 ⟨rfl,h5,hs5⟩;have HP5:=hI h5;have HS5:=hI hs5;clear h5 hs5))
            go_roundw
            case rel=>exact ⟨j+1,by omega,by go_num,Q2,HP5.out,HO2.out,by rw[HK2.out];exact HM2.out,(HS1.out.then (qC HB3.out)).then HS5.out⟩
            case measure=>simp[intOf];omega
          . rw[if_neg he] at hM
            have HE:Hid (er=e1/\Q'=Q2):=hI (by simp at hM;exact ⟨hM.1.symm,hM.2.symm⟩)
            clear hM
            go_wp2_with (first
             | (go_at_call 187;(with_reducible refine (zUd HT1.out HO1.out).mono ?_);rintro e w2 ⟨rfl,hb2⟩;rw[<- HD.out];have HB2:=hI hb2;clear hb2)
             | (go_at_call 164;(with_reducible refine (yw d (HT1.out.below HB2.out) HO1.out HW.out).mono ?_);rintro e w3 ⟨rfl,hb3⟩;rw[HH.out];have HB3:=hI (HB2.out.trans (hb3.mono HB2.out.size));clear hb3)
             | (go_at_call 189;(with_reducible refine (zJj d n (HP1.out.below HB3.out) HO1.out H2.out HR.out).mono ?_);rintro e w5 ⟨rfl,h5,hs5⟩;have HP5:=hI h5;have HS5:=hI hs5;clear h5 hs5))
            go_ret
            rw[HE.out.1,HE.out.2]
            exact ⟨rfl,HP5.out,(HS1.out.then (qC HB3.out)).then HS5.out⟩
  . obtain rfl:j=m:=by omega
    rw[Nat.sub_self] at hM
    have HE:Hid (er=0/\Q'=Q1):=hI (by simp[PS.level] at hM;exact ⟨hM.1.symm,hM.2.symm⟩)
    clear hM hO
    go_wp2_with fail
    go_ret
    rw[HE.out.1,HE.out.2]
    exact ⟨rfl,HP1.out,HS1.out⟩
end
end
section
open Go.RowKit
section
variable {w w':World} {p c l f:Nat} {x y X Y Z:Nat->Prop} {Q Q1:PS} {T:List Fd}
theorem zDx (Q:PS) (j:Nat):Q.fewTo (j+1)=Q.few (Q.fewTo j) j:=by unfold PS.fewTo;rw[List.range_succ,List.foldl_append];rfl
theorem fewTo_at (Q:PS) (j:Nat):(Q.fewTo j).1 = -1\/∃a:Nat,a<j/\(Q.fewTo j).1=(a:Int):=by
 induction j with
 | zero=>exact .inl rfl
 | succ j ih =>
  rw[zDx]
  unfold PS.few
  split
  . exact .inr ⟨j,by omega,rfl⟩
  . rcases ih with h | ⟨a,h1,h2⟩
    . exact .inl h
    . exact .inr ⟨a,by omega,h2⟩
theorem zZy (Q:PS) (ok:Ok Q) (j:Nat) : -9223372036854775808<=(Q.fewTo j).2/\(Q.fewTo j).2<=400:=by
 induction j with
 | zero=>have:=ok.may.2.1;show -9223372036854775808<=Q.P/\Q.P<=400;omega
 | succ j ih =>
  rw[zDx]
  unfold PS.few
  split
  . have:=ok.held (j:Int);show -9223372036854775808<=((Q.held j:Nat):Int)/\((Q.held j:Nat):Int)<=400;omega
  . exact ih
theorem bk_at {Q:PS} {j:Nat} (h:j<Q.S.bl.length):zOk Q (j:Int)=Q.S.bl[j]:=by
 unfold zOk
 rw[Int.toNat_natCast,List.getD_eq_getElem?_getD,List.getElem?_eq_getElem h]
 rfl
theorem zBa (h:Parts w p c l f Q) (ok:Ok Q):Calls Tryz.prog 163 #[.pointer (some ⟨p,0,none⟩)] w λe w'=>e=.returned (.int .i64 Q.fewest)/\Below w.heap.size w w':=by
 have HP:=hI h
 have HO:=hI ok
 have HB1:Hid (1<=Q.S.bl.length):=hI (by have:=ok.lenN;omega)
 have hln:Q.S.bl.length<=1000:=by have:=ok.lenN;omega
 have c0:=h.c0
 clear h ok
 go_enter Tryz.func163,Tryz.ntmps163
 go_upto_region 2 with (go_at_call 21;refine (vR HP.out.chip HB1.out).mono ?_;rintro e w1 ⟨g,cap,rfl,hl1,hb1⟩;have HL1:=hI hl1;have HBw1:=hI hb1;clear hl1 hb1)
 have c2:=(HP.out.below HBw1.out).c2
 clear c0
 go_region
 go_wp2_with fail
 have HBd:=hI HBw1.out.drew
 have HLd:=hI (HL1.out.below bR.drew)
 generalize w1.drew=w2 at HBd HLd ⊢
 clear HBw1 HL1 c2
 go_loopw [4,5,21] (λv4 v5 v21 wr=>∃j:Nat,j<=Q.S.bl.length/\v21=.int .i64 j/\v4=.int .i64 (Q.fewTo j).1/\v5=.int .i64 (Q.fewTo j).2/\Below w2.heap.size w2 wr) (λ_ _ v21 _=>Q.S.bl.length - (intOf v21).toNat)
 case atStart=>exact ⟨0,Nat.zero_le _,rfl,rfl,rfl,bR⟩
 case round =>
  obtain ⟨j,hj,rfl,rfl,rfl,hB⟩:=hrel
  have HB:=hI hB
  have HBw:=hI (HBd.out.trans (hB.mono HBd.out.size))
  clear hB
  by_cases hj1:j<Q.S.bl.length
  . obtain ⟨B,o,hge,hBs,hc⟩:=(HLd.out.below HB.out) (by omega)
    obtain ⟨rfl,rfl⟩:B=g/\o=0:=by cases hge;exact ⟨rfl,rfl⟩
    obtain ⟨k0,k1,k2,A1,n1,c1,k3⟩:=hc j hj1
    rw[Nat.zero_add] at k0 k1 k2 k3
    have HBK:=hI (bk_at hj1)
    have HFN:=hI (zDx Q j)
    have HFW:Hid (∀s,Q.few s j=if (!(Q.S.bl[j].bad||qJ Q.S.bl[j])&&(decide ((Q.held (j:Int):Int)<s.2)||(decide ((Q.held (j:Int):Int)=s.2)&&decide (s.1 ≠ -1)&&decide (Q.S.bl[j].count<(zOk Q s.1).count))))=true then ((j:Int),((Q.held (j:Int):Nat):Int)) else s):=hI λs=>by
     unfold PS.few PS.fewer;rw[bk_at hj1]
    have hat:=fewTo_at Q j
    have h2b:=zZy Q HO.out j
    have HCA:Hid (∀a:Nat,a<j->∀V,Below w2.heap.size w2 V->V.cell? ⟨B,a * 4+2,none⟩=some (.int .i64 (zOk Q (a:Int)).count)):=hI λa ha V hV=>by
     obtain ⟨B',o',e',hB',hc'⟩:=(HLd.out.below hV) (by omega)
     cases e'
     have:=(hc' a (by omega)).2.2.1
     rw[Nat.zero_add] at this
     rw[bk_at (by omega)];exact this
    have HHW:Hid ((Lit.int .i64 (j:Int)).wf=true):=hI (yg (by omega))
    have HHL:=hI (HO.out.held (j:Int))
    clear hc hge
    generalize Q.S.bl[j]=b at k0 k1 k2 HBK HFW
    have HCl:=hI (λw1=>zOf b A1 n1 c1 w1)
    obtain ⟨W,hW⟩:∃W,wr.alloc (.cells #[.bool b.bad,.int .i64 b.next,.int .i64 b.count,.slice A1 n1 c1] 101)=W:=⟨_,rfl⟩
    have HBW:Hid (Below wr.heap.size wr W):=hI (by rw[<- hW];exact bR.alloc nL _)
    have HBX:Hid (∀V,Below W.heap.size W V->V.heap[wr.heap.size]? = some (.cells #[.bool b.bad,.int .i64 b.next,.int .i64 b.count,.slice A1 n1 c1] 101 (0,0))):=hI λV hV=>(hV.block _ (by rw[<- hW];simp)).trans (by rw[<- hW];exact heap_alloc_new _ _)
    obtain ⟨b0,b1,b2,b3⟩:=zCx (HBX.out W bR)
    have HB2W:Hid (Below w2.heap.size w2 W):=hI (HB.out.trans (HBW.out.mono HB.out.size))
    have HBwW:Hid (Below w.heap.size w W):=hI (HBw.out.trans (HBW.out.mono HBw.out.size))
    have hsB:w2.heap.size<=W.heap.size:=HB2W.out.size
    have hsw:w.heap.size<=W.heap.size:=HBwW.out.size
    obtain ⟨⟨fa,ff⟩,hff⟩:∃s,s=Q.fewTo j:=⟨_,rfl⟩
    rw[<- hff] at hat h2b HFN ⊢
    simp only at hat h2b HFN ⊢
    obtain ⟨hn,hhn⟩:∃hn,hn=Q.held (j:Int):=⟨_,rfl⟩
    have HH:=hI hhn
    have hn4:hn<=400:=by rw[hhn];exact HHL.out
    rw[<- hhn] at HFW
    clear hff hhn
    cases hbad:b.bad with
    | true =>
     have HV:Hid (Q.fewTo (j+1)=(fa,ff)):=hI (by rw[HFN.out,HFW.out];simp[hbad])
     rw[hbad] at b0
     clear hat h2b hbad
     go_wp2_with fail
     clear hW
     go_roundw
     case rel=>exact ⟨j+1,by omega,by go_num,by rw[HV.out],by rw[HV.out],HB2W.out⟩
     case measure=>simp[intOf];omega
    | false =>
     have HCl2:Hid (∀w1:World,Calls Tryz.prog 108 #[.agg #[.bool false,.int .i64 b.next,.int .i64 b.count,.slice A1 n1 c1]] w1 λe w'=>e=.returned (.bool (qJ b))/\Below w1.heap.size w1 w'):=hI λw1=>by
      have:=HCl.out w1
      unfold bcV at this
      rw[hbad] at this
      exact this
     cases hcl:qJ b with
     | true =>
      have HV:Hid (Q.fewTo (j+1)=(fa,ff)):=hI (by rw[HFN.out,HFW.out];simp[hcl])
      have HC:=hI hcl
      rw[hbad] at b0
      clear hat h2b hbad hcl
      go_wp2_with (go_at_call 108;(with_reducible refine (HCl2.out _).mono ?_);rintro e w5 ⟨rfl,hb5⟩;rw[HC.out];have HB5:=hI hb5;clear hb5)
      clear hW
      go_roundw
      case rel=>exact ⟨j+1,by omega,by go_num,by rw[HV.out],by rw[HV.out],HB2W.out.trans (HB5.out.mono hsB)⟩
      case measure=>simp[intOf];omega
     | false =>
      have HC:=hI hcl
      have HFW2:Hid (Q.few (fa,ff) j=if (decide ((hn:Int)<ff)||(decide ((hn:Int)=ff)&&decide (fa ≠ -1)&&decide (b.count<(zOk Q fa).count)))=true then ((j:Int),(hn:Int)) else (fa,ff)):=hI (by rw[HFW.out,hbad,hcl];rfl)
      rw[hbad] at b0
      clear hbad hcl HFW
      go_upto_region 8 with (first
       | (go_at_call 108;(with_reducible refine (HCl2.out _).mono ?_);rintro e w5 ⟨rfl,hb5⟩;rw[HC.out];have HB5:=hI hb5;clear hb5)
       | (go_at_call 164;(with_reducible refine (yw (j:Int) (HP.out.below (HBwW.out.trans (HB5.out.mono hsw))) HO.out HHW.out).mono ?_);rintro e w6 ⟨rfl,hb6⟩;rw[<- HH.out];have HB6:=hI (HB5.out.trans (hb6.mono HB5.out.size));clear hb6))
      clear hW
      obtain ⟨d0,d1,d2,d3⟩:=zCx (HBX.out w6 HB6.out)
      have HB26:=hI (HB2W.out.trans (HB6.out.mono hsB))
      clear b0 b1 b2 b3 k0 k1 k2 k3
      by_cases q1:(hn:Int)<ff
      . have HV:Hid (Q.fewTo (j+1)=((j:Int),(hn:Int))):=hI (by rw[HFN.out,HFW2.out];rw[decide_eq_true q1];rfl)
        go_quiet (fail)
        go_wp2_with fail
        go_roundw
        case rel=>exact ⟨j+1,by omega,by go_num,by rw[HV.out],by rw[HV.out],qS HB26.out _⟩
        case measure=>simp[intOf];omega
      . have q1f:decide ((hn:Int)<ff)=false:=decide_eq_false q1
        by_cases q2:(hn:Int)=ff
        . by_cases q3:fa = -1
          . have HV:Hid (Q.fewTo (j+1)=(fa,ff)):=hI (by rw[HFN.out,HFW2.out];simp[q1,q3])
            have q3f:decide (fa ≠ -1)=false:=by simp[q3]
            have q3g:(fa != -1)=false:=by simp[q3]
            go_quiet (fail)
            go_wp2_with fail
            go_roundw
            case rel=>exact ⟨j+1,by omega,by go_num,by rw[HV.out],by rw[HV.out],qS HB26.out _⟩
            case measure=>simp[intOf];omega
          . obtain ⟨a,ha,hae⟩:∃a:Nat,a<j/\fa=(a:Int):=hat.resolve_left q3
            subst hae
            have ca:=HCA.out a ha w6 HB26.out
            have hlt:a<Q.S.bl.length:=by omega
            have q3f:((a:Int) != -1)=true:=by simp
            by_cases q4:b.count<(zOk Q (a:Int)).count
            . have HV:Hid (Q.fewTo (j+1)=((j:Int),(hn:Int))):=hI (by rw[HFN.out,HFW2.out];rw[decide_eq_true q2,decide_eq_true q4,decide_eq_true q3];simp)
              obtain ⟨cc,hcc⟩:∃cc,cc=(zOk Q (a:Int)).count:=⟨_,rfl⟩
              rw[<- hcc] at ca q4
              clear hcc
              go_quiet (fail)
              go_wp2_with fail
              go_roundw
              case rel=>exact ⟨j+1,by omega,by go_num,by rw[HV.out],by rw[HV.out],qS HB26.out _⟩
              case measure=>simp[intOf];omega
            . have HV:Hid (Q.fewTo (j+1)=((a:Int),ff)):=hI (by rw[HFN.out,HFW2.out];rw[decide_eq_false q4,q1f];simp)
              obtain ⟨cc,hcc⟩:∃cc,cc=(zOk Q (a:Int)).count:=⟨_,rfl⟩
              rw[<- hcc] at ca q4
              have q4f:decide (b.count<cc)=false:=decide_eq_false q4
              clear hcc
              go_quiet (fail)
              go_wp2_with fail
              go_roundw
              case rel=>exact ⟨j+1,by omega,by go_num,by rw[HV.out],by rw[HV.out],qS HB26.out _⟩
              case measure=>simp[intOf];omega
        . have HV:Hid (Q.fewTo (j+1)=(fa,ff)):=hI (by rw[HFN.out,HFW2.out];rw[q1f,decide_eq_false q2];rfl)
          have q2f:decide ((hn:Int)=ff)=false:=decide_eq_false q2
          have q2g:((hn:Int)==ff)=false:=by simpa using q2
          go_quiet (fail)
          go_wp2_with fail
          go_roundw
          case rel=>exact ⟨j+1,by omega,by go_num,by rw[HV.out],by rw[HV.out],qS HB26.out _⟩
          case measure=>simp[intOf];omega
  . obtain rfl:j=Q.S.bl.length:=by omega
    go_wp2_with fail
    go_ret
    exact ⟨rfl,HBw.out⟩
end
end
section
open Go.RowKit
section
variable {w w':World} {p c l f:Nat} {x y X Y Z:Nat->Prop} {Q Q1:PS} {T:List Fd}
theorem Ok.wiped {n:Nat} {v er:Int} {Q':PS} (h:Ok Q) (hm:Q.wiped n v=some (er,Q')):Ok Q':=by
 unfold PS.wiped at hm
 split at hm
 . exact Ok.level _ _ (h.wipe v) hm
 . cases hm;exact h.wipe v
theorem Ok.setop (h:Ok Q) {td:Int} (ht:Q.num td):Ok { Q with op:=td } := { h with op:=by have:=ht.1;have:=ht.2;show -1<=td/\td<Q.B;omega }
theorem Ok.empty {n:Nat} {er:Int} {Q':PS} (h:Ok Q) (hm:Q.empty n=some (er,Q')):Ok Q':=by
 unfold PS.empty at hm
 split at hm
 . cases hm;exact h
 . split at hm
   . cases hm
   . split at hm
     . split at hm
       . cases hm
       . next h1 =>
         split at hm
         . split at hm
           . next h2=>exact ((h.move h1).setop h2).wiped hm
           . cases hm
         . cases hm;exact h.move h1
     . exact h.wiped hm
theorem wiped_go {n:Nat} {v er:Int} {Q':PS} (h:(Q.wipe v).1=0) (hm:Q.wiped n v=some (er,Q')):PS.level n (Q.B+2).toNat (Q.wipe v).2=some (er,Q'):=by
 unfold PS.wiped at hm
 rw[if_pos h] at hm;exact hm
theorem zKt {n:Nat} {v er:Int} {Q':PS} (h:(Q.wipe v).1≠0) (hm:Q.wiped n v=some (er,Q')):er=(Q.wipe v).1/\Q'=(Q.wipe v).2:=by
 unfold PS.wiped at hm
 rw[if_neg h] at hm
 have:=Option.some.inj hm
 exact ⟨by rw[this],by rw[this]⟩
theorem zRj (n:Nat) (v:Int) {er:Int} {Q':PS} (ok:Ok Q) (h0:(Q.wipe v).1=0) (hm:Q.wiped n v=some (er,Q')) (h:Pool w p c x (Q.wipe v).2):Calls Tryz.prog 167 #[.pointer (some ⟨p,0,none⟩)] w λr w'=>r=.returned (.int .i64 er)/\Pool w' p c x Q'/\Safe x w w' :=
 q_level n (Q.B+2).toNat (by have:=ok.may.1;show Q.B+2=_;omega) h (ok.wipe v) (wiped_go h0 hm)
theorem zXm (n:Nat) {er:Int} {Q':PS} (h:Pool w p c x Q) (ok:Ok Q) (hm:Q.empty n=some (er,Q')):Calls Tryz.prog 148 #[.pointer (some ⟨p,0,none⟩)] w λr w'=>r=.returned (.int .i64 er)/\Pool w' p c x Q'/\Safe x w w':=by
 obtain ⟨l,f,hpt⟩:=h.parts
 have HT:=hI hpt
 have HP:=hI h
 have HO:=hI ok
 clear h hpt
 unfold PS.empty at hm
 by_cases h1:Q.fewest = -1
 . rw[if_pos h1] at hm
   have HE:Hid (er=6/\Q'=Q):=hI (by simp at hm;exact ⟨hm.1.symm,hm.2.symm⟩)
   have HD:=hI h1
   clear hm h1 ok
   go_enter Tryz.func148,Tryz.ntmps148
   go_wp2_with (go_at_call 163;(with_reducible refine (zBa HT.out HO.out).mono ?_);rintro e w2 ⟨rfl,hb2⟩;rw[HD.out];have HB2:=hI hb2;clear hb2)
   go_ret
   rw[HE.out.1,HE.out.2]
   exact ⟨rfl,HP.out.below HB2.out,qC HB2.out⟩
 . rw[if_neg h1] at hm
   by_cases h2:Q.num Q.fewest
   case neg=>rw[if_pos h2] at hm;cases hm
   case pos =>
    rw[if_neg (λk=>k h2)] at hm
    obtain ⟨v,hv⟩:∃v,v=Q.fewest:=⟨_,rfl⟩
    rw[<- hv] at h1 h2 hm
    have HD:=hI hv
    have HW:=hI (zRp h2 ok)
    clear hv h2
    by_cases h3:0<Q.held v
    . rw[if_pos h3] at hm
      cases hmv:Q.move n v false with
      | none=>rw[hmv] at hm;cases hm
      | some R =>
       obtain ⟨td,e1,Q1⟩:=R
       rw[hmv] at hm
       simp only at hm
       have HMV:=hI hmv
       have HO1:=hI (ok.move hmv)
       obtain ⟨hn,hhn⟩:∃hn,hn=Q.held v:=⟨_,rfl⟩
       rw[<- hhn] at h3
       have HH:=hI hhn
       have hpos:(0:Int)<(hn:Int):=by omega
       clear hhn hmv ok
       by_cases he:e1=0
       . subst he
         rw[if_pos rfl] at hm
         by_cases h4:Q1.num td
         case neg=>rw[if_neg h4] at hm;cases hm
         case pos =>
          rw[if_pos h4] at hm
          have HO2:=hI (HO1.out.setop h4)
          have HWD:=hI hm
          clear hm h4
          obtain ⟨ew,hew⟩:∃ew,ew=(({ Q1 with op:=td } : PS).wipe v).1:=⟨_,rfl⟩
          have HEW:=hI hew
          by_cases h5:ew=0
          . have H5:Hid ((({ Q1 with op:=td } : PS).wipe v).1=0):=hI (HEW.out.symm.trans h5)
            clear h5 HEW hew
            go_enter Tryz.func148,Tryz.ntmps148
            go_upto_region 8 with (first
             | (go_at_call 163;(with_reducible refine (zBa HT.out HO.out).mono ?_);rintro e w2 ⟨rfl,hb2⟩;rw[<- HD.out];have HB2:=hI hb2;clear hb2)
             | (go_at_call 164;(with_reducible refine (yw v (HT.out.below HB2.out) HO.out HW.out).mono ?_);rintro e w3 ⟨rfl,hb3⟩;rw[<- HH.out];have HB3:=hI (HB2.out.trans (hb3.mono HB2.out.size));clear hb3)
             | (go_at_call 165;(with_reducible refine (zMk zDm v n (HP.out.below HB3.out) HO.out HW.out HMV.out).mono ?_);rintro e w4 ⟨rfl,h4,hs4⟩;have HP4:=hI h4;have HS4:=hI hs4;clear h4 hs4))
            obtain ⟨hp5,hs5⟩:=Pool.set (j:=10) (u:=.int .i64 td) (Q' := { Q1 with op:=td }) HP4.out rfl rfl rfl (λl f=>by simp[PS.cells])
            have HP5:=hI hp5
            have HS5:Hid (Safe x w (w4.setCell ⟨p,10,none⟩ (.int .i64 td))):=hI (((qC HB3.out).then HS4.out).then hs5)
            obtain ⟨l4,f4,hpt4⟩:=HP4.out.parts
            have c10:=hpt4.c10
            have fr10:=hpt4.fr 10
            obtain ⟨l5,f5,hpt5⟩:=hp5.parts
            have d0:=hpt5.c0
            clear hp5 hs5 hpt4 hpt5
            go_wp2_with (first
             | (go_at_call 166;(with_reducible refine (Pool.erase v HP5.out).mono ?_);rintro e w6 ⟨rfl,h6,hs6⟩;have HP6:=hI h6;have HS6:=hI hs6;obtain ⟨l6,f6,hpt6⟩:=h6.parts;have HT6:=hI hpt6;clear h6 hs6 hpt6)
             | (go_at_call 120;(with_reducible refine (vy _ HT6.out (HO2.out.erase v)).mono ?_);rintro e w7 ⟨rfl,hb7⟩;(have hz:PS.passed { ({ Q1 with op:=td } : PS) with S:=(qf Q1.S v).2 } (qf Q1.S v).1=0:=H5.out);rw[hz];have HB7:=hI hb7;clear hb7 hz)
             | (go_at_call 167;(with_reducible refine (zRj n v HO2.out H5.out HWD.out (HP6.out.below HB7.out)).mono ?_);rintro e w8 ⟨rfl,h8,hs8⟩;have HP8:=hI h8;have HS8:=hI hs8;clear h8 hs8))
            go_ret
            exact ⟨rfl,HP8.out,HS5.out.then ((HS6.out.then (qC HB7.out)).then HS8.out)⟩
          . have HX:Hid (er=ew/\Q'=(({ Q1 with op:=td } : PS).wipe v).2):=hI (by have k:=zKt (Q := { Q1 with op:=td }) (by rw[<- HEW.out];exact h5) HWD.out;exact ⟨k.1.trans HEW.out.symm,k.2⟩)
            clear hew
            go_enter Tryz.func148,Tryz.ntmps148
            go_upto_region 8 with (first
             | (go_at_call 163;(with_reducible refine (zBa HT.out HO.out).mono ?_);rintro e w2 ⟨rfl,hb2⟩;rw[<- HD.out];have HB2:=hI hb2;clear hb2)
             | (go_at_call 164;(with_reducible refine (yw v (HT.out.below HB2.out) HO.out HW.out).mono ?_);rintro e w3 ⟨rfl,hb3⟩;rw[<- HH.out];have HB3:=hI (HB2.out.trans (hb3.mono HB2.out.size));clear hb3)
             | (go_at_call 165;(with_reducible refine (zMk zDm v n (HP.out.below HB3.out) HO.out HW.out HMV.out).mono ?_);rintro e w4 ⟨rfl,h4,hs4⟩;have HP4:=hI h4;have HS4:=hI hs4;clear h4 hs4))
            obtain ⟨hp5,hs5⟩:=Pool.set (j:=10) (u:=.int .i64 td) (Q' := { Q1 with op:=td }) HP4.out rfl rfl rfl (λl f=>by simp[PS.cells])
            have HP5:=hI hp5
            have HS5:Hid (Safe x w (w4.setCell ⟨p,10,none⟩ (.int .i64 td))):=hI (((qC HB3.out).then HS4.out).then hs5)
            obtain ⟨l4,f4,hpt4⟩:=HP4.out.parts
            have c10:=hpt4.c10
            have fr10:=hpt4.fr 10
            obtain ⟨l5,f5,hpt5⟩:=hp5.parts
            have d0:=hpt5.c0
            clear hp5 hs5 hpt4 hpt5
            go_wp2_with (first
             | (go_at_call 166;(with_reducible refine (Pool.erase v HP5.out).mono ?_);rintro e w6 ⟨rfl,h6,hs6⟩;have HP6:=hI h6;have HS6:=hI hs6;obtain ⟨l6,f6,hpt6⟩:=h6.parts;have HT6:=hI hpt6;clear h6 hs6 hpt6)
             | (go_at_call 120;(with_reducible refine (vy _ HT6.out (HO2.out.erase v)).mono ?_);rintro e w7 ⟨rfl,hb7⟩;(have hz:PS.passed { ({ Q1 with op:=td } : PS) with S:=(qf Q1.S v).2 } (qf Q1.S v).1=ew:=HEW.out.symm);rw[hz];have HB7:=hI hb7;clear hb7 hz))
            go_ret
            rw[HX.out.1,HX.out.2]
            exact ⟨rfl,HP6.out.below HB7.out,HS5.out.then (HS6.out.then (qC HB7.out))⟩
       . rw[if_neg he] at hm
         have HE:Hid (er=e1/\Q'=Q1):=hI (by simp at hm;exact ⟨hm.1.symm,hm.2.symm⟩)
         clear hm
         go_enter Tryz.func148,Tryz.ntmps148
         go_wp2_with (first
          | (go_at_call 163;(with_reducible refine (zBa HT.out HO.out).mono ?_);rintro e w2 ⟨rfl,hb2⟩;rw[<- HD.out];have HB2:=hI hb2;clear hb2)
          | (go_at_call 164;(with_reducible refine (yw v (HT.out.below HB2.out) HO.out HW.out).mono ?_);rintro e w3 ⟨rfl,hb3⟩;rw[<- HH.out];have HB3:=hI (HB2.out.trans (hb3.mono HB2.out.size));clear hb3)
          | (go_at_call 165;(with_reducible refine (zMk zDm v n (HP.out.below HB3.out) HO.out HW.out HMV.out).mono ?_);rintro e w4 ⟨rfl,h4,hs4⟩;have HP4:=hI h4;have HS4:=hI hs4;clear h4 hs4))
         go_ret
         rw[HE.out.1,HE.out.2]
         exact ⟨rfl,HP4.out,(qC HB3.out).then HS4.out⟩
    . rw[if_neg h3] at hm
      have HWD:=hI hm
      have HH:Hid (Q.held v=0):=hI (by omega)
      clear hm h3 ok
      obtain ⟨ew,hew⟩:∃ew,ew=((Q:PS).wipe v).1:=⟨_,rfl⟩
      have HEW:=hI hew
      by_cases h5:ew=0
      . have H5:Hid (((Q:PS).wipe v).1=0):=hI (HEW.out.symm.trans h5)
        clear h5 HEW hew
        go_enter Tryz.func148,Tryz.ntmps148
        go_upto_region 9 with (first
         | (go_at_call 163;(with_reducible refine (zBa HT.out HO.out).mono ?_);rintro e w2 ⟨rfl,hb2⟩;rw[<- HD.out];have HB2:=hI hb2;clear hb2)
         | (go_at_call 164;(with_reducible refine (yw v (HT.out.below HB2.out) HO.out HW.out).mono ?_);rintro e w3 ⟨rfl,hb3⟩;rw[HH.out];have HB3:=hI (HB2.out.trans (hb3.mono HB2.out.size));clear hb3))
        have HP5:=hI (HP.out.below HB3.out)
        have HS5:Hid (Safe x w w3):=hI (qC HB3.out)
        have d0:=(HT.out.below HB3.out).c0
        go_wp2_with (first
         | (go_at_call 166;(with_reducible refine (Pool.erase v HP5.out).mono ?_);rintro e w6 ⟨rfl,h6,hs6⟩;have HP6:=hI h6;have HS6:=hI hs6;obtain ⟨l6,f6,hpt6⟩:=h6.parts;have HT6:=hI hpt6;clear h6 hs6 hpt6)
         | (go_at_call 120;(with_reducible refine (vy _ HT6.out (HO.out.erase v)).mono ?_);rintro e w7 ⟨rfl,hb7⟩;(have hz:PS.passed { (Q:PS) with S:=(qf Q.S v).2 } (qf Q.S v).1=0:=H5.out);rw[hz];have HB7:=hI hb7;clear hb7 hz)
         | (go_at_call 167;(with_reducible refine (zRj n v HO.out H5.out HWD.out (HP6.out.below HB7.out)).mono ?_);rintro e w8 ⟨rfl,h8,hs8⟩;have HP8:=hI h8;have HS8:=hI hs8;clear h8 hs8))
        go_ret
        exact ⟨rfl,HP8.out,HS5.out.then ((HS6.out.then (qC HB7.out)).then HS8.out)⟩
      . have HX:Hid (er=ew/\Q'=((Q:PS).wipe v).2):=hI (by have k:=zKt (Q:=Q) (by rw[<- HEW.out];exact h5) HWD.out;exact ⟨k.1.trans HEW.out.symm,k.2⟩)
        clear hew
        go_enter Tryz.func148,Tryz.ntmps148
        go_upto_region 9 with (first
         | (go_at_call 163;(with_reducible refine (zBa HT.out HO.out).mono ?_);rintro e w2 ⟨rfl,hb2⟩;rw[<- HD.out];have HB2:=hI hb2;clear hb2)
         | (go_at_call 164;(with_reducible refine (yw v (HT.out.below HB2.out) HO.out HW.out).mono ?_);rintro e w3 ⟨rfl,hb3⟩;rw[HH.out];have HB3:=hI (HB2.out.trans (hb3.mono HB2.out.size));clear hb3))
        have HP5:=hI (HP.out.below HB3.out)
        have HS5:Hid (Safe x w w3):=hI (qC HB3.out)
        have d0:=(HT.out.below HB3.out).c0
        go_wp2_with (first
         | (go_at_call 166;(with_reducible refine (Pool.erase v HP5.out).mono ?_);rintro e w6 ⟨rfl,h6,hs6⟩;have HP6:=hI h6;have HS6:=hI hs6;obtain ⟨l6,f6,hpt6⟩:=h6.parts;have HT6:=hI hpt6;clear h6 hs6 hpt6)
         | (go_at_call 120;(with_reducible refine (vy _ HT6.out (HO.out.erase v)).mono ?_);rintro e w7 ⟨rfl,hb7⟩;(have hz:PS.passed { (Q:PS) with S:=(qf Q.S v).2 } (qf Q.S v).1=ew:=HEW.out.symm);rw[hz];have HB7:=hI hb7;clear hb7 hz))
        go_ret
        rw[HX.out.1,HX.out.2]
        exact ⟨rfl,HP6.out.below HB7.out,HS5.out.then (HS6.out.then (qC HB7.out))⟩
end
end
end Go.Proofs.YtinkkmlbhkfmnaaGreat
