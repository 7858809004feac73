/- A part of what the last text proves: PoA, PoP. -/
import Derived.Test.YtinkkmlbhkfmnaaGreatQGt
set_option maxRecDepth 100000
set_option maxHeartbeats 8000000
namespace Go.Proofs.YtinkkmlbhkfmnaaGreat
section
open Go.RowKit
structure PS where
 S:LS
 B:Int
 P:Int
 Sp:Int
 K:Int
 U:Int
 bad:Int
 L:List Fd
 F:List Fd
 seq:Int
 op:Int
 down:Bool
def PS.cells (Q:PS) (c l f:Nat):Array Value :=
 #[.pointer (some ⟨c,0,none⟩),.int .i64 Q.B,.int .i64 Q.P,.int .i64 Q.Sp,.int .i64 Q.K,.int .i64 Q.U,.int .i64 Q.bad,.pointer (some ⟨l,0,none⟩),.pointer (some ⟨f,0,none⟩),.int .i64 Q.seq,.int .i64 Q.op,.bool Q.down]
abbrev Off (w:World) (X:Nat->Prop) (b:Nat):Prop:=b<w.heap.size/\¬X b
abbrev New (w w':World) (b:Nat):Prop:=w.heap.size<=b/\b<w'.heap.size
structure PoolAt (w:World) (p c l f:Nat) (X Y Z:Nat->Prop) (Q:PS):Prop where
 self:w.heap[p]? = some (.cells (Q.cells c l f) 92 (0,0))
 chip:Held w c (Off w X) Q.S
 live:Tab w l (Off w Y) Q.L
 fresh:Tab w f (Off w Z) Q.F
 xy:∀b,X b->¬Y b/\¬Z b/\b≠p/\b<w.heap.size
 yz:∀b,Y b->¬Z b/\b≠p/\b<w.heap.size
 zp:∀b,Z b->b≠p/\b<w.heap.size
def Pool (w:World) (p c:Nat) (x:Nat->Prop) (Q:PS):Prop:=∃l f X Y Z,PoolAt w p c l f X Y Z Q/\∀b,x b->b<w.heap.size/\¬X b/\¬Y b/\¬Z b/\b≠p
section
variable {w w':World} {p c l f:Nat} {x y X Y Z:Nat->Prop} {Q Q':PS} {S:LS} {T:List Fd}
theorem Turned.mono' {F G:Nat->Prop} {a b:World} (h:Turned F a b) (hG:∀i,F i->G i):Turned G a b:=⟨h.os,h.tape,h.output,h.size,λi hi k=>h.block i hi λf=>k (hG i f)⟩
theorem Held.grow (h:Held w c x S) (ht:Turned x w w'):Held w' c (λb=>x b\/New w w' b) S:=by
 obtain ⟨q,cap,g,C,h1,h2⟩:=h
 refine ⟨q,cap,g,C,h1.turned ht λb hb hx=>(h2 b hx).2 hb,λb hx=>?_⟩
 rcases hx with hx | ⟨h3,h4⟩
 . exact ⟨Nat.lt_of_lt_of_le (h2 b hx).1 ht.size,(h2 b hx).2⟩
 . exact ⟨h4,λho=>by have:=h1.lt b ho;omega⟩
theorem vN {b:Nat} (_hs:w.heap.size<=w'.heap.size) (h:Off w' X b):Off w X b\/New w w' b:=by
 rcases Nat.lt_or_ge b w.heap.size with k | k
 . exact .inl ⟨k,h.2⟩
 . exact .inr ⟨k,h.1⟩
theorem Pool.grow (h:Pool w p c x Q) (ht:Turned x w w'):Pool w' p c (λb=>x b\/New w w' b) Q:=by
 obtain ⟨l,f,X,Y,Z,h1,h2⟩:=h
 have hs:=ht.size
 have h0:=qD h1.self
 have hp:w'.heap[p]? = w.heap[p]? := ht.block p h0 λk=>(h2 p k).2.2.2.2 rfl
 refine ⟨l,f,X,Y,Z,⟨hp.trans h1.self,?_,?_,?_,λb hb=>?_,λb hb=>?_,λb hb=>?_⟩,λb hb=>?_⟩
 . refine (h1.chip.grow (ht.mono' λb hb=>⟨(h2 b hb).1,(h2 b hb).2.1⟩)).less λb hb=>vN hs hb
 . exact (h1.live.grow (ht.mono' λb hb=>⟨(h2 b hb).1,(h2 b hb).2.2.1⟩)).less λb hb=>vN hs hb
 . exact (h1.fresh.grow (ht.mono' λb hb=>⟨(h2 b hb).1,(h2 b hb).2.2.2.1⟩)).less λb hb=>vN hs hb
 . obtain ⟨a,b1,c1,d⟩:=h1.xy b hb;exact ⟨a,b1,c1,by omega⟩
 . obtain ⟨a,b1,d⟩:=h1.yz b hb;exact ⟨a,b1,by omega⟩
 . obtain ⟨a,d⟩:=h1.zp b hb;exact ⟨a,by omega⟩
 . rcases hb with hb | ⟨k1,k2⟩
   . obtain ⟨a,r⟩:=h2 b hb;exact ⟨by omega,r⟩
   . refine ⟨k2,λk=>?_,λk=>?_,λk=>?_,λk=>?_⟩
     . have:=(h1.xy b k).2.2.2;omega
     . have:=(h1.yz b k).2.2;omega
     . have:=(h1.zp b k).2;omega
     . omega
theorem Pool.less (h:Pool w p c x Q) (hy:∀b,y b->x b):Pool w p c y Q:=by
 obtain ⟨l,f,X,Y,Z,h1,h2⟩:=h
 exact ⟨l,f,X,Y,Z,h1,λb hb=>h2 b (hy b hb)⟩
theorem Pool.turned (h:Pool w p c x Q) (ht:Turned x w w'):Pool w' p c x Q:=(h.grow ht).less λ_ k=>.inl k
theorem Pool.more (h:Pool w p c x Q) (hb:Below w.heap.size w w'):Pool w' p c (λb=>x b\/New w w' b) Q:=h.grow (.of_below hb)
theorem Pool.below (h:Pool w p c x Q) (hb:Below w.heap.size w w'):Pool w' p c x Q:=h.turned (.of_below hb)
theorem Pool.there (h:Pool w p c x Q):∀b,x b->b<w.heap.size:=by
 obtain ⟨l,f,X,Y,Z,h1,h2⟩:=h
 exact λb hb=>(h2 b hb).1
theorem PoolAt.chip_op (h:PoolAt w p c l f X Y Z Q) (h2:∀b,x b->b<w.heap.size/\¬X b/\¬Y b/\¬Z b/\b≠p) (hc:Held w' c (Off w X) S) (hs:Safe (Off w X) w w'):Pool w' p c x { Q with S:=S } /\ Safe x w w':=by
 have hz:=hs.size
 have h0:=qD h.self
 have ht:∀V:Nat->Prop,(∀b,V b->¬X b)->Turned (Off w V) w w':=λV hV=>⟨hs.os,hs.tape,hs.output,hs.size,λi hi k=>hs.block hi ⟨hi,λkx=>k ⟨hi,λkv=>hV i kv kx⟩⟩⟩
 refine ⟨⟨l,f,λb=>X b\/New w w' b,Y,Z,⟨?_,?_,?_,?_,λb hb=>?_,λb hb=>?_,λb hb=>?_⟩,λb hb=>?_⟩,⟨hs.os,hs.tape,hs.output,hs.size,λi hi k=>hs.block hi ⟨hi,λkx=>k λkk=>(h2 i kk).2.1 kx⟩⟩⟩
 . exact (hs.block h0 ⟨h0,λk=>(h.xy p k).2.2.1 rfl⟩).trans h.self
 . exact hc.less λb hb=>by
    rcases vN (X:=X) hz ⟨hb.1,λk=>hb.2 (.inl k)⟩ with k | k
    . exact k
    . exact absurd (.inr k) hb.2
 . exact (h.live.grow (ht Y λb hb hx=>(h.xy b hx).1 hb)).less λb hb=>vN hz hb
 . exact (h.fresh.grow (ht Z λb hb hx=>(h.xy b hx).2.1 hb)).less λb hb=>vN hz hb
 . rcases hb with hb | ⟨k1,k2⟩
   . obtain ⟨a,b1,c1,d⟩:=h.xy b hb;exact ⟨a,b1,c1,by omega⟩
   . exact ⟨λk=>by have:=(h.yz b k).2.2;omega,λk=>by have:=(h.zp b k).2;omega,by omega,k2⟩
 . obtain ⟨a,b1,d⟩:=h.yz b hb;exact ⟨a,b1,by omega⟩
 . obtain ⟨a,d⟩:=h.zp b hb;exact ⟨a,by omega⟩
 . obtain ⟨a,b1,c1,d,e⟩:=h2 b hb
   exact ⟨by omega,λk=>k.elim b1 λk=>by have:=k.1;omega,c1,d,e⟩
theorem PoolAt.chip_read (h:PoolAt w p c l f X Y Z Q) (h2:∀b,x b->b<w.heap.size/\¬X b/\¬Y b/\¬Z b/\b≠p) (hc:Held w' c (λb=>Off w X b\/New w w' b) S) (hs:Safe (Off w X) w w'):Pool w' p c (λb=>x b\/New w w' b) { Q with S:=S } /\ Safe x w w':=by
 have hz:=hs.size
 have h0:=qD h.self
 have ht:∀V:Nat->Prop,(∀b,V b->¬X b)->Turned (Off w V) w w':=λV hV=>⟨hs.os,hs.tape,hs.output,hs.size,λi hi k=>hs.block hi ⟨hi,λkx=>k ⟨hi,λkv=>hV i kv kx⟩⟩⟩
 refine ⟨⟨l,f,X,Y,Z,⟨?_,?_,?_,?_,λb hb=>?_,λb hb=>?_,λb hb=>?_⟩,λb hb=>?_⟩,⟨hs.os,hs.tape,hs.output,hs.size,λi hi k=>hs.block hi ⟨hi,λkx=>k λkk=>(h2 i kk).2.1 kx⟩⟩⟩
 . exact (hs.block h0 ⟨h0,λk=>(h.xy p k).2.2.1 rfl⟩).trans h.self
 . exact hc.less λb hb=>vN hz hb
 . exact (h.live.grow (ht Y λb hb hx=>(h.xy b hx).1 hb)).less λb hb=>vN hz hb
 . exact (h.fresh.grow (ht Z λb hb hx=>(h.xy b hx).2.1 hb)).less λb hb=>vN hz hb
 . obtain ⟨a,b1,c1,d⟩:=h.xy b hb;exact ⟨a,b1,c1,by omega⟩
 . obtain ⟨a,b1,d⟩:=h.yz b hb;exact ⟨a,b1,by omega⟩
 . obtain ⟨a,d⟩:=h.zp b hb;exact ⟨a,by omega⟩
 . rcases hb with hb | ⟨k1,k2⟩
   . obtain ⟨a,r⟩:=h2 b hb;exact ⟨by omega,r⟩
   . refine ⟨k2,λk=>?_,λk=>?_,λk=>?_,λk=>?_⟩
     . have:=(h.xy b k).2.2.2;omega
     . have:=(h.yz b k).2.2;omega
     . have:=(h.zp b k).2;omega
     . omega
theorem PoolAt.live_op (h:PoolAt w p c l f X Y Z Q) (h2:∀b,x b->b<w.heap.size/\¬X b/\¬Y b/\¬Z b/\b≠p) (hc:Tab w' l (Off w Y) T) (hs:Safe (Off w Y) w w'):Pool w' p c x { Q with L:=T } /\ Safe x w w':=by
 have hz:=hs.size
 have h0:=qD h.self
 have ht:∀V:Nat->Prop,(∀b,V b->¬Y b)->Turned (Off w V) w w':=λV hV=>⟨hs.os,hs.tape,hs.output,hs.size,λi hi k=>hs.block hi ⟨hi,λkx=>k ⟨hi,λkv=>hV i kv kx⟩⟩⟩
 refine ⟨⟨l,f,X,λb=>Y b\/New w w' b,Z,⟨?_,?_,?_,?_,λb hb=>?_,λb hb=>?_,λb hb=>?_⟩,λb hb=>?_⟩,⟨hs.os,hs.tape,hs.output,hs.size,λi hi k=>hs.block hi ⟨hi,λkx=>k λkk=>(h2 i kk).2.2.1 kx⟩⟩⟩
 . exact (hs.block h0 ⟨h0,λk=>(h.yz p k).2.1 rfl⟩).trans h.self
 . exact (h.chip.grow (ht X λb hb hx=>(h.xy b hb).1 hx)).less λb hb=>vN hz hb
 . exact hc.less λb hb=>by
    rcases vN (X:=Y) hz ⟨hb.1,λk=>hb.2 (.inl k)⟩ with k | k
    . exact k
    . exact absurd (.inr k) hb.2
 . exact (h.fresh.grow (ht Z λb hb hx=>(h.yz b hx).1 hb)).less λb hb=>vN hz hb
 . obtain ⟨a,b1,c1,d⟩:=h.xy b hb;exact ⟨λk=>k.elim a λk=>by have:=k.1;omega,b1,c1,by omega⟩
 . rcases hb with hb | ⟨k1,k2⟩
   . obtain ⟨a,b1,d⟩:=h.yz b hb;exact ⟨a,b1,by omega⟩
   . exact ⟨λk=>by have:=(h.zp b k).2;omega,by omega,k2⟩
 . obtain ⟨a,d⟩:=h.zp b hb;exact ⟨a,by omega⟩
 . obtain ⟨a,b1,c1,d,e⟩:=h2 b hb
   exact ⟨by omega,b1,λk=>k.elim c1 λk=>by have:=k.1;omega,d,e⟩
theorem PoolAt.fresh_op (h:PoolAt w p c l f X Y Z Q) (h2:∀b,x b->b<w.heap.size/\¬X b/\¬Y b/\¬Z b/\b≠p) (hc:Tab w' f (Off w Z) T) (hs:Safe (Off w Z) w w'):Pool w' p c x { Q with F:=T } /\ Safe x w w':=by
 have hz:=hs.size
 have h0:=qD h.self
 have ht:∀V:Nat->Prop,(∀b,V b->¬Z b)->Turned (Off w V) w w':=λV hV=>⟨hs.os,hs.tape,hs.output,hs.size,λi hi k=>hs.block hi ⟨hi,λkx=>k ⟨hi,λkv=>hV i kv kx⟩⟩⟩
 refine ⟨⟨l,f,X,Y,λb=>Z b\/New w w' b,⟨?_,?_,?_,?_,λb hb=>?_,λb hb=>?_,λb hb=>?_⟩,λb hb=>?_⟩,⟨hs.os,hs.tape,hs.output,hs.size,λi hi k=>hs.block hi ⟨hi,λkx=>k λkk=>(h2 i kk).2.2.2.1 kx⟩⟩⟩
 . exact (hs.block h0 ⟨h0,λk=>(h.zp p k).1 rfl⟩).trans h.self
 . exact (h.chip.grow (ht X λb hb hx=>(h.xy b hb).2.1 hx)).less λb hb=>vN hz hb
 . exact (h.live.grow (ht Y λb hb hx=>(h.yz b hb).1 hx)).less λb hb=>vN hz hb
 . exact hc.less λb hb=>by
    rcases vN (X:=Z) hz ⟨hb.1,λk=>hb.2 (.inl k)⟩ with k | k
    . exact k
    . exact absurd (.inr k) hb.2
 . obtain ⟨a,b1,c1,d⟩:=h.xy b hb;exact ⟨a,λk=>k.elim b1 λk=>by have:=k.1;omega,c1,by omega⟩
 . obtain ⟨a,b1,d⟩:=h.yz b hb;exact ⟨λk=>k.elim a λk=>by have:=k.1;omega,b1,by omega⟩
 . rcases hb with hb | ⟨k1,k2⟩
   . obtain ⟨a,d⟩:=h.zp b hb;exact ⟨a,by omega⟩
   . exact ⟨by omega,k2⟩
 . obtain ⟨a,b1,c1,d,e⟩:=h2 b hb
   exact ⟨by omega,b1,c1,λk=>k.elim d λk=>by have:=k.1;omega,e⟩
theorem Pool.set {j:Nat} {u:Value} (h:Pool w p c x Q) (hS:Q'.S=Q.S) (hL:Q'.L=Q.L) (hF:Q'.F=Q.F) (hc:∀l f,(Q.cells c l f).setIfInBounds j u=Q'.cells c l f):Pool (w.setCell ⟨p,j,none⟩ u) p c x Q'/\Safe x w (w.setCell ⟨p,j,none⟩ u):=by
 obtain ⟨l,f,X,Y,Z,h1,h2⟩:=h
 have hf:∀b,b≠p->(w.setCell ⟨p,j,none⟩ u).heap[b]? = w.heap[b]? := λb hb=>Below.heap_setCell w ⟨p,j,none⟩ u b hb
 have hz:(w.setCell ⟨p,j,none⟩ u).heap.size=w.heap.size:=by simp
 have ht:∀V:Nat->Prop,(∀b,V b->b≠p)->Turned (Off w V) w (w.setCell ⟨p,j,none⟩ u):=λV hV=>(Turned.refl _ w).setCell (λhp=>⟨hp,λk=>hV p k rfl⟩) u
 refine ⟨⟨l,f,X,Y,Z,⟨?_,?_,?_,?_,λb hb=>by rw[hz];exact h1.xy b hb,λb hb=>by rw[hz];exact h1.yz b hb,λb hb=>by rw[hz];exact h1.zp b hb⟩,λb hb=>by rw[hz];exact h2 b hb⟩,⟨rfl,rfl,rfl,by omega,λi hi k=>hf i λe=>k λhx=>(h2 i hx).2.2.2.2 e⟩⟩
 . rw[heap_setCell_same w p j _ _ u h1.self,hc]
 . rw[hS];exact (h1.chip.grow (ht X λb hb=>(h1.xy b hb).2.2.1)).less λb hb=>.inl ⟨by rw[<- hz];exact hb.1,hb.2⟩
 . rw[hL];exact (h1.live.grow (ht Y λb hb=>(h1.yz b hb).2.1)).less λb hb=>.inl ⟨by rw[<- hz];exact hb.1,hb.2⟩
 . rw[hF];exact (h1.fresh.grow (ht Z λb hb=>(h1.zp b hb).1)).less λb hb=>.inl ⟨by rw[<- hz];exact hb.1,hb.2⟩
end
end
section
open Go.RowKit
def PS.bads (Q:PS):Int:=(qx Q.S.bl:Int) - Q.bad
def PS.over (Q:PS):Bool:=decide (Q.Sp<Q.bads)
def PS.held (Q:PS) (i:Int):Nat:=vU Q.L i+vU Q.F i
def PS.at (Q:PS) (r:P2):Option P2:=if (atT Q.F r).isSome=true then atT Q.F r else atT Q.L r
def PS.gone (Q:PS):PS := { Q with down:=Q.down||Q.S.dark }
def PS.undo (Q:PS):PS := { Q with F:=[] }
def PS.passed (Q:PS) (e:Int):Int:=if e≠3 then e else if Q.over=true then 6 else 0
def PS.floor (Q:PS):Int:=zAj Q.B Q.P Q.Sp Q.K Q.U Q.bads
def PS.counts (Q:PS):List Int:=Q.S.bl.map λb:Bk=>b.count
def vQ (l:List Bk) (op:Int):List Bool:=(qK l).foldl (λa i=>a.set i.toNat (i != op)) (List.replicate l.length false)
def PS.clean (Q:PS) (hot:Bool):Int:=if hot=true then hotP (Q.counts.zip (vQ Q.S.bl Q.op)) else zCb (Q.counts.zip (vQ Q.S.bl Q.op))
def zAf (l:List Bk) (op:Int):List Bool:=if op = -1 then l.map (λb:Bk => !b.bad) else (l.map (λb:Bk => !b.bad)).set op.toNat false
def PS.due (Q:PS):Int:=dueP (Q.counts.zip (zAf Q.S.bl Q.op)) Q.U
def zOk (Q:PS) (i:Int):Bk:=Q.S.bl.getD i.toNat noB
def PS.fewer (Q:PS) (s:Int × Int) (i:Nat):Bool :=
 !((zOk Q i).bad||qJ (zOk Q i))&&(decide ((Q.held i:Int)<s.2)||(decide ((Q.held i:Int)=s.2)&&decide (s.1 ≠ -1)&&decide ((zOk Q i).count<(zOk Q s.1).count)))
def PS.few (Q:PS) (s:Int × Int) (i:Nat):Int × Int:=if Q.fewer s i=true then (i,Q.held i) else s
def PS.fewTo (Q:PS) (k:Nat):Int × Int:=(List.range k).foldl Q.few (-1,Q.P)
def PS.fewest (Q:PS):Int:=(Q.fewTo Q.S.bl.length).1
def PS.pages:PS->List (List UInt8)->List Fd->Int × List (List UInt8) × PS
 | Q,acc,[]=>(0,acc,Q)
 | Q,acc,f::r=>if (rdL Q.S f.2.1 f.2.2).2.1=0 then PS.pages { Q with S:=(rdL Q.S f.2.1 f.2.2).2.2 } (acc++[(rdL Q.S f.2.1 f.2.2).1]) r else ((rdL Q.S f.2.1 f.2.2).2.1,[],{ Q with S:=(rdL Q.S f.2.1 f.2.2).2.2 })
def PS.fill:PS->Int->Nat->List (List UInt8)->Int × PS
 | Q,_,_,[]=>(0,Q)
 | Q,td,i,b::r=>if (qU Q.S td i b).1=0 then PS.fill { Q with S:=(qU Q.S td i b).2 } td (i+1) r else ((qU Q.S td i b).1,{ Q with S:=(qU Q.S td i b).2 })
def PS.put1 (Q:PS) (td:Int) (i:Nat) (f:Fd):PS:=if (onT Q.F f.2).isSome=true then { Q with F:=zD Q.F f.1 (td,i) } else { Q with L:=zD Q.L f.1 (td,i) }
def PS.settle:PS->Int->Nat->List Fd->PS
 | Q,_,_,[]=>Q
 | Q,td,i,f::r=>(Q.put1 td i f).settle td (i+1) r
abbrev PS.small (Q:PS):Prop:=Q.L.length<=200/\Q.F.length<=200
abbrev PS.num (Q:PS) (i:Int):Prop:=0<=i/\i<Q.B
def PS.moveLoop (l:List Fd) (pg:List (List UInt8)) (hot:Bool):Nat->PS->Option (Int × Int × PS)
 | 0,_=>none
 | n+1,Q =>
  if Q.clean hot = -1 then some (-1,6,Q)
  else if ¬Q.num (Q.clean hot) then none
  else if (Q.fill (Q.clean hot) 0 pg).1=0 then (if ((Q.fill (Q.clean hot) 0 pg).2.settle (Q.clean hot) 0 l).small then some (Q.clean hot,0,(Q.fill (Q.clean hot) 0 pg).2.settle (Q.clean hot) 0 l) else none)
  else if (Q.fill (Q.clean hot) 0 pg).2.passed (Q.fill (Q.clean hot) 0 pg).1=0 then PS.moveLoop l pg hot n (Q.fill (Q.clean hot) 0 pg).2
  else some (-1,(Q.fill (Q.clean hot) 0 pg).2.passed (Q.fill (Q.clean hot) 0 pg).1,(Q.fill (Q.clean hot) 0 pg).2)
def PS.here (Q:PS) (i:Int):List Fd:=inT Q.L i++inT Q.F i
def PS.move (n:Nat) (Q:PS) (i:Int) (hot:Bool):Option (Int × Int × PS) :=
 if (Q.pages [] (Q.here i)).1=0 then PS.moveLoop (Q.here i) (Q.pages [] (Q.here i)).2.1 hot n (Q.pages [] (Q.here i)).2.2
 else some (-1,(Q.pages [] (Q.here i)).1,(Q.pages [] (Q.here i)).2.2)
def PS.wipe (Q:PS) (i:Int):Int × PS:=(({ Q with S:=(qf Q.S i).2 } : PS).passed (qf Q.S i).1,{ Q with S:=(qf Q.S i).2 })
def PS.renew (n:Nat) (Q:PS) (d:Int):Option (Int × PS) :=
 if 0<Q.held d then
  match Q.move n d true with
  | none=>none
  | some (_,e,Q1)=>if e=0 then some (Q1.wipe d) else some (e,Q1)
 else some (Q.wipe d)
def PS.level (n:Nat):Nat->PS->Option (Int × PS)
 | 0,Q=>some (0,Q)
 | k+1,Q =>
  if Q.due = -1 then some (0,Q)
  else if ¬Q.num Q.due then none
  else if 0<Q.held Q.due/\Q.clean true = -1 then some (0,Q)
  else match Q.renew n Q.due with
   | none=>none
   | some (e,Q1)=>if e=0 then PS.level n k Q1 else some (e,Q1)
def PS.wiped (n:Nat) (Q:PS) (v:Int):Option (Int × PS):=if (Q.wipe v).1=0 then PS.level n (Q.B+2).toNat (Q.wipe v).2 else some (Q.wipe v)
def PS.empty (n:Nat) (Q:PS):Option (Int × PS) :=
 if Q.fewest = -1 then some (6,Q)
 else if ¬Q.num Q.fewest then none
 else if 0<Q.held Q.fewest then
  match Q.move n Q.fewest false with
  | none=>none
  | some (td,e,Q1)=>if e=0 then (if Q1.num td then PS.wiped n { Q1 with op:=td } Q.fewest else none) else some (e,Q1)
 else PS.wiped n Q Q.fewest
def PS.shut (Q:PS):PS:=if Q.op ≠ -1/\zAc (qI Q.S Q.op) Q.P=0 then { Q with op := -1 } else Q
def PS.beginLoop (n:Nat):Nat->PS->Option (Int × PS)
 | 0,_=>none
 | k+1,Q =>
  if Q.op ≠ -1 then some (0,Q)
  else if Q.floor<((qK Q.S.bl).length:Int) then (if Q.num (Q.clean false) then some (0,{ Q with op:=Q.clean false }) else none)
  else match Q.empty n with
   | none=>none
   | some (e,Q1)=>if e=0 then PS.beginLoop n k Q1 else some (e,Q1)
def PS.begin (n:Nat) (Q:PS):Option (Int × PS):=PS.beginLoop n n Q.shut
def PS.nextAt (Q:PS):P2:=(Q.op,(qI Q.S Q.op).next)
def PS.write (n:Nat) (b:List UInt8):Nat->PS->Option (P2 × Int × PS)
 | 0,_=>none
 | k+1,Q =>
  match Q.begin n with
  | none=>none
  | some (e,Q1) =>
   if e=0 then
    (if (qU Q1.S Q1.nextAt.1 Q1.nextAt.2 b).1=0 then some (Q1.nextAt,0,{ Q1 with S:=(qU Q1.S Q1.nextAt.1 Q1.nextAt.2 b).2 })
    else if ({ Q1 with S:=(qU Q1.S Q1.nextAt.1 Q1.nextAt.2 b).2 } : PS).passed (qU Q1.S Q1.nextAt.1 Q1.nextAt.2 b).1=0 then PS.write n b k { Q1 with S:=(qU Q1.S Q1.nextAt.1 Q1.nextAt.2 b).2 }
    else some ((0,0),({ Q1 with S:=(qU Q1.S Q1.nextAt.1 Q1.nextAt.2 b).2 } : PS).passed (qU Q1.S Q1.nextAt.1 Q1.nextAt.2 b).1,{ Q1 with S:=(qU Q1.S Q1.nextAt.1 Q1.nextAt.2 b).2 }))
   else some ((0,0),e,Q1)
def PS.next (Q:PS):PS := { Q with seq:=Q.seq+1 }
def PS.give (n:Nat) (Q:PS) (page:Int) (b:List UInt8):Option (Int × Fd × PS) :=
 if Q.gone.down=true then some (2,((0,0),(0,0)),Q.gone)
 else if Q.gone.over=true then some (6,((0,0),(0,0)),Q.gone)
 else match PS.write n b n Q.gone.next with
  | none=>none
  | some (s,e,Q2)=>if e=0 then some (0,((page,Q2.seq),s),Q2) else some (e,((0,0),(0,0)),Q2.undo.gone)
structure Ok (Q:PS):Prop where
 may:zEm Q.B Q.P Q.Sp Q.K Q.U
 len:(Q.S.bl.length:Int)=Q.B
 np:(Q.S.np:Int)=Q.P
 bad:0<=Q.bad/\Q.bad<=64
 op : -1<=Q.op/\Q.op<Q.B
 seq:0<=Q.seq/\Q.seq<=1099511627776
 tabs:Q.L.length<=200/\Q.F.length<=200
 cnt:∀b∈Q.S.bl,(Lit.int .i64 b.count).wf=true
 next:∀b∈Q.S.bl,0<=b.next/\b.next<=Q.P
section
variable {Q:PS}
theorem Ok.lenN (h:Ok Q):3<=Q.S.bl.length/\Q.S.bl.length<=64:=by have:=h.may.1;have:=h.len;omega
theorem Ok.bads (h:Ok Q) : -64<=Q.bads/\Q.bads<=64:=by
 have:=zGt Q.S.bl
 have:=h.lenN
 have:=h.bad
 unfold PS.bads
 omega
theorem Ok.gone (h:Ok Q):Ok Q.gone := { h with }
theorem Ok.undo (h:Ok Q):Ok Q.undo := { h with tabs:=⟨h.tabs.1,by simp[PS.undo]⟩ }
theorem Ok.pg (h:Ok Q):2<=Q.P/\Q.P<=32:=h.may.2.1
theorem yg {x:Int} (h : -9223372036854775808<=x/\x<=9223372036854775807):(Lit.int .i64 x).wf=true:=by
 have h0:IntKind.min .i64 = -9223372036854775808:=by decide
 have h1:IntKind.max .i64=9223372036854775807:=by decide
 simpa[Lit.wf,h0,h1] using h
theorem wf_wrap (n:Int):(Lit.int .i64 (wrap64 n)).wf=true:=by
 have h : -9223372036854775808<=wrap64 n/\wrap64 n<=9223372036854775807:=by unfold wrap64;omega
 exact yg h
theorem Ok.chip {S:LS} (h:Ok Q) (hn:S.np=Q.S.np) (hl:S.bl.length=Q.S.bl.length) (hc:∀b∈S.bl,(Lit.int .i64 b.count).wf=true) (hx:∀b∈S.bl,0<=b.next/\b.next<=Q.P):Ok { Q with S:=S } :=
 { h with len:=by rw[<- h.len,<- hl],np:=by rw[<- h.np,<- hn],cnt:=hc,next:=hx }
theorem zQt {S:LS} {b:Int} (h:isL S b=true):zDd S b∈S.bl:=by
 obtain ⟨i,rfl,hi⟩:=zAd h
 rw[vi hi];exact List.getElem_mem hi
theorem yAw {S:LS} {b:Int} (h:zBj S b=0):isL S b=true/\S.dark=false/\(zDd S b).bad=false:=by
 unfold zBj at h
 cases h1:isL S b<;>cases h2:S.dark<;>cases h3:(zDd S b).bad<;>simp_all
theorem refS_is {S:LS} {b pg:Int} {n:Nat} (h:zCf S b pg n=0):zIo S b pg=true/\zBj S b=0/\pg=(zDd S b).next/\1<=n/\n<=2000:=by
 unfold zCf at h
 split at h
 . simp at h
 . next h1 =>
   split at h
   . next h2=>exact absurd h h2
   . next h2 =>
     split at h
     . simp at h
     . next h3 =>
       have e1:zIo S b pg=true:=by
        cases e:zIo S b pg
        . exact absurd (.inl e) h1
        . rfl
       exact ⟨e1,by omega,by omega,by omega,by omega⟩
theorem Ok.prog (h:Ok Q) (b pg:Int) (l:List UInt8):Ok { Q with S:=(qU Q.S b pg l).2 } :=by
 by_cases hr:zCf Q.S b pg l.length=0
 . obtain ⟨h1,h2,h3,-,-⟩:=refS_is hr
   obtain ⟨h4,-,-⟩:=yAw h2
   obtain ⟨i,j,rfl,rfl,hi,hj⟩:=zCu h1
   have hm:=zQt h4
   have hnp:=h.np
   have key:∀(bad:Bool) (l2:List UInt8),(∀x∈putL Q.S i j bad l2,(Lit.int .i64 x.count).wf=true)/\∀x∈putL Q.S i j bad l2,0<=x.next/\x.next<=Q.P:=λbad l2=>by
    refine ⟨λx hx=>?_,λx hx=>?_⟩
    . rcases List.mem_or_eq_of_mem_set hx with k | rfl
      . exact h.cnt x k
      . show (Lit.int .i64 (zDd Q.S i).count).wf=true
        exact h.cnt _ hm
    . rcases List.mem_or_eq_of_mem_set hx with k | rfl
      . exact h.next x k
      . have:=h.next _ hm
        refine ⟨?_,?_⟩
        . show 0<=(zDd Q.S i).next+1
          omega
        . show (zDd Q.S i).next+1<=Q.P
          omega
   have hl:∀(bad:Bool) (l2:List UInt8),(putL Q.S i j bad l2).length=Q.S.bl.length:=λ_ _=>List.length_set ..
   unfold qU
   rw[if_neg (by simpa using hr)]
   split
   . exact h.chip rfl (hl _ _) (key _ _).1 (key _ _).2
   . split
     . exact h.chip rfl (hl _ _) (key _ _).1 (key _ _).2
     . exact h.chip rfl (hl _ _) (key _ _).1 (key _ _).2
 . unfold qU
   rw[if_pos hr];exact h
theorem Ok.erase (h:Ok Q) (b:Int):Ok { Q with S:=(qf Q.S b).2 } :=by
 by_cases hr:zBj Q.S b=0
 . obtain ⟨h4,-,-⟩:=yAw hr
   have hm:=zQt h4
   have hnp:=h.np
   have key:∀y:Bk,(y.count=wrap64 ((zDd Q.S b).count+1))->(0<=y.next/\y.next<=Q.P)->(∀x∈Q.S.bl.set b.toNat y,(Lit.int .i64 x.count).wf=true)/\∀x∈Q.S.bl.set b.toNat y,0<=x.next/\x.next<=Q.P:=λy h1 h2=>by
    refine ⟨λx hx=>?_,λx hx=>?_⟩
    . rcases List.mem_or_eq_of_mem_set hx with k | rfl
      . exact h.cnt x k
      . rw[h1];exact wf_wrap _
    . rcases List.mem_or_eq_of_mem_set hx with k | rfl
      . exact h.next x k
      . exact h2
   unfold qf
   rw[if_neg (by simpa using hr)]
   have hn3:0<=(zDd Q.S b).next/\(zDd Q.S b).next<=Q.P:=h.next _ hm
   have he:∀k,0<=(vZ (zEx (zDd Q.S b)) k Q.S.np).next/\(vZ (zEx (zDd Q.S b)) k Q.S.np).next<=Q.P:=λk=>by
    unfold vZ;simp only;split<;>omega
   split
   . exact h.chip rfl (List.length_set ..) (key _ rfl (he _)).1 (key _ rfl (he _)).2
   . split
     . exact h.chip rfl (List.length_set ..) (key { zEx (zDd Q.S b) with bad:=true } rfl hn3).1 (key { zEx (zDd Q.S b) with bad:=true } rfl hn3).2
     . exact h.chip rfl (List.length_set ..) (key _ rfl (he _)).1 (key _ rfl (he _)).2
 . unfold qf
   rw[if_pos hr];exact h
theorem Ok.read (h:Ok Q) (b pg:Int):Ok { Q with S:=(rdL Q.S b pg).2.2 } :=by
 unfold rdL
 split
 . exact h
 . split
   . exact h
   . exact h.chip rfl rfl h.cnt h.next
theorem Ok.pages (h:Ok Q) (l:List Fd):∀acc,Ok (Q.pages acc l).2.2:=by
 induction l generalizing Q with
 | nil=>intro acc;exact h
 | cons f r ih =>
  intro acc
  unfold PS.pages
  split
  . exact ih (h.read _ _) _
  . exact h.read _ _
theorem zXx (l:List Fd):∀(Q:PS) acc,(Q.pages acc l).2.1.length<=acc.length+l.length:=by
 induction l with
 | nil=>intro Q acc;simp[PS.pages]
 | cons f r ih =>
  intro Q acc
  unfold PS.pages
  split
  . have:=ih { Q with S:=(rdL Q.S f.2.1 f.2.2).2.2 } (acc++[(rdL Q.S f.2.1 f.2.2).1])
    simp at this ⊢
    omega
  . simp
theorem Ok.fill (h:Ok Q) (td:Int) (pg:List (List UInt8)):∀i,Ok (Q.fill td i pg).2:=by
 induction pg generalizing Q with
 | nil=>intro i;exact h
 | cons b r ih =>
  intro i
  unfold PS.fill
  split
  . exact ih (h.prog _ _ _) _
  . exact h.prog _ _ _
theorem put1_S (Q:PS) (td:Int) (i:Nat) (f:Fd):(Q.put1 td i f).S=Q.S/\(Q.put1 td i f).B=Q.B/\(Q.put1 td i f).P=Q.P/\(Q.put1 td i f).Sp=Q.Sp/\(Q.put1 td i f).K=Q.K/\(Q.put1 td i f).U=Q.U/\(Q.put1 td i f).bad=Q.bad/\(Q.put1 td i f).seq=Q.seq/\(Q.put1 td i f).op=Q.op/\(Q.put1 td i f).down=Q.down:=by
 unfold PS.put1;split<;>exact ⟨rfl,rfl,rfl,rfl,rfl,rfl,rfl,rfl,rfl,rfl⟩
theorem settle_S (l:List Fd) (td:Int):∀(Q:PS) (i:Nat),(Q.settle td i l).S=Q.S/\(Q.settle td i l).B=Q.B/\(Q.settle td i l).P=Q.P/\(Q.settle td i l).Sp=Q.Sp/\(Q.settle td i l).K=Q.K/\(Q.settle td i l).U=Q.U/\(Q.settle td i l).bad=Q.bad/\(Q.settle td i l).seq=Q.seq/\(Q.settle td i l).op=Q.op/\(Q.settle td i l).down=Q.down:=by
 induction l with
 | nil=>intro Q i;exact ⟨rfl,rfl,rfl,rfl,rfl,rfl,rfl,rfl,rfl,rfl⟩
 | cons f r ih =>
  intro Q i
  have h1:=ih (Q.put1 td i f) (i+1)
  have h2:=put1_S Q td i f
  unfold PS.settle
  exact ⟨h1.1.trans h2.1,h1.2.1.trans h2.2.1,h1.2.2.1.trans h2.2.2.1,h1.2.2.2.1.trans h2.2.2.2.1,h1.2.2.2.2.1.trans h2.2.2.2.2.1,h1.2.2.2.2.2.1.trans h2.2.2.2.2.2.1,h1.2.2.2.2.2.2.1.trans h2.2.2.2.2.2.2.1,h1.2.2.2.2.2.2.2.1.trans h2.2.2.2.2.2.2.2.1,h1.2.2.2.2.2.2.2.2.1.trans h2.2.2.2.2.2.2.2.2.1,h1.2.2.2.2.2.2.2.2.2.trans h2.2.2.2.2.2.2.2.2.2⟩
theorem Ok.settle (h:Ok Q) (td:Int) (i:Nat) (l:List Fd) (hs:(Q.settle td i l).small):Ok (Q.settle td i l):=by
 obtain ⟨e1,e2,e3,e4,e5,e6,e7,e8,e9,e10⟩:=settle_S l td Q i
 exact ⟨by rw[e2,e3,e4,e5,e6];exact h.may,by rw[e1,e2];exact h.len,by rw[e1,e3];exact h.np,by rw[e7];exact h.bad,by rw[e9,e2];exact h.op,by rw[e8];exact h.seq,hs,by rw[e1];exact h.cnt,by rw[e1,e3];exact h.next⟩
theorem zJw (Q:PS) (i:Int):(Q.here i).length=Q.held i:=by
 have key:∀T:List Fd,(inT T i).length=vU T i:=λT=>by
  unfold inT vU
  rw[(yT _ []).length_eq,List.nil_append,List.countP_eq_length_filter]
 unfold PS.here PS.held
 rw[List.length_append,key,key]
theorem Ok.held (h:Ok Q) (i:Int):Q.held i<=400:=by
 have h1:vU Q.L i<=Q.L.length:=List.countP_le_length
 have h2:vU Q.F i<=Q.F.length:=List.countP_le_length
 have:=h.tabs
 unfold PS.held;omega
theorem Ok.wipe (h:Ok Q) (i:Int):Ok (Q.wipe i).2:=h.erase i
theorem Ok.moveLoop {l:List Fd} {pg:List (List UInt8)} {hot:Bool} {td e:Int} {Q':PS} : ∀(n:Nat) (Q:PS),Ok Q->PS.moveLoop l pg hot n Q=some (td,e,Q')->Ok Q':=by
 intro n
 induction n with
 | zero=>intro Q h hm;cases hm
 | succ n ih =>
  intro Q h hm
  unfold PS.moveLoop at hm
  split at hm
  . cases hm;exact h
  . split at hm
    . cases hm
    . split at hm
      . split at hm
        . next hs=>cases hm;exact (h.fill _ _ _).settle _ _ _ hs
        . cases hm
      . split at hm
        . exact ih _ (h.fill _ _ _) hm
        . cases hm;exact h.fill _ _ _
theorem Ok.move {n:Nat} {i:Int} {hot:Bool} {td e:Int} {Q':PS} (h:Ok Q) (hm:Q.move n i hot=some (td,e,Q')):Ok Q':=by
 unfold PS.move at hm
 split at hm
 . exact Ok.moveLoop n _ (h.pages _ _) hm
 . cases hm;exact h.pages _ _
end
end
end Go.Proofs.YtinkkmlbhkfmnaaGreat
