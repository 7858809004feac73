/- A part of what the last text proves: Gr. -/
import Derived.Deep.DeepCutAuto
import Derived.Test.YtinkkmlbhkfmnaaGreatQGs
set_option maxRecDepth 100000
set_option maxHeartbeats 8000000
namespace Go.Proofs.YtinkkmlbhkfmnaaGreat
section
open Go.RowKit
theorem zUh (n:Nat) (h:n<128):qg n = [qX n]:=by
 unfold qg
 rw[show n / 128=0 by omega,vx,Nat.mod_eq_of_lt h];rfl
def zRz (n:Nat):List UInt8:=if _h:n<128 then [qX n] else qX (n % 128)::zRz (n / 128)
termination_by n
decreasing_by omega
theorem zIf (n:Nat) (h:n<128):zRz n = [qX n]:=by rw[zRz];simp[h]
theorem zRy (n:Nat) (h:128<=n):zRz n=qX (n % 128)::zRz (n / 128):=by rw[zRz];simp;omega
def up (c:UInt8):UInt8:=qX (c.toNat % 128+128)
theorem zRw (n:Nat):∃d t,zRz n=d::t/\qg n=(t.map up).reverse++[d]:=by
 induction n using Nat.strongRecOn with
 | ind n ih =>
  by_cases h:n<128
  . refine ⟨qX n,[],zIf n h,?_⟩
    unfold qg
    rw[show n / 128=0 by omega,vx,show n % 128=n by omega];rfl
  . obtain ⟨d,t,e1,e2⟩:=ih (n / 128) (by omega)
    refine ⟨qX (n % 128),zRz (n / 128),zRy n (by omega),?_⟩
    unfold qg at e2 ⊢
    rw[zAg (n / 128) (by omega),e1]
    have e3:=List.append_inj' e2 rfl
    rw[e3.1]
    have hd:d=qX (n / 128 % 128):=by simpa using e3.2.symm
    rw[hd]
    simp[up,vA (n / 128 % 128) (by omega)]
theorem zRx (n:Nat):(zRz n).length=(qg n).length:=by
 obtain ⟨d,t,e1,e2⟩:=zRw n
 rw[e1,e2];simp
def Onto (W:World) (row:Option Nat) (wr:World) (v:Value) (xs:List UInt8):Prop :=
 (wr.ownsRow 0 5 1 v xs.length (xs.map ub)/\(v.ownBlock=row\/∀g,v.ownBlock=some g->W.heap.size<=g))\/(xs = []/\∃a0,v=.slice (some a0) 0 0)
def yAz (W:World) (row:Option Nat) (r:Option Nat):Prop:=r=row\/∀g,r=some g->W.heap.size<=g
theorem Onto.keep {W wr w':World} {row:Option Nat} {v:Value} {xs:List UInt8} (h:Onto W row wr v xs) (hk:∀g,v.ownBlock=some g->w'.heap[g]? = wr.heap[g]?):Onto W row w' v xs:=by
 rcases h with ⟨h1,h2⟩ | h
 . exact .inl ⟨vS h1 hk,h2⟩
 . exact .inr h
theorem Onto.alloc {W wr:World} {row:Option Nat} {v:Value} {xs:List UInt8} (h:Onto W row wr v xs) (o:Obj):Onto W row (wr.alloc o) v xs:=by
 rcases h with ⟨h1,h2⟩ | h
 . exact .inl ⟨h1.alloc _,h2⟩
 . exact .inr h
theorem Onto.slice {W wr:World} {row:Option Nat} {v:Value} {xs:List UInt8} (h:Onto W row wr v xs):∃p c,v=.slice p xs.length c/\xs.length<=c:=by
 rcases h with ⟨h1,_⟩ | ⟨rfl,a0,rfl⟩
 . exact qN h1
 . exact ⟨_,_,rfl,Nat.le_refl _⟩
theorem zAi {W a b:World} {row r:Option Nat} (h:W.grownBy a row) (k:a.grownBy b r) (hr:yAz W row r):W.grownBy b row:=by
 refine ⟨k.os.trans h.os,k.tape.trans h.tape,k.output.trans h.output,Nat.le_trans h.size k.size,λi hi hne=>?_⟩
 rw[<- h.block i hi hne]
 refine k.block i (Nat.lt_of_lt_of_le hi h.size) λe=>?_
 rcases hr with h1 | h1
 . exact hne (e.trans h1)
 . have:=h1 i e.symm;omega
theorem zFm {P:Program} (w W:World) (row:Option Nat) (ty:TypeId) (i:TypeInfo) (z:Value) (t:TypeId) (ht:P.underlying t=some (.slice 5)) (hi:P.info? 5=some i) (hz:i.zero=some z)
 (hsize:i.size=1) (hby:i.bytes=1) (hzs:z.cells.size=1) (v:Value) (xs:List UInt8) (h:Onto W row w v xs) (hW:W.heap.size<=w.heap.size) (B:Nat) (A:Option Addr) (c:Nat) (l:List UInt8) (hr:RB w B A l)
 (hbig:xs.length+l.length<=140737488355328) :
 ∃p cap w' r,(Builtin.append_ #[t,t] ty #[v,.slice A l.length c]).run P w=.ok (.slice p (xs++l).length cap) w'/\Onto W row w' (.slice p (xs++l).length cap) (xs++l)/\w.grownBy w' r/\yAz W row r/\(r=none\/r=v.ownBlock) /\
  ((Value.slice p (xs++l).length cap).ownBlock=v.ownBlock\/(Value.slice p (xs++l).length cap).ownBlock=some w.heap.size)/\(∀g,(Value.slice p (xs++l).length cap).ownBlock=some g->v.ownBlock=some g\/g<w'.heap.size):=by
 rcases h with ⟨hown,hrow⟩ | ⟨rfl,a0,rfl⟩
 . obtain ⟨p,cap,w',hrun,h1,h2,h3⟩:=yD (P:=P) w 0 t ty 5 i z ht hi hz hsize hby hzs v xs hown B A c l hr hbig (Nat.zero_le _)
   refine ⟨p,cap,w',v.ownBlock,hrun,.inl ⟨h1,?_⟩,h2,hrow,.inr rfl,h3,λg e=>.inr (h1.lt g e).2⟩
   rcases h3 with h3 | h3
   . rw[h3];exact hrow
   . rw[h3];exact .inr λg e=>by cases e;exact hW
 . rcases Nat.eq_zero_or_pos l.length with h0 | h0
   . obtain rfl:l = []:=List.eq_nil_of_length_eq_zero h0
     refine ⟨some a0,0,w,none,?_,.inr ⟨rfl,a0,rfl⟩,World.grownBy.refl w _,.inr λg e=>(by cases e),.inl rfl,.inl rfl,λg e=>.inl e⟩
     cases A with
     | none=>simp[Builtin.append_,run_underlying ht,sizeOf,typeInfo,hi,Builtin.lenOf,Builtin.firstCells,storeCells]
     | some ad=>simp[Builtin.append_,run_underlying ht,sizeOf,typeInfo,hi,Builtin.lenOf,Builtin.firstCells,storeCells,loadCells,loadCellsFrom]
   . obtain ⟨ad,rfl,_⟩:=hr h0
     have hrun:=run_append_grow (P:=P) (w:=w) t ty 5 i z ht hi hz a0 0 0 [] (by simp) (by simp) ad l.length c (l.map ub) (by simp[hsize]) (hr.news ad rfl) (by omega) (by simp at hbig ⊢;omega) (growslice_fits (by omega) (by rw[hby];simp at hbig ⊢;omega))
     have hge:=grownCap_ge w (0+l.length) 0 5
     have hcm:=grownCap_le_maxLen w (0+l.length) 0 5 (by simp at hbig;unfold maxLen;omega)
     have e0:0+l.length=([]++l).length:=by simp
     rw[e0] at hrun hge hcm
     refine ⟨_,_,_,none,hrun,.inl ⟨⟨by simp,.inr ⟨w.heap.size,_,_,rfl,Nat.zero_le _,heap_alloc_new w.drew _,hge,hcm,?_,?_⟩⟩,.inr λg e=>(by cases e;exact hW)⟩,⟨rfl,rfl,rfl,by simp,λk hk _=>Below.heap_alloc w.drew _ k hk⟩,.inr λg e=>(by cases e),.inl rfl,.inr rfl,λg e=>.inr (by cases e;simp)⟩
     . simp only[Array.size_append,List.size_toArray,size_zeroCells,hzs,List.length_nil,List.length_map,List.nil_append,Nat.mul_one] at hge ⊢
       omega
     . simp only[Array.toList_append,List.nil_append,Nat.mul_one]
       exact List.take_left' (by simp)
theorem vw {P:Program} (w W:World) (row:Option Nat) {ops:Array Oper} {rest:List Oper} {o:Oper} {a:Act} {Q:Exit->Act->World->Prop} (hgd:o.guard=none) (s x:Operand) (t:TypeId)
 (ho:o.op=.call { callee:=.builtin .append,args:=#[s,x],argTypes:=#[t,t] })
 (i:TypeInfo) (z:Value) (ht:P.underlying t=some (.slice 5)) (hi:P.info? 5=some i) (hz:i.zero=some z) (hsize:i.size=1) (hby:i.bytes=1) (hzs:z.cells.size=1)
 (v:Value) (xs:List UInt8) (hs:a.eval s=v) (hown:Onto W row w v xs) (hW:W.heap.size<=w.heap.size) (B:Nat) (A:Option Addr) (c:Nat) (l:List UInt8) (hx:a.eval x=.slice A l.length c) (hr:RB w B A l)
 (hbig:xs.length+l.length<=140737488355328)
 (h:∀p cap w' r,Onto W row w' (.slice p (xs++l).length cap) (xs++l)->w.grownBy w' r->yAz W row r->(r=none\/r=v.ownBlock)->((Value.slice p (xs++l).length cap).ownBlock=v.ownBlock\/(Value.slice p (xs++l).length cap).ownBlock=some w.heap.size)->wpList P ops Q rest (a.put o.dst (.slice p (xs++l).length cap)) w'):wpList P ops Q (o::rest) a w:=by
 refine wpList_plain hgd λK hK=>?_
 obtain ⟨p,cap,w',r,hrun,h2,h3,h4,h5,h6,_⟩:=zFm (P:=P) w W row o.type i z t ht hi hz hsize hby hzs v xs hown hW B A c l hr hbig
 unfold Oper.wp execOp
 simp only[ho,resolve,invoke,builtin,Sem.run_bind,Sem.run_pure,Result.andThen_ok,List.map_toArray,List.map_cons,List.map_nil,hs,hx,hrun]
 exact hK _ _ (h p cap w' r h2 h3 h4 h5 h6)
def zRc (row:Option Nat) (w:World) (l:List UInt8) (e:Ending) (w':World):Prop :=
 ∃(p:Option Addr) (c:Nat) (L:List UInt8),e=.returned (.slice p L.length c)/\Hid (L=l)/\L.length<=c/\Onto w row w' (.slice p L.length c) L/\w.grownBy w' row
def outL (low:List UInt8) (k:Nat):List UInt8:=(List.range k).map λq=>if q+1<low.length then up (low.getD (low.length - 1 - q) 0) else low.getD 0 0
theorem zYd (low:List UInt8) (k:Nat):outL low (k+1)=outL low k++[if k+1<low.length then up (low.getD (low.length - 1 - k) 0) else low.getD 0 0]:=by
 unfold outL;rw[List.range_succ,List.map_append];rfl
theorem outL_all (n:Nat):outL (zRz n) (zRz n).length=qg n:=by
 obtain ⟨d,t,e1,e2⟩:=zRw n
 rw[e1,e2]
 unfold outL
 apply List.ext_getElem
 . simp
 . intro i h1 h2
   simp at h1
   by_cases hi:i<t.length
   . rw[List.getElem_append_left (by simpa using hi)]
     simp[hi,List.getD]
     rw[show t.length - i=(t.length - 1 - i)+1 by omega,List.getElem?_cons_succ,List.getElem?_eq_getElem (by omega)]
     rfl
   . obtain rfl:i=t.length:=by omega
     simp
theorem zPm (row:Option Nat) (p:Option Addr) (cap:Nat) (l:List UInt8) (n:Int) (w:World) (h:Onto w row w (.slice p l.length cap) l) (hown0:∀g,(Value.slice p l.length cap).ownBlock=some g->g<w.heap.size) (hl:l.length<=70368744177664) :
 Calls Tryz.prog 113 #[.slice p l.length cap,.int .i64 n] w (zRc row w (l++qg (qc n))):=by
 obtain ⟨i0,hi,hz0,hz1,hz2⟩:=info_parts vP
 obtain ⟨N,hN⟩:∃N,N=qc n:=⟨_,rfl⟩
 have hN1:=vn n
 rw[<- hN] at hN1
 have hmm:max 0 (min n 1099511627776)=(N:Int):=by rw[hN];unfold qc;split;omega;split<;>omega
 rw[<- hN]
 have hll:=qn N (by omega)
 have hlow:=zRx N
 rw[<- outL_all N]
 obtain ⟨low,hlw⟩:∃low,low=zRz N:=⟨_,rfl⟩
 rw[<- hlw] at hlow ⊢
 have hl6:low.length<=6:=by omega
 have hl1:1<=low.length:=by omega
 have Hlow:=hI hlw
 clear hN hll hlow hlw
 go_enter Tryz.func113,Tryz.ntmps113
 go_wp2_with fail
 clear hmm
 go_loopw [1,5] (λt v wr=>∃(m cp:Nat) (q:Option Addr) (don:List UInt8),t=.int .i64 m/\v=.slice q don.length cp/\m<=N/\Hid (don++zRz m=low)/\wr.ownsRow w.heap.size 5 1 (.slice q don.length cp) don.length (don.map ub)/\Below w.heap.size w wr) (λt _ _=>(intOf t).toNat)
 case atStart=>exact ⟨N,0,none,[],rfl,rfl,Nat.le_refl _,by rw[Hlow.out];rfl,World.ownsRow_nil _ _ _ _,bR⟩
 case round =>
  obtain ⟨m,cp,q,don,rfl,rfl,hm,hdl,hown,hb⟩:=hrel
  have hs:=hb.size
  have hdlen:don.length<low.length:=by
   have h1:=congrArg List.length hdl.out
   have h2:=qn m (by omega)
   rw[<- zRx m] at h2
   simp at h1;omega
  have e1:bits .and .i64 (m:Int) 127=((m % 128:Nat):Int):=by rw[and127 _ (by omega) (by omega)];omega
  obtain ⟨r,hr⟩:∃r,r=m % 128:=⟨_,rfl⟩
  rw[<- hr] at e1
  have hr1:r<128:=by omega
  have hrb:=zEn r (by omega)
  have hnew:RB (wr.alloc (.cells #[.int .u8 (r:Int)] 5)) (wr.heap.size+1) (some ⟨wr.heap.size,0,none⟩) [qX r]:=by
   have:=zJi wr (qX r) 5 (0,0)
   rwa [vA r (by omega)] at this
  obtain ⟨m2,hm2⟩:∃m2:Nat,(m:Int) / 128=(m2:Int):=⟨m / 128,by omega⟩
  by_cases hlast:m<128
  . obtain rfl:m2=0:=by omega
    have Hr:=hI hr
    clear hr hrb
    go_wp2_with (at_builtin;refine qu _ rfl _ _ _ rfl w.heap.size 5 i0 _ Tryz.underlying34 hi hz0 hz1 hz2 rfl _ don rfl (hown.alloc _) (wr.heap.size+1) _ 1 [qX r] rfl hnew (by simp;omega) (by simp;omega) ?_;intro p1 cap1 w2 hown1 hg1 _)
    have hlo:low=don++[qX r]:=by
     have h1:=hdl.out
     rw[zIf m hlast] at h1
     rw[<- h1,Hr.out,Nat.mod_eq_of_lt hlast]
    have hdl1:don.length+1<=low.length:=by rw[hlo];simp
    have hdl2:low.length<=don.length+1:=by rw[hlo];simp
    have hb1:=(hb.alloc hs _).grown hg1 (by simp;omega) λk e=>((hown.alloc (.cells #[.int .u8 (r:Int)] 5)).lt k e).1
    have hfar:=hown1.lt
    rw[<- hlo] at hown1
    obtain ⟨ad,rfl,hadb,hcells⟩:=RB.of_own hown1 hl1
    have had:=(hfar ad.block rfl).1
    have h2:Onto w row w2 (.slice p l.length cap) l:=h.keep λg e=>hb1.block g (hown0 g e)
    have hne:(Value.slice p l.length cap).ownBlock≠some ad.block:=λe=>by have:=hown0 _ e;omega
    have hgr:w.grownBy w2 row:=⟨hb1.os,hb1.tape,hb1.output,hb1.size,λk hk _=>hb1.block k hk⟩
    have hs1:=hb1.size
    clear hfar hown hown1 hg1 hnew hlo hdl Hr hlast
    go_loopw [0,6] (λv i wr=>∃(k cp2:Nat) (p2:Option Addr) (xs:List UInt8),k<=low.length/\i=.int .i64 ((low.length:Int) - 1 - k)/\v=.slice p2 xs.length cp2/\Hid (xs=l++outL low k)/\Onto w row wr (.slice p2 xs.length cp2) xs/\(Value.slice p2 xs.length cp2).ownBlock≠some ad.block/\w.grownBy wr row/\Hid (wr.heap[ad.block]? = w2.heap[ad.block]?)/\w2.heap.size<=wr.heap.size) (λ_ i _=>(intOf i+1).toNat)
    case atStart=>exact ⟨0,cap,p,l,Nat.zero_le _,by congr 1;omega,rfl,by show l=l++outL low 0;simp[outL],h2,hne,hgr,rfl,Nat.le_refl _⟩
    case round =>
     obtain ⟨k,cp2,p2,xs,hk,rfl,rfl,hxs,hown,hne2,hb2,hblk,hsz⟩:=hrel
     have hs2:w.heap.size<=wr.heap.size:=hb2.size
     have hxl:xs.length<=l.length+k:=by rw[hxs.out];simp[outL]
     by_cases hlt:k<low.length
     . have hxs':Hid (l++outL low (k+1)=xs++[if k+1<low.length then up (low.getD (low.length - 1 - k) 0) else low.getD 0 0]):=by
        show _=_
        rw[zYd,hxs.out,List.append_assoc]
       by_cases hj0:k+1=low.length
       . rw[show (low.length:Int) - 1 - k=0 by omega]
         have hck:wr.cell? ad=some (.int .u8 low[0].toNat):=by
          have:=(World.cell?_of_block (w:=w2) (w':=wr) (a:=ad.add 0) hblk.out).trans (hcells 0 (by omega))
          simpa[Addr.add,ub] using this
         have hgd:low.getD 0 0=low[0]:=by simp[List.getD,show 0<low.length by omega]
         rw[if_neg (by omega),hgd] at hxs'
         have hk1:low.length<=k+1:=by omega
         clear hgd hxs hj0
         generalize low[0]=cj at hck hxs'
         have hnew:RB (wr.alloc (.cells #[.int .u8 (cj.toNat:Int)] 5)) (wr.heap.size+1) (some ⟨wr.heap.size,0,none⟩) [cj]:=zJi wr cj 5 (0,0)
         go_wp2_with (at_builtin;refine vw _ w row rfl _ _ _ rfl i0 _ Tryz.underlying34 hi hz0 hz1 hz2 rfl _ xs rfl (hown.alloc _) (by simp;omega) (wr.heap.size+1) _ 1 [cj] rfl hnew (by simp;omega) ?_;intro p3 cap3 w3 r3 hown3 hg3 hwr3 hrr3 hob3)
         go_roundw
         case rel =>
          have hadne:some ad.block≠r3:=by
           rcases hrr3 with e' | e'
           . rw[e'];intro e;cases e
           . rw[e'];exact λe=>hne2 e.symm
          refine ⟨k+1,cap3,p3,xs++[cj],by omega,by congr 1;omega,by simp,hxs'.out.symm,hown3,?_,zAi (zAi hb2 (World.grownBy_alloc wr _ none) (.inr λg e=>(by cases e))) hg3 hwr3,?_,by have:=hg3.size;simp at this;omega⟩
          . rcases hob3 with e | e
            . rw[e];exact hne2
            . rw[e];simp;omega
          . exact (hg3.block _ (by simp;omega) hadne).trans ((Below.heap_alloc wr _ _ (by omega)).trans hblk.out)
         case measure=>simp[intOf]
       . obtain ⟨j,hj⟩:∃j:Nat,(low.length:Int) - 1 - k=j:=⟨low.length - 1 - k,by omega⟩
         rw[hj]
         have hjl:j<low.length:=by omega
         have hck:wr.cell? (ad.add j)=some (.int .u8 low[j].toNat):=(World.cell?_of_block (by rw[vH];exact hblk.out)).trans (hcells j hjl)
         have hgd:low.getD (low.length - 1 - k) 0=low[j]:=by rw[show low.length - 1 - k=j by omega];simp[List.getD,hjl]
         have hd256:=low[j].toNat_lt
         rw[if_pos (by omega),hgd] at hxs'
         have hj1:(0:Int)<(j:Int):=by omega
         have hj2:j+k+1<=low.length:=by omega
         have hj3:low.length<=j+k+1:=by omega
         clear hgd hxs hj hj0
         generalize low[j]=cj at hck hxs' hd256
         obtain ⟨X,hX⟩:∃X,X=cj.toNat % 128+128:=⟨_,rfl⟩
         have hor:bits .or .u8 (cj.toNat:Int) 128=(X:Int):=by rw[or128 _ (by omega) (by omega),hX];omega
         have hnew:RB (wr.alloc (.cells #[.int .u8 (X:Int)] 5)) (wr.heap.size+1) (some ⟨wr.heap.size,0,none⟩) [up cj]:=by
          have:=zJi wr (qX X) 5 (0,0)
          rw[vA X (by omega)] at this
          unfold up;rwa [<- hX]
         clear hX
         go_wp2_with (at_builtin;refine vw _ w row rfl _ _ _ rfl i0 _ Tryz.underlying34 hi hz0 hz1 hz2 rfl _ xs rfl (hown.alloc _) (by simp;omega) (wr.heap.size+1) _ 1 [up cj] rfl hnew (by simp;omega) ?_;intro p3 cap3 w3 r3 hown3 hg3 hwr3 hrr3 hob3)
         go_roundw
         case rel =>
          have hadne:some ad.block≠r3:=by
           rcases hrr3 with e' | e'
           . rw[e'];intro e;cases e
           . rw[e'];exact λe=>hne2 e.symm
          refine ⟨k+1,cap3,p3,xs++[up cj],by omega,by congr 1;omega,by simp,hxs'.out.symm,hown3,?_,zAi (zAi hb2 (World.grownBy_alloc wr _ none) (.inr λg e=>(by cases e))) hg3 hwr3,?_,by have:=hg3.size;simp at this;omega⟩
          . rcases hob3 with e | e
            . rw[e];exact hne2
            . rw[e];simp;omega
          . exact (hg3.block _ (by simp;omega) hadne).trans ((Below.heap_alloc wr _ _ (by omega)).trans hblk.out)
         case measure=>simp[intOf]
     . obtain rfl:k=low.length:=by omega
       go_wp2
       go_ret
       obtain ⟨p2',c2',he,hle⟩:=hown.slice
       cases he
       exact ⟨p2,cp2,xs,rfl,hxs,hle,hown,hb2⟩
  . have hm2':m2=m / 128:=by omega
    have hdl2:Hid ((don++[qX r])++zRz m2=low):=by
     show _=_
     have h1:=hdl.out
     rw[zRy m (by omega),<- hr,<- hm2'] at h1
     rw[<- h1];simp
    clear hr hrb hm2'
    have hm20:((m2:Int)==0)=false:=by simp;omega
    go_wp2_with (at_builtin;refine qu _ rfl _ _ _ rfl w.heap.size 5 i0 _ Tryz.underlying34 hi hz0 hz1 hz2 rfl _ don rfl (hown.alloc _) (wr.heap.size+1) _ 1 [qX r] rfl hnew (by simp;omega) (by simp;omega) ?_;intro p1 cap1 w2 hown1 hg1 _)
    go_roundw
    case rel =>
     exact ⟨m2,cap1,p1,don++[qX r],rfl,by simp,by omega,hdl2,hown1,(hb.alloc hs _).grown hg1 (by simp;omega) λk e=>(hown.lt k e).1⟩
    case measure=>simp[intOf];omega
theorem zPj (row:Option Nat) (B:Nat) (p A:Option Addr) (cap c:Nat) (l s:List UInt8) (w:World) (h:Onto w row w (.slice p l.length cap) l) (hown0:∀g,(Value.slice p l.length cap).ownBlock=some g->g<w.heap.size) (hs:RB w B A s) (hB:B<=w.heap.size) (hsr:0<s.length->∀ad,A=some ad->row≠some ad.block) (hl:l.length<=70368744177000) (hsl:s.length<=70368744177664) :
 Calls Tryz.prog 112 #[.slice p l.length cap,.slice A s.length c] w (zRc row w (l++qg (qc s.length)++s)):=by
 obtain ⟨i0,hi,hz0,hz1,hz2⟩:=info_parts vP
 go_enter Tryz.func112,Tryz.ntmps112
 go_wp2_with fail
 refine (zPm row p cap l s.length _ h hown0 (by omega)).mono ?_
 rintro e w1 ⟨p1,c1,L1,rfl,hL1,_,hown1,hb1⟩
 have hn:L1.length<=l.length+6:=by
  rw[hL1.out]
  have:=(qn (qc s.length) (by have:=vn s.length;omega)).2
  simp;omega
 have hs1:RB w1 B A s:=λhn=>by
  obtain ⟨ad,e,hb,hc⟩:=hs hn
  exact ⟨ad,e,hb,λj hj=>(World.cell?_of_block (hb1.block _ (by rw[vH];omega) (by rw[vH];exact λe'=>hsr hn ad e e'.symm))).trans (hc j hj)⟩
 go_wp2_with (at_builtin;refine vw _ w row rfl _ _ _ rfl i0 _ Tryz.underlying34 hi hz0 hz1 hz2 rfl _ L1 rfl hown1 hb1.size B A c s rfl hs1 (by omega) ?_;intro p2 cap2 w2 r2 hown2 hg2 hwr2 _ _)
 go_ret
 obtain ⟨p2',c2',he,hle⟩:=hown2.slice
 cases he
 exact ⟨p2,cap2,L1++s,by rw[List.length_append];rfl,by rw[<- hL1.out];rfl,hle,hown2,zAi hb1 hg2 hwr2⟩
end
section
open Go.RowKit
end
section
section
variable {P:Program} {ops:Array Oper} {Q:Exit->Act->World->Prop}
def zAu (ops:Array Oper):Nat->Nat->Nat->Bool
 | 0,_,_=>false
 | n+1,i,k=>((ops[k]?).map λo=>o.after.any λe=>Region.binds .any e&&(e.on==i||zAu ops n i e.on)).getD false
def Closed (ops:Array Oper) (listed:Array Bool):Prop:=∀k o e,ops[k]? = some o->listed.getD k false=true->e∈o.after->Region.binds .any e=true->listed.getD e.on false=true
theorem zKj {listed:Array Bool} (hc:Closed ops listed):∀(n i k:Nat),zAu ops n i k=true->listed.getD k false=true->listed.getD i false=true:=by
 intro n
 induction n with
 | zero=>intro i k h;cases h
 | succ n ih =>
  intro i k h hk
  unfold zAu at h
  cases ho:ops[k]? with
  | none=>rw[ho] at h;cases h
  | some o =>
   rw[ho] at h
   simp only[Option.map_some,Option.getD_some] at h
   obtain ⟨e,he1,he2⟩:=Array.any_eq_true'.1 h
   simp only[Bool.and_eq_true,Bool.or_eq_true,beq_iff_eq] at he2
   have h3:=hc k o e ho hk he1 he2.1
   rcases he2.2 with h4 | h4
   . rwa [h4] at h3
   . exact ih i e.on h4 h3
structure Known3 (ops:Array Oper) (φ : Nat->(Nat->Value)->World->Prop) (G:World->Prop) (a0:Act) (listed:Array Bool) (a:Act) (w:World):Prop where
 g:G w
 defers:a.defers=a0.defers
 size:a.tmps.size=a0.tmps.size
 done:∀i o,ops[i]? = some o->listed.getD i false=true -> φ i (yJ ops a) w
 fresh:∀i,listed.getD i false=false->yJ ops a i=yJ ops a0 i
 old:∀t,(ops.all λo=>o.dst != some t)=true->a.tmps.getD t undef=a0.tmps.getD t undef
 closed:Closed ops listed
def OpOk3 (P:Program) (ops:Array Oper) (Q:Exit->Act->World->Prop) (φ : Nat->(Nat->Value)->World->Prop) (G:World->Prop) (n:Nat) (a0:Act) (i:Nat) (o:Oper):Prop :=
 ∀(a:Act) (w:World) (K:Act->World->Prop),G w ->
  (∀j,(o.after.any λe=>e.on==j&&Region.binds .any e)=true->(ops[j]?).isSome=true -> φ j (yJ ops a) w) ->
  (∀t,(ops.all λo=>o.dst != some t)=true->a.tmps.getD t undef=a0.tmps.getD t undef) ->
  (∀k,k=i\/zAu ops n i k=true->yJ ops a k=yJ ops a0 k) ->
  (∀v w',G w' -> φ i (zEh (yJ ops a) i v) w'->(∀j,j≠i->zAu ops n i j=false -> φ j (yJ ops a) w -> φ j (zEh (yJ ops a) i v) w')->K (a.put o.dst v) w') ->
  if Region.wanted o (yielded ops a.tmps)=true then o.wp P a w K Q else K (a.put o.dst undef) w
def OpsOk3 (P:Program) (ops:Array Oper) (Q:Exit->Act->World->Prop) (φ : Nat->(Nat->Value)->World->Prop) (G:World->Prop) (n:Nat) (a0:Act):Nat->List Oper->Prop
 | _,[]=>True
 | i,o::r=>OpOk3 P ops Q φ G n a0 i o/\OpsOk3 P ops Q φ G n a0 (i+1) r
theorem OpsOk3.cons {φ : Nat->(Nat->Value)->World->Prop} {G:World->Prop} {n:Nat} {a0:Act} {i:Nat} {o:Oper} {r:List Oper} (h:OpOk3 P ops Q φ G n a0 i o) (hr:OpsOk3 P ops Q φ G n a0 (i+1) r):OpsOk3 P ops Q φ G n a0 i (o::r):=⟨h,hr⟩
theorem OpsOk3.at_ {φ : Nat->(Nat->Value)->World->Prop} {G:World->Prop} {n:Nat} {a0:Act} : ∀(l:List Oper) (i j:Nat) (o:Oper),OpsOk3 P ops Q φ G n a0 i l->l[j]? = some o->OpOk3 P ops Q φ G n a0 (i+j) o
 | [],_,_,_,_,h=>by simp at h
 | o::r,i,0,o',h,hj=>by
  obtain rfl:o=o':=by simpa using hj
  exact h.1
 | o::r,i,j+1,o',h,hj=>by
  have:=OpsOk3.at_ r (i+1) j o' h.2 (by simpa using hj)
  rwa [show i+1+j=i+(j+1) by omega] at this
theorem zWb {a:Act} {i:Nat} {o:Oper} {v:Value} (hsl:vt ops a.tmps.size=true) (hd:(ops.all λo=>o.dst.isSome)=true) (ho:ops[i]? = some o):yJ ops (a.put o.dst v)=zEh (yJ ops a) i v:=by
 funext k
 have hds:∀(j:Nat) (oj:Oper),ops[j]? = some oj->∃t,oj.dst=some t:=λj oj hj=>by
  have:=Array.all_eq_true'.1 hd oj (Array.mem_of_getElem? hj)
  exact Option.isSome_iff_exists.1 this
 obtain ⟨u,hu⟩:=hds i o ho
 by_cases hk:k=i
 . subst hk
   rw[qh]
   unfold yJ
   rw[ho]
   simp only[Option.bind_some,hu,Act.put]
   have:=zHp hsl ho hu
   simp[Array.getD,this]
 . rw[vI _ hk]
   unfold yJ
   cases hok:ops[k]? with
   | none=>rfl
   | some ok =>
    obtain ⟨t,ht⟩:=hds k ok hok
    simp only[Option.bind_some,ht,hu,Act.put]
    have hne:u≠t:=λe=>zHo hsl hok ht ho hk (by rw[hu,e])
    rw[Array.getD_eq_getD_getElem?,Array.getD_eq_getD_getElem?,Array.getElem?_setIfInBounds,if_neg hne]
theorem zPg {id:Nat} {a0:Act} {w:World} (n:Nat) (φ : Nat->(Nat->Value)->World->Prop) (G:World->Prop) (hm:P.follows .mixedOrders=true) (hf:zCv ops=true) (hsl:vt ops a0.tmps.size=true) (hd:(ops.all λo=>o.dst.isSome)=true)
 (hG:G w.drew) (hops:OpsOk3 P ops Q φ G n a0 0 ops.toList)
 (hend:∀a w',G w'->a.defers=a0.defers->a.tmps.size=a0.tmps.size->(∀j,(ops[j]?).isSome=true -> φ j (yJ ops a) w')->(∀t,(ops.all λo=>o.dst != some t)=true->a.tmps.getD t undef=a0.tmps.getD t undef)->Q .normal a w') :
 (Code.region id ops true).wp P Q a0 w:=by
 refine wp_region_any hm ?_
 have hrep:∀i,(Array.replicate ops.size false).getD i false=false:=λi=>by simp[Array.getD]
 have h0:Known3 ops φ G a0 (Array.replicate ops.size false) a0 w.drew :=
  ⟨hG,rfl,rfl,λi o _ h=>(by rw[hrep] at h;cases h),λ_ _=>rfl,λ_ _=>rfl,λk o e _ h=>(by rw[hrep] at h;cases h)⟩
 refine zKs (λlisted a w=>Known3 ops φ G a0 listed a w) ?_ ?_ ops.size (Array.replicate ops.size false) a0 w.drew (by simp) ?_ h0
 . intro i listed a w hs hI hi
   obtain ⟨hun,o,ho,hall⟩:=mem_ready.1 hi
   have hok:=OpsOk3.at_ ops.toList 0 i o hops (by simpa using ho)
   rw[Nat.zero_add] at hok
   have hil:i<listed.size:=by have:=(Array.getElem?_eq_some_iff.1 ho).1;omega
   have hunf:listed.getD i false=false:=by simpa[Array.getD,hil] using hun
   have hbeh:∀k,zAu ops n i k=true->listed.getD k false=false:=λk hk=>by
    cases hl:listed.getD k false with
    | false=>rfl
    | true=>rw[zKj hI.closed n i k hk hl] at hunf;cases hunf
   have hsl':vt ops a.tmps.size=true:=by rw[hI.size];exact hsl
   have hgo:=hok a w (λa' w'=>Known3 ops φ G a0 (listed.setIfInBounds i true) a' w') hI.g
    (λj he hj=>by
     obtain ⟨e,he1,he2⟩:=Array.any_eq_true'.1 he
     simp only[Bool.and_eq_true,beq_iff_eq] at he2
     obtain ⟨oj,hoj⟩:=Option.isSome_iff_exists.1 hj
     exact hI.done j oj hoj (by have:=hall e he1 he2.2;rwa [he2.1] at this))
    hI.old (λk hk=>hI.fresh k (hk.elim (λe=>by rw[e];exact hunf) (hbeh k)))
    (λv w' hg' hv hpres=>by
     have hvp:=zWb (v:=v) hsl' hd ho
     refine ⟨hg',?_,?_,?_,?_,?_,?_⟩
     . cases hdd:o.dst<;>simpa[Act.put] using hI.defers
     . cases hdd:o.dst<;>simpa[Act.put] using hI.size
     . intro j oj hoj hlj
       rw[hvp]
       by_cases hij:j=i
       . subst hij;exact hv
       . have hl:listed.getD j false=true:=by rw[getD_set_ne false (Ne.symm hij)] at hlj;exact hlj
         refine hpres j hij ?_ (hI.done j oj hoj hl)
         cases hb:zAu ops n i j with
         | false=>rfl
         | true=>rw[hbeh j hb] at hl;cases hl
     . intro k hk
       have hki:k≠i:=λe=>by
        subst e
        simp[Array.getD,hil] at hk
       rw[hvp,vI _ hki]
       exact hI.fresh k (by rwa [getD_set_ne false (Ne.symm hki)] at hk)
     . intro t ht
       have e:(a.put o.dst v).tmps.getD t undef=a.tmps.getD t undef:=by
        cases hdd:o.dst with
        | none=>rfl
        | some u =>
         have hne:u≠t:=λe=>by
          have:=Array.all_eq_true'.1 ht o (Array.mem_of_getElem? ho)
          rw[hdd,e] at this
          simp at this
         simp only[Act.put]
         rw[Array.getD_eq_getD_getElem?,Array.getD_eq_getD_getElem?,Array.getElem?_setIfInBounds,if_neg hne]
       rw[e]
       exact hI.old t ht
     . intro k ok e hok2 hlk he hb
       by_cases hki:k=i
       . subst hki
         rw[ho] at hok2
         cases hok2
         exact getD_set_true (hall e he hb)
       . have hl:listed.getD k false=true:=by rw[getD_set_ne false (Ne.symm hki)] at hlk;exact hlk
         exact getD_set_true (hI.closed k ok e hok2 hl he hb))
   unfold wpOp
   rw[ho]
   by_cases hw:Region.wanted o (yielded ops a.tmps)=true
   . rw[if_pos hw] at hgo
     simp only[hw,if_true]
     exact .inl hgo
   . rw[if_neg hw] at hgo
     simp only[hw]
     exact hgo
 . intro listed a w hs hI hr
   have hal:=zBh hf hs hr
   refine hend a w hI.g hI.defers hI.size (λj hj=>?_) hI.old
   obtain ⟨oj,hoj⟩:=Option.isSome_iff_exists.1 hj
   exact hI.done j oj hoj (hal j (Array.getElem?_eq_some_iff.1 hoj).1)
 . unfold zF
   have:=List.countP_le_length (p:=λb => !b) (l:=(Array.replicate ops.size false).toList)
   simpa using this
end
end
section
open Go.RowKit
theorem zEo {f:Nat->Value} {i q:Nat} {v:Value} (hv:v≠undef) (h:zEh f i v q=undef):f q=undef/\q≠i:=by
 by_cases e:q=i
 . subst e;rw[qh] at h;exact absurd h hv
 . rw[vI _ e] at h;exact ⟨h,e⟩
theorem OpsOk3.nil {P:Program} {ops:Array Oper} {Q:Exit->Act->World->Prop} {φ : Nat->(Nat->Value)->World->Prop} {G:World->Prop} {n:Nat} {a0:Act} {i:Nat} : OpsOk3 P ops Q φ G n a0 i []:=trivial
section
variable {P:Program} {w:World} {o:Oper} {ρ : Operand->Value}
theorem zTu (x:Operand) (ho:o.op=.assign x) {v:Value} (hv : ρ x=v):(execOp ρ o).run P w=.ok (.value v) w:=by simp[execOp,ho,hv]
theorem run_appR (x y:Operand) (ho:o.op=.call { callee:=.builtin .append,args:=#[x,y],argTypes:=#[34,34] }) {v u r:Value} {w':World} (hx : ρ x=v) (hy : ρ y=u) (hr:(Builtin.append_ #[34,34] o.type #[v,u]).run P w=.ok r w') :
 (execOp ρ o).run P w=.ok (.value r) w':=by
 unfold execOp
 simp only[ho,resolve,invoke,builtin,Sem.run_bind,Sem.run_pure,Result.andThen_ok,List.map_toArray,List.map_cons,List.map_nil,hx,hy,hr]
theorem zPd (F:FuncId) (x y:Operand) (ts:Array TypeId) (ho:o.op=.call { callee:=.value (.func F),args:=#[x,y],argTypes:=ts }) (hF : ρ (.func F)=.func (.func F) #[] #[]) {v u:Value} (hx : ρ x=v) (hy : ρ y=u) (hc:(callFunc F #[v,u]).run P w=.ok (.enter F #[v,u]) w) :
 (execOp ρ o).run P w=.ok (.enter F #[v,u]) w:=by
 simp[execOp,ho,resolve,invoke,hF,hx,hy,hc,go_sem]
end
end
section
open Go.RowKit
def OwnB (base:Nat) (v:Value) (l:List UInt8) (w:World):Prop:=∃(p:Option Addr) (c:Nat),v=.slice p l.length c/\w.ownsRow base 5 1 v l.length (l.map ub)
theorem zFr {w:World} {base:Nat} {v:Value} {l:List UInt8} (h:w.ownsRow base 5 1 v l.length (l.map ub)) (hl:l≠[]) (h90:l≠[90]):∀g,v.ownBlock=some g->w.heap[g]? ≠ some (.cells #[.int .u8 90] 5 (0,0)):=λg e hc=>by
 rcases h.2 with ⟨h0,_⟩ | ⟨g',cap,cur,hv,_,hg,h1,h2,h3,h4⟩
 . rw[h0] at e;cases e
 . rw[hv] at e
   obtain rfl:g'=g:=by simpa[Value.ownBlock] using e
   rw[hc] at hg
   obtain rfl : #[Value.int .u8 90]=cur:=by injection hg with hg;injection hg
   simp at h3
   have hl1:l.length=1:=by
    have:l.length≠0:=λe=>hl (List.eq_nil_of_length_eq_zero e)
    omega
   obtain ⟨x,rfl⟩:=List.length_eq_one_iff.1 hl1
   simp[ub] at h4
   exact h90 (by rw[show x=90 from UInt8.toNat.inj (show x.toNat=(90:UInt8).toNat by rw[show (90:UInt8).toNat=90 from rfl];omega)])
theorem zKv (a b:Nat) (r:List UInt8):qg a++qg b++r≠[90]:=λe=>by
 have h:=congrArg List.length e
 have h1:(qg a).length≠0:=by unfold qg;simp
 have h2:(qg b).length≠0:=by unfold qg;simp
 simp at h;omega
theorem zYa {w:World} {base n:Nat} {e:TypeId} {size:Nat} {v:Value} {xs:List Value} (h:w.ownsRow 0 e size v n xs) (hb:∀g,v.ownBlock=some g->base<=g):w.ownsRow base e size v n xs:=by
 refine ⟨h.1,?_⟩
 rcases h.2 with h0 | ⟨g,cap,cur,hv,_,h1⟩
 . exact .inl h0
 . exact .inr ⟨g,cap,cur,hv,hb g (by rw[hv];rfl),h1⟩
theorem OwnB.ne {base:Nat} {v:Value} {l:List UInt8} {w:World} (h:OwnB base v l w):v≠undef:=by
 obtain ⟨p,c,rfl,_⟩:=h
 simp[undef]
theorem OwnB.grown {base:Nat} {v:Value} {l:List UInt8} {w w':World} {row:Option Nat} (h:OwnB base v l w) (hg:w.grownBy w' row) (hn:∀g,row=some g->v.ownBlock≠some g):OwnB base v l w':=by
 obtain ⟨p,c,e,h1⟩:=h
 exact ⟨p,c,e,vS h1 λg hg'=>hg.block g (h1.lt g hg').2 λe'=>hn g e'.symm hg'⟩
theorem zJm {base:Nat} {row:Option Nat} {w:World} {l:List UInt8} {e:Ending} {w':World} (h:zRc row w l e w') (hl:l≠[]) (hrow:∀g,row=some g->base<=g) (hb:base<=w.heap.size) :
 ∃v,e=.returned v/\OwnB base v l w'/\w.grownBy w' row/\∀g,v.ownBlock=some g->row=some g\/w.heap.size<=g:=by
 obtain ⟨p,c,L,rfl,hL,hc,hon,hg⟩:=h
 obtain rfl:=hL.out
 rcases hon with ⟨h1,h2⟩ | ⟨h1,_⟩
 . refine ⟨_,rfl,⟨p,c,rfl,zYa h1 λg e=>?_⟩,hg,λg e=>?_⟩
   . rcases h2 with h2 | h2
     . exact hrow g (h2.symm.trans e)
     . exact Nat.le_trans hb (h2 g e)
   . rcases h2 with h2 | h2
     . exact .inl (h2.symm.trans e)
     . exact .inr (h2 g e)
 . exact absurd h1 hl
def sbK (R base:Nat) (P S:Int) (A:Option Addr) (n c:Nat) (l1 l2 l3 l4:List UInt8) (j:Nat) (f:Nat->Value) (w:World):Prop:=match j with
 | 0=>f 0=.pointer (some ⟨R,0,none⟩)
 | 1=>f 1=.int .i64 P
 | 2=>f 5=undef->OwnB base (f 2) l1 w
 | 3=>f 3=.pointer (some ⟨R,1,none⟩)
 | 4=>f 4=.int .i64 S
 | 5=>f 8=undef->OwnB base (f 5) l2 w
 | 6=>f 6=.pointer (some ⟨R,2,none⟩)
 | 7=>f 7=.slice A n c
 | 8=>f 5≠undef/\(f 10=undef->OwnB base (f 8) l3 w)
 | 9=>∃g,f 9=.slice (some ⟨g,0,none⟩) 1 1/\base<=g/\g<w.heap.size/\w.heap[g]? = some (.cells #[.int .u8 90] 5 (0,0))
 | 10=>OwnB base (f 10) l4 w
 | 11=>f 11=f 10
 | _=>True
section
variable {R base:Nat} {P S:Int} {A:Option Addr} {n c:Nat} {l1 l2 l3 l4:List UInt8}
theorem sbK.keep {i j:Nat} {f:Nat->Value} {v:Value} {w w':World} {row:Option Nat} (hij:j≠i) (hv:v≠undef) (hg:w.grownBy w' row)
 (hb5:i=5->j≠8/\j≠10) (hb8:i=8->j≠10) (hb2:i=2->j≠5/\j≠8/\j≠10) (hb10:i=10->j≠11)
 (hrow:∀g,row=some g->(i=5/\(f 2).ownBlock=some g)\/(i=8/\(f 5).ownBlock=some g/\f 5≠undef)\/(i=10/\(f 8).ownBlock=some g/\f 5≠undef/\f 8≠undef))
 (h90:∀g,row=some g->w.heap[g]? ≠ some (.cells #[.int .u8 90] 5 (0,0)))
 (h:sbK R base P S A n c l1 l2 l3 l4 j f w):sbK R base P S A n c l1 l2 l3 l4 j (zEh f i v) w':=by
 match j,h with
 | 0,h=>show zEh f i v 0=_;rw[vI _ hij];exact h
 | 1,h=>show zEh f i v 1=_;rw[vI _ hij];exact h
 | 3,h=>show zEh f i v 3=_;rw[vI _ hij];exact h
 | 4,h=>show zEh f i v 4=_;rw[vI _ hij];exact h
 | 6,h=>show zEh f i v 6=_;rw[vI _ hij];exact h
 | 7,h=>show zEh f i v 7=_;rw[vI _ hij];exact h
 | 2,h =>
  intro hu
  show OwnB base (zEh f i v 2) l1 w'
  rw[vI _ hij]
  obtain ⟨h5,hi⟩:=zEo hv hu
  refine (h h5).grown hg λg e=>?_
  rcases hrow g e with ⟨k,_⟩ | ⟨_,_,k⟩ | ⟨_,_,k,_⟩
  . exact absurd k.symm hi
  . exact absurd h5 k
  . exact absurd h5 k
 | 5,h =>
  intro hu
  show OwnB base (zEh f i v 5) l2 w'
  rw[vI _ hij]
  obtain ⟨h8,hi⟩:=zEo hv hu
  refine (h h8).grown hg λg e=>?_
  rcases hrow g e with ⟨k,_⟩ | ⟨k,_⟩ | ⟨_,_,_,k⟩
  . exact absurd k.symm hij
  . exact absurd k.symm hi
  . exact absurd h8 k
 | 8,h =>
  obtain ⟨hf5,h⟩:=h
  refine ⟨λe=>hf5 (zEo hv e).1,λhu=>?_⟩
  show OwnB base (zEh f i v 8) l3 w'
  rw[vI _ hij]
  obtain ⟨h10,hi⟩:=zEo hv hu
  refine (h h10).grown hg λg e=>?_
  rcases hrow g e with ⟨k,_⟩ | ⟨k,_⟩ | ⟨k,_⟩
  . exact absurd rfl (hb5 k).1
  . exact absurd k.symm hij
  . exact absurd k.symm hi
 | 9,h =>
  obtain ⟨g,e1,e2,e3,e4⟩:=h
  exact ⟨g,by rw[vI _ hij];exact e1,e2,Nat.lt_of_lt_of_le e3 hg.size,(hg.block g e3 (λe=>h90 g e.symm e4)).trans e4⟩
 | 10,h =>
  show OwnB base (zEh f i v 10) l4 w'
  rw[vI _ hij]
  refine OwnB.grown h hg λg e=>?_
  rcases hrow g e with ⟨k,_⟩ | ⟨k,_⟩ | ⟨k,_⟩
  . exact absurd rfl (hb5 k).2
  . exact absurd rfl (hb8 k)
  . exact absurd k.symm hij
 | 11,h =>
  show zEh f i v 11=zEh f i v 10
  rw[vI _ hij,vI _ (λe=>hb10 e.symm rfl)];exact h
 | _+12,_=>trivial
theorem zUt (w:World):w.grownBy w none:=World.grownBy.refl w _
theorem sbK.same {i j:Nat} {f:Nat->Value} {v:Value} {w:World} (hij:j≠i) (hv:v≠undef) (hi:i≠2/\i≠5/\i≠8/\i≠10) (h:sbK R base P S A n c l1 l2 l3 l4 j f w):sbK R base P S A n c l1 l2 l3 l4 j (zEh f i v) w :=
 h.keep hij hv (zUt w) (λe=>absurd e hi.2.1) (λe=>absurd e hi.2.2.1) (λe=>absurd e hi.1) (λe=>absurd e hi.2.2.2) (λg e=>by cases e) (λg e=>by cases e)
end
theorem zPe {o:Oper} {ρ : Operand->Value} {w:World} {R:Nat} (x:Operand) (k:Nat) (hk:k<3) (ho:o.op=.fieldAddr 47 x k) (hx : ρ x=.pointer (some ⟨R,0,none⟩)):(execOp ρ o).run Tryz.prog w=.ok (.value (.pointer (some ⟨R,k,none⟩))) w:=by
 match k,hk with
 | 0,_=>simp[execOp,ho,hx,go_sem]
 | 1,_=>simp[execOp,ho,hx,go_sem]
 | 2,_=>simp[execOp,ho,hx,go_sem]
theorem zWu {o:Oper} {ρ : Operand->Value} {w:World} {R k:Nat} {v:Value} (ty:TypeId) (x:Operand) (ho:o.op=.load ty x) (hx : ρ x=.pointer (some ⟨R,k,none⟩)) (hc:w.cell? ⟨R,k,none⟩=some v) (hty:ty=3\/ty=34):(execOp ρ o).run Tryz.prog w=.ok (.value v) w:=by
 rcases hty with rfl | rfl
 . simp[execOp,ho,hx,hc,go_sem]
 . simp[execOp,ho,hx,hc,go_sem]
theorem zTt {o:Oper} {ρ : Operand->Value} {w:World} (ho:o.op=.buildSlice 34 1 #[(0,.const (.int .u8 90))]) (hc : ρ (.const (.int .u8 90))=.int .u8 90):(execOp ρ o).run Tryz.prog w=.ok (.value (.slice (some ⟨w.heap.size,0,none⟩) 1 1)) (w.alloc (.cells #[.int .u8 90] 5)):=by
 simp[execOp,ho,hc,go_sem]
def refL (p s:Int) (d:List UInt8):List UInt8:=qg (qc p)++qg (qc s)++qg (qc d.length)++d++[90]
theorem zDq (n:Nat):qg n≠[]:=by unfold qg;simp
theorem zMj (B:Nat) (p s:Int) (A:Option Addr) (c:Nat) (d:List UInt8) (w:World) (hr:RB w B A d) (hB:B<=w.heap.size) (hd:d.length<=70368744177664) (h90:qg (qc p)≠[90]) :
 Calls Tryz.prog 80 #[.agg #[.int .i64 p,.int .i64 s,.slice A d.length c]] w (FreshO w (refL p s d)):=by
 go_enter Tryz.func80,Tryz.ntmps80
 go_upto_region 1 with fail
 have C:=zCy (heap_alloc_new w (.cells #[.int .i64 p,.int .i64 s,.slice A d.length c] 47))
 have C0:=hI C.1
 have C1:=hI C.2.1
 have C2:=hI C.2.2
 clear C
 have hr0:=hI (hr.alloc hB (.cells #[.int .i64 p,.int .i64 s,.slice A d.length c] 47))
 have hl2:(qg (qc p)++qg (qc s)).length<=70368744177000:=by
  have h1:=(qn (qc p) (by have:=vn p;omega)).2
  have h2:=(qn (qc s) (by have:=vn s;omega)).2
  simp;omega
 refine zPg 6 (λj f w'=>sbK w.heap.size (w.heap.size+1) p s A d.length c (qg (qc p)) (qg (qc p)++qg (qc s)) (qg (qc p)++qg (qc s)++qg (qc d.length)++d) (refL p s d) j f w') (λw'=>Below (w.heap.size+1) (w.alloc (.cells #[.int .i64 p,.int .i64 s,.slice A d.length c] 47)) w') (by kernel_rfl) (by kernel_rfl) (by kernel_rfl) (by kernel_rfl) bR.drew ?_ ?_
 . obtain ⟨i0,hi,hz0,hz1,hz2⟩:=info_parts vP
   refine OpsOk3.cons ?_ (OpsOk3.cons ?_ (OpsOk3.cons ?_ (OpsOk3.cons ?_ (OpsOk3.cons ?_ (OpsOk3.cons ?_ (OpsOk3.cons ?_ (OpsOk3.cons ?_ (OpsOk3.cons ?_ (OpsOk3.cons ?_ (OpsOk3.cons ?_ (OpsOk3.cons ?_ (OpsOk3.nil))))))))))))
   . intro a w1 K hG need old fresh hK
     exact qB (v:=.pointer (some ⟨w.heap.size,0,none⟩)) (qA rfl) (zPe (.tmp 1) 0 (by decide) rfl (old 1 (by kernel_rfl))) (hK _ w1 hG (qh _ _ _) (λj hj hbh hs=>hs.same hj (by simp[undef]) (by decide)))
   . intro a w1 K hG need old fresh hK
     have e0:=need 0 (by kernel_rfl) (by kernel_rfl)
     have hc:=(hG.cell (p:=⟨w.heap.size,0,none⟩) (by simp)).trans C0.out
     exact qB (v:=.int .i64 p) (qA rfl) (zWu _ (.tmp 3) rfl (show a.eval (.tmp 3)=.pointer (some ⟨w.heap.size,0,none⟩) from e0) hc (by simp)) (hK _ w1 hG (qh _ _ _) (λj hj hbh hs=>hs.same hj (by simp[undef]) (by decide)))
   . intro a w1 K hG need old fresh hK
     have hsz:w.heap.size+1<=w1.heap.size:=by have:=hG.size;simpa using this
     have e1:=need 1 (by kernel_rfl) (by kernel_rfl)
     have f2:=fresh 2 (.inl rfl)
     refine qM (qA rfl) (zPd 113 (.const (.slice none 0 0)) (.tmp 4) _ rfl rfl rfl (show a.eval (.tmp 4)=.int .i64 p from e1) (by go_simp)) ((zPm none none 0 [] p w1 (.inl ⟨World.ownsRow_nil _ _ _ _,.inl rfl⟩) (λg e=>by cases e) (by simp)).mono ?_)
     intro e w2 hpost
     obtain ⟨v,rfl,hv,hgr,hnew⟩:=zJm (base:=w.heap.size+1) hpost (by simpa using zDq _) (λg e=>by cases e) (by omega)
     rw[List.nil_append] at hv
     refine ⟨v,rfl,hK _ w2 (hG.grown hgr hsz λk e=>by cases e) (λ_=>?_) (λj hj hbh hs=>hs.keep hj hv.ne hgr (λe=>absurd e (by decide)) (λe=>absurd e (by decide)) (λ_=>⟨λe=>?_,λe=>?_,λe=>?_⟩) (λe=>absurd e (by decide)) (λg e=>by cases e) (λg e=>by cases e))⟩
     . rw[qh];exact hv
     all_goals subst e;exact absurd (show zAu _ 6 _ _=true by kernel_rfl) (by rw[hbh];decide)
   . intro a w1 K hG need old fresh hK
     exact qB (v:=.pointer (some ⟨w.heap.size,1,none⟩)) (qA rfl) (zPe (.tmp 1) 1 (by decide) rfl (old 1 (by kernel_rfl))) (hK _ w1 hG (qh _ _ _) (λj hj hbh hs=>hs.same hj (by simp[undef]) (by decide)))
   . intro a w1 K hG need old fresh hK
     have e0:=need 3 (by kernel_rfl) (by kernel_rfl)
     have hc:=(hG.cell (p:=⟨w.heap.size,1,none⟩) (by simp)).trans C1.out
     exact qB (v:=.int .i64 s) (qA rfl) (zWu _ (.tmp 6) rfl (show a.eval (.tmp 6)=.pointer (some ⟨w.heap.size,1,none⟩) from e0) hc (by simp)) (hK _ w1 hG (qh _ _ _) (λj hj hbh hs=>hs.same hj (by simp[undef]) (by decide)))
   . intro a w1 K hG need old fresh hK
     have hsz:w.heap.size+1<=w1.heap.size:=by have:=hG.size;simpa using this
     have e1:=need 4 (by kernel_rfl) (by kernel_rfl)
     obtain ⟨p2,c2,e2,how⟩:=need 2 (by kernel_rfl) (by kernel_rfl) (fresh 5 (.inl rfl))
     rw[e2] at how
     refine qM (qA rfl) (zPd 113 (.tmp 5) (.tmp 7) _ rfl rfl (show a.eval (.tmp 5)=_ from e2) (show a.eval (.tmp 7)=.int .i64 s from e1) (by go_simp)) ((zPm (Value.slice p2 (qg (qc p)).length c2).ownBlock p2 c2 (qg (qc p)) s w1 (.inl ⟨zMv how (Nat.zero_le _),.inl rfl⟩) (λg e=>(how.lt g e).2) (by have:=(qn (qc p) (by have:=vn p;omega)).2;omega)).mono ?_)
     intro e w2 hpost
     obtain ⟨v,rfl,hv,hgr,hnew⟩:=zJm (base:=w.heap.size+1) hpost (by simp[zDq]) (λg e=>(how.lt g e).1) (by omega)
     refine ⟨v,rfl,hK _ w2 (hG.grown hgr hsz λk e=>(how.lt k e).1) (λ_=>?_) (λj hj hbh hs=>hs.keep hj hv.ne hgr (λ_=>⟨λe=>?_,λe=>?_⟩) (λe=>absurd e (by decide)) (λe=>absurd e (by decide)) (λe=>absurd e (by decide)) (λg e=>.inl ⟨rfl,by rw[e2];exact e⟩) (zFr how (zDq _) h90))⟩
     . rw[qh];exact hv
     all_goals subst e;exact absurd (show zAu _ 6 _ _=true by kernel_rfl) (by rw[hbh];decide)
   . intro a w1 K hG need old fresh hK
     exact qB (v:=.pointer (some ⟨w.heap.size,2,none⟩)) (qA rfl) (zPe (.tmp 1) 2 (by decide) rfl (old 1 (by kernel_rfl))) (hK _ w1 hG (qh _ _ _) (λj hj hbh hs=>hs.same hj (by simp[undef]) (by decide)))
   . intro a w1 K hG need old fresh hK
     have e0:=need 6 (by kernel_rfl) (by kernel_rfl)
     have hc:=(hG.cell (p:=⟨w.heap.size,2,none⟩) (by simp)).trans C2.out
     exact qB (v:=.slice A d.length c) (qA rfl) (zWu _ (.tmp 9) rfl (show a.eval (.tmp 9)=.pointer (some ⟨w.heap.size,2,none⟩) from e0) hc (by simp)) (hK _ w1 hG (qh _ _ _) (λj hj hbh hs=>hs.same hj (by simp[undef]) (by decide)))
   . intro a w1 K hG need old fresh hK
     have hsz:w.heap.size+1<=w1.heap.size:=by have:=hG.size;simpa using this
     have e1:=need 7 (by kernel_rfl) (by kernel_rfl)
     obtain ⟨p2,c2,e2,how⟩:=need 5 (by kernel_rfl) (by kernel_rfl) (fresh 8 (.inl rfl))
     have n5:yJ _ a 5≠undef:=λe=>by rw[e2] at e;simp[undef] at e
     rw[e2] at how
     have hRd:RB w1 B A d:=hr0.out.below hG (by omega)
     refine qM (qA rfl) (zPd 112 (.tmp 8) (.tmp 10) _ rfl rfl (show a.eval (.tmp 8)=_ from e2) (show a.eval (.tmp 10)=.slice A d.length c from e1) (by go_simp)) ((zPj (Value.slice p2 (qg (qc p)++qg (qc s)).length c2).ownBlock B p2 A c2 c (qg (qc p)++qg (qc s)) d w1 (.inl ⟨zMv how (Nat.zero_le _),.inl rfl⟩) (λg e=>(how.lt g e).2) hRd (by omega) (λhn ad e e'=>by obtain ⟨ad',e3,hb',_⟩:=hr hn;rw[e] at e3;cases e3;have:=(how.lt _ e').1;omega) hl2 (by omega)).mono ?_)
     intro e w2 hpost
     obtain ⟨v,rfl,hv,hgr,hnew⟩:=zJm (base:=w.heap.size+1) hpost (by simp[zDq]) (λg e=>(how.lt g e).1) (by omega)
     refine ⟨v,rfl,hK _ w2 (hG.grown hgr hsz λk e=>(how.lt k e).1) ⟨by rw[vI _ (by decide)];exact n5,λ_=>?_⟩ (λj hj hbh hs=>hs.keep hj hv.ne hgr (λe=>absurd e (by decide)) (λ_ e=>?_) (λe=>absurd e (by decide)) (λe=>absurd e (by decide)) (λg e=>.inr (.inl ⟨rfl,by rw[e2];exact e,n5⟩)) (zFr how (by simp[zDq]) (λe=>zKv _ _ [] (by simpa using e))))⟩
     . rw[qh];exact hv
     all_goals subst e;exact absurd (show zAu _ 6 _ _=true by kernel_rfl) (by rw[hbh];decide)
   . intro a w1 K hG need old fresh hK
     have hsz:w.heap.size+1<=w1.heap.size:=by have:=hG.size;simpa using this
     have hba:=World.grownBy_alloc w1 (.cells #[.int .u8 90] 5) none
     refine qB (v:=.slice (some ⟨w1.heap.size,0,none⟩) 1 1) (qA rfl) (zTt rfl rfl) (hK _ _ (hG.alloc hsz _) ?_ (λj hj hbh hs=>hs.keep hj (by simp[undef]) hba (λe=>absurd e (by decide)) (λe=>absurd e (by decide)) (λe=>absurd e (by decide)) (λe=>absurd e (by decide)) (λg e=>by cases e) (λg e=>by cases e)))
     exact ⟨w1.heap.size,qh _ _ _,by omega,by simp,heap_alloc_new w1 _⟩
   . intro a w1 K hG need old fresh hK
     have hsz:w.heap.size+1<=w1.heap.size:=by have:=hG.size;simpa using this
     obtain ⟨g,e9,hg1,hg2,hg3⟩:=need 9 (by kernel_rfl) (by kernel_rfl)
     obtain ⟨n5,h8⟩:=need 8 (by kernel_rfl) (by kernel_rfl)
     obtain ⟨p2,c2,e2,how⟩:=h8 (fresh 10 (.inl rfl))
     have n8:yJ _ a 8≠undef:=λe=>by rw[e2] at e;simp[undef] at e
     rw[e2] at how
     have hR9:RB w1 w1.heap.size (some ⟨g,0,none⟩) [90]:=λ_=>⟨_,rfl,hg2,λj hj=>by
      obtain rfl:j=0:=by simpa using hj
      simp[Addr.add,World.cell?,hg3,ub]⟩
     have hl3:(qg (qc p)++qg (qc s)++qg (qc d.length)++d).length+1<=140737488355328:=by
      have h3:=(qn (qc d.length) (by have:=vn d.length;omega)).2
      simp at hl2 ⊢;omega
     obtain ⟨p3,cap,w2,hrun,how2,hgr,hob⟩:=yD (P:=Tryz.prog) w1 (w.heap.size+1) 34 34 5 i0 _ Tryz.underlying34 hi hz0 hz1 hz2 rfl _ _ how w1.heap.size (some ⟨g,0,none⟩) 1 [90] hR9 hl3 hsz
     refine qB (qA rfl) (run_appR (.tmp 11) (.tmp 12) rfl (show a.eval (.tmp 11)=_ from e2) (show a.eval (.tmp 12)=_ from e9) hrun) (hK _ w2 (hG.grown hgr hsz λk e=>(how.lt k e).1) ?_ (λj hj hbh hs=>hs.keep hj (by simp[undef]) hgr (λe=>absurd e (by decide)) (λe=>absurd e (by decide)) (λe=>absurd e (by decide)) (λ_ e=>?_) (λg e=>.inr (.inr ⟨rfl,by rw[e2];exact e,n5,n8⟩)) (zFr how (by simp[zDq]) (λe=>zKv (qc p) (qc s) (qg (qc d.length)++d) (by simpa using e)))))
     . exact ⟨p3,cap,qh _ _ _,by rw[qh];exact how2⟩
     . subst e;exact absurd (show zAu _ 6 _ _=true by kernel_rfl) (by rw[hbh];decide)
   . intro a w1 K hG need old fresh hK
     have h10:OwnB _ _ _ _:=need 10 (by kernel_rfl) (by kernel_rfl)
     refine qB (qA rfl) (zTu (.tmp 13) rfl rfl) (hK _ w1 hG ?_ (λj hj hbh hs=>hs.same hj h10.ne (by decide)))
     show zEh _ 11 _ 11=zEh _ 11 _ 10
     rw[qh,vI _ (by decide)];rfl
 . intro a w' hG hde hsz hφ hold
   obtain ⟨p2,c2,e2,how⟩:=hφ 10 (by kernel_rfl)
   have h11:a.tmps.getD 2 undef=.slice p2 (refL p s d).length c2:=(show a.tmps.getD 2 undef=_ from hφ 11 (by kernel_rfl)).trans e2
   rw[e2] at how
   go_wp2
   refine bodyPost_ret (v:=.slice p2 (refL p s d).length c2) ?_ hde ⟨p2,c2,refL p s d,rfl,rfl,zMv how (Nat.le_succ _),((Below.refl w.heap.size w).alloc nL _).trans (hG.mono (by omega))⟩
   rw[results_tmp (t:=2) rfl,h11]
end
section
open Go.RowKit
theorem zTz {p s:Int} {d:List UInt8} (h1:0<=p/\p<=60) (h2:1<=s/\s<=1099511627776) (h3:d.length<=2000):refL p s d=qo p.toNat s.toNat d:=by
 obtain ⟨P,rfl⟩:∃P:Nat,p=(P:Int):=⟨p.toNat,by omega⟩
 obtain ⟨S,rfl⟩:∃S:Nat,s=(S:Int):=⟨s.toNat,by omega⟩
 unfold refL qo
 rw[yB P (by omega),yB S (by omega),yB d.length (by omega)]
 rfl
theorem zUq {p:Int} (h1:0<=p/\p<=60):qg (qc p)≠[90]:=by
 obtain ⟨P,rfl⟩:∃P:Nat,p=(P:Int):=⟨p.toNat,by omega⟩
 rw[yB P (by omega),zUh P (by omega)]
 intro e
 have:=congrArg UInt8.toNat (List.singleton_inj.1 e)
 rw[vA P (by omega)] at this
 simp at this;omega
theorem yA (B:Nat) (p s:Int) (A:Option Addr) (c:Nat) (d:List UInt8) (w:World) (hr:RB w B A d) (hB:B<=w.heap.size) :
 Calls Tryz.prog 45 #[.agg #[.int .i64 p,.int .i64 s,.slice A d.length c]] w λe w'=>e=.returned (.bool (decide (vg p s d)))/\Below w.heap.size w w':=by
 have hr0:=hI (hr.alloc hB (.cells #[.int .i64 p,.int .i64 s,.slice A d.length c] 47))
 have hb0:=hI ((Below.refl w.heap.size w).alloc nL (.cells #[.int .i64 p,.int .i64 s,.slice A d.length c] 47))
 by_cases h:(0<=p/\p<=60)/\(1<=s/\s<=1099511627776)/\d.length<=2000
 . obtain ⟨h1,h2,h3⟩:=h
   have E:=hI (zTz h1 h2 h3)
   have N:=hI (zUq h1)
   have H1:=hI h1
   have H2:=hI h2
   obtain ⟨h11,h12⟩:=h1
   obtain ⟨h21,h22⟩:=h2
   go_enter Tryz.func45,Tryz.ntmps45
   go_wp2_with (go_at_call 80;refine (zMj B p s A c d _ hr0.out (by simp;omega) (by omega) N.out).mono ?_;rintro e w1 ⟨A1,c1,L1,rfl,hL1,hown1,hb1⟩;have HL:=hI (hL1.out.trans E.out);have HB:=hI (hb0.out.trans (hb1.mono (by simp)));clear hL1 hown1 hb1)
   go_ret
   refine ⟨ret_bool ?_,HB.out⟩
   have e:vg p s d↔(L1.length:Int)<=2000:=by
    unfold vg
    rw[<- HL.out]
    constructor
    . intro h;omega
    . intro h;exact ⟨H1.out,H2.out,h3,by omega⟩
   exact decide_eq_decide.2 e.symm
 . have HM:¬vg p s d:=λhm=>h ⟨hm.1,hm.2.1,hm.2.2.1⟩
   rw[decide_eq_false HM]
   have HH:=hI h
   clear h HM
   go_enter Tryz.func45,Tryz.ntmps45
   go_wp2_with fail
   . exact absurd ⟨⟨by omega,by omega⟩,⟨by omega,by omega⟩,by omega⟩ HH.out
   all_goals
    go_ret
    exact ⟨rfl,hb0.out⟩
end
end Go.Proofs.YtinkkmlbhkfmnaaGreat
