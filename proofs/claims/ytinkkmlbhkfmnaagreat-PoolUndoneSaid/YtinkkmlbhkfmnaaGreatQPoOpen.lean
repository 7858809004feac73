/- A part of what the last text proves: PoOpen. -/
import Derived.Deep.Slices
import Derived.Deep.Grids
import Derived.Test.YtinkkmlbhkfmnaaGreatQPi
set_option maxRecDepth 100000
set_option maxHeartbeats 8000000
namespace Go.Proofs.YtinkkmlbhkfmnaaGreat
open Go.RowKit Go.ChangeShapes Go.WideShapes
theorem zVg:Tryz.prog.cellsOf 4=1:=by kernel_rfl
theorem zGq:Tryz.prog.cellsOf 39=1:=by kernel_rfl
theorem zOg:Tryz.prog.cellsOf 41=6:=by kernel_rfl
theorem arr_at {α : Type} {enc : α -> Value} {w:World} {ad:Addr} {l:List α} (hc:∀j (h:j<l.length),w.cell? (ad.add j)=some (enc l[j])):Arr enc w (some ad) l:=λh0=>by
 obtain ⟨b,off,spot⟩:=ad
 have h:=hc 0 h0
 have hs:spot=none:=by simpa[Addr.add] using World.cell?_spot h
 subst hs
 have e:∀j,(⟨b,off,none⟩:Addr).add j=⟨b,off+j,none⟩:=λj=>by
  unfold Addr.add
  split
  . next e=>subst e;rfl
  . rfl
 refine ⟨b,off,rfl,?_,λj hj=>by rw[<- e];exact hc j hj⟩
 rw[e] at h
 exact World.block_lt_of_cell? w _ h
theorem ba_of {w:World} {ad:Addr} {l:List Bool} (hc:∀j (h:j<l.length),w.cell? (ad.add j)=some (.bool l[j])):BA w (some ad) l:=arr_at hc
structure CalOk (W:World) (d:Cal):Prop where
 rb:RB W W.heap.size d.A d.d
 le:d.d.length<=d.c
 lm:d.d.length<=maxLen
 pk:BA W d.A2 d.pk
 le2:d.pk.length<=d.c2
 lm2:d.pk.length<=maxLen
 wf:(Lit.int .i64 d.dO).wf=true/\(Lit.int .i64 d.n).wf=true/\(Lit.int .i64 d.keep).wf=true/\(Lit.int .i64 d.page).wf=true
 nn:d.A=none->d.d.length=0/\d.c=0
theorem zGx {w:World} {ad:Addr} {v:Value} (h:w.cell? ad=some v):ad=⟨ad.block,ad.off,none⟩/\ad.block<w.heap.size:=by
 refine ⟨?_,World.block_lt_of_cell? w _ h⟩
 obtain ⟨b,o,s⟩:=ad
 cases s with
 | none=>rfl
 | some x =>
  exfalso
  unfold World.cell? at h
  simp only[Option.isSome_some,if_true] at h
  split at h<;>cases h
theorem add_addO (a:Addr) (i j:Nat):(a.add i).add j=a.add (i+j):=by
 unfold Addr.add
 split
 . next h=>subst h;simp
 . split
   . next h=>subst h;simp_all
   . rw[if_neg (by omega),Nat.add_assoc]
theorem zYi {H:Type} {enc:TypeId × Value->H} {W:World} {r:Reach} {b0:Nat} {v:Value} {d:DataW H} {p:List MemPlace} (hv:Value.okWide Tryz.prog W r b0 25 v) (h:DataW.Trod enc Tryz.prog W 0 (λ_=>true) true 25 v d p) :
 ∃(A:Option Addr) (cap:Nat) (l:List Cal),v=.slice A l.length cap/\l.length<=maxLen/\l.length<=cap/\CalsLie W A l/\∀q∈l,CalOk W q:=by
 obtain ⟨a0,len0,cap0,rfl⟩:=okWide_slice Tryz.underlying25 hv
 obtain ⟨fuel,hf⟩:=h
 rcases Deep.open_slice Tryz.underlying25 hf with ⟨hcs,_⟩ | ⟨a,len,cap,m,k,D,Pl,hcs,_,hl,hm,hmm,_,hx⟩
 . simp[Value.cells] at hcs
   obtain ⟨rfl,rfl,rfl⟩:=hcs
   exact ⟨none,0,[],rfl,by simp,by simp,λi hi=>absurd hi (by simp),λq hq=>absurd hq (by simp)⟩
 . simp[Value.cells] at hcs
   obtain ⟨rfl,rfl,rfl⟩:=hcs
   have hml:len0<=m:=by simp at hmm;omega
   have hplain:0<len0->a.spot=none:=λh0=>by
    obtain ⟨cs',h1,_⟩:=hx 0 (by omega)
    rw[zOg] at h1
    obtain ⟨_,hlen,hcell⟩:=World.cells?_some h1
    have h9:=hcell 0 (by omega)
    rw[Nat.zero_mul,show (a.add 0).add 0=a from rfl] at h9
    match cs',hlen with
    | [v0,v1,v2,v3,v4,v5],_=>exact congrArg Addr.spot (zGx (w:=W) (v:=v0) (by simpa using h9)).1
   have each:∀i,i<len0->∃q:Cal,CalAt W (some a) i q/\CalOk W q:=λi hi=>by
    obtain ⟨cs',h1,h2⟩:=hx i (by omega)
    rw[zOg] at h1
    obtain ⟨_,hlen,hcell⟩:=World.cells?_some h1
    obtain ⟨xs,n,_,_,_,hxl,hfl⟩:=DataW.trod_struct Tryz.underlying41 h2
    match cs',hlen with
    | [v0,v1,v2,v3,v4,v5],_ =>
     have get:∀i,i<6->∃y,xs[i]? = some y:=λi hi=>⟨xs[i]'(by rw[hxl];exact hi),List.getElem?_eq_getElem _⟩
     have h0:=hfl 0 _ rfl
     have h1:=hfl 1 _ rfl
     have h2:=hfl 2 _ rfl
     have h3:=hfl 3 _ rfl
     have h4:=hfl 4 _ rfl
     have h5:=hfl 5 _ rfl
     obtain ⟨y0,g0⟩:=get 0 (by omega)
     obtain ⟨y1,g1⟩:=get 1 (by omega)
     obtain ⟨y2,g2⟩:=get 2 (by omega)
     obtain ⟨y3,g3⟩:=get 3 (by omega)
     obtain ⟨y4,g4⟩:=get 4 (by omega)
     obtain ⟨y5,g5⟩:=get 5 (by omega)
     rw[g0] at h0
     rw[g1] at h1
     rw[g2] at h2
     rw[g3] at h3
     rw[g4] at h4
     rw[g5] at h5
     obtain ⟨x0,e0,_,w0⟩:=DataW.trod_int Tryz.underlying3 h0
     obtain ⟨x1,e1,_,w1⟩:=DataW.trod_int Tryz.underlying3 h1
     obtain ⟨x2,e2,_,w2⟩:=DataW.trod_int Tryz.underlying3 h2
     obtain ⟨x3,e3,_,w3⟩:=DataW.trod_int Tryz.underlying3 h3
     simp[zGo] at e0 e1 e2 e3
     subst e0 e1 e2 e3
     obtain ⟨Ad,cd,dd,ed,r1,r2,r3,r7⟩:∃(A:Option Addr) (c:Nat) (l:List UInt8),v4=.slice A l.length c/\RB W W.heap.size A l/\l.length<=c/\l.length<=maxLen/\(A=none->l.length=0/\c=0):=by
      rcases open_ints Tryz.underlying34 Tryz.underlying5 zIv h4 with ⟨hcs,_⟩ | ⟨a',len',cap',zs,hcs,_,hl',hm',hz,_,hcell',hw'⟩
      . simp[zGp] at hcs
        subst hcs
        exact ⟨none,0,[],rfl,.nil,Nat.le_refl _,Nat.zero_le _,λ_=>⟨rfl,rfl⟩⟩
      . simp[zGp] at hcs
        subst hcs
        have hlen:((zs.take len').map λz=>UInt8.ofNat z.toNat).length=len':=by simp at hz ⊢;omega
        have hzl:zs.length=cap':=by simpa using hz
        exact ⟨some a',cap',_,by rw[hlen],rb_of (by omega) hw' (λa'' e=>by cases e;exact hcell') (λe=>by cases e),by rw[hlen];omega,by rw[hlen];omega,λe=>by cases e⟩
     obtain ⟨Ab,cb,pk,eb,r4,r5,r6⟩:∃(A:Option Addr) (c:Nat) (l:List Bool),v5=.slice A l.length c/\BA W A l/\l.length<=c/\l.length<=maxLen:=by
      rcases Deep.open_bools Tryz.underlying39 Tryz.underlying4 zVg h5 with ⟨hcs,_⟩ | ⟨a',len',cap',Bv,hcs,_,hl',hm',_,hcell'⟩
      . simp[zGq] at hcs
        subst hcs
        exact ⟨none,0,[],rfl,λh=>absurd h (by simp),Nat.le_refl _,Nat.zero_le _⟩
      . simp[zGq] at hcs
        subst hcs
        refine ⟨some a',cap',(List.range len').map Bv,by simp,ba_of λj hj=>?_,by simp;omega,by simp;omega⟩
        rw[hcell' j (by simp at hj;omega)]
        simp
     subst ed eb
     have c0:=hcell 0 (by omega)
     have c1:=hcell 1 (by omega)
     have c2:=hcell 2 (by omega)
     have c3:=hcell 3 (by omega)
     have c4:=hcell 4 (by omega)
     have c5:=hcell 5 (by omega)
     rw[add_addO] at c0 c1 c2 c3 c4 c5
     simp only[List.getElem?_cons_zero,List.getElem?_cons_succ,Nat.add_zero] at c0 c1 c2 c3 c4 c5
     obtain ⟨ea,hab⟩:=zGx c0
     have hsp:a.spot=none:=hplain (by omega)
     obtain ⟨ab,ao,sp⟩:=a
     obtain rfl:sp=none:=hsp
     have hadd:∀j,(⟨ab,ao,none⟩:Addr).add j=⟨ab,ao+j,none⟩:=λj=>by
      unfold Addr.add;split
      . next e=>rw[e];rfl
      . rfl
     rw[hadd] at c0 c1 c2 c3 c4 c5
     rw[vH] at hab
     exact ⟨⟨x0,x1,x2,x3,Ad,cd,dd,Ab,cb,pk⟩,⟨ab,ao,rfl,hab,⟨c0,c1,c2,c3,c4,c5⟩⟩,r1,r2,r3,r4,r5,r6,⟨w0,w1,w2,w3⟩,r7⟩
   obtain ⟨q,hq⟩:=Deep.choose_lt each
   refine ⟨some a,cap0,(List.range len0).map q,by simp,by simp;omega,by simp;omega,λi hi=>?_,λz hz=>?_⟩
   . simp only[List.length_map,List.length_range] at hi
     simp only[List.getElem_map,List.getElem_range]
     exact (hq i hi).1
   . obtain ⟨i,hi,rfl⟩:=List.mem_map.1 hz
     exact (hq i (by simpa using hi)).2
end Go.Proofs.YtinkkmlbhkfmnaaGreat
