/- A part. -/
import Derived.Test.YtinkkmlbhkfmnaaGreatQLg
set_option maxRecDepth 100000
set_option maxHeartbeats 8000000
namespace Go.Proofs.YtinkkmlbhkfmnaaGreat
section
open Go.RowKit
attribute [local go_sem] Oper.semAt_some
section
variable {w w':World} {s p c:Nat} {x:Nat→Prop} {g:Cf} {Q:PS} {lv fr:List Pg} {Al Af:Option Addr} {cl cf:Nat}
theorem all_any (n:Nat) (h:StAt w s p c x g Q lv fr Al cl Af cf) (hnn:lv.length+fr.length=n) (hn:n≤1000):Calls Tryz.prog 35 #[.pointer (some ⟨s,0,none⟩)] w fun e w'=>∃ b,e=.returned (.slice (some ⟨b,0,none⟩) n n)∧BA w' (some ⟨b,0,none⟩) (List.replicate n true)∧Below w.heap.size w w':=by
 have c8:=h.sc.c8
 have c9:=h.sc.c9
 have hmk:=fun w1:World=>zDr n (by omega) w1
 have hsum:(lv.length:Int)+(fr.length:Int)=(n:Int):=by omega
 have hwr:IntKind.i64.wrap ((lv.length:Int)+(fr.length:Int))=(n:Int):=by rw[hsum];exact qp _ (by omega)
 obtain ⟨L,hL⟩:∃ L:List Unit,L=List.replicate n ():=⟨_,rfl⟩
 have hLl:L.length=n:=by rw[hL];simp
 have HLL:=hI hLl
 have HMP:Hid (L.map (fun _:Unit=>true)=List.replicate n true):=hI (by rw[hL];simp)
 clear h hnn hL hLl
 go_enter Tryz.func35,Tryz.ntmps35
 go_wp2_with fail
 go_region
 have hx0:(w.alloc (.cells (madeCells #[Value.bool false] n) 4)).drew.heap[w.heap.size]? = some (.cells ((zAk (fun _:Unit=>true) false L 0).map Value.bool).toArray 4 (0,0)):=by
  rw[zOc,HLL.out,← zDs]
  exact heap_alloc_new _ _
 have hb0:Below w.heap.size w (w.alloc (.cells (madeCells #[Value.bool false] n) 4)).drew:=(bR.alloc nL _).drew
 have HX0:=hI hx0
 have HB0:=hI hb0
 clear hx0 hb0 hmk
 generalize (w.alloc (.cells (madeCells #[Value.bool false] n) 4)).drew=w1 at HX0 HB0 ⊢
 obtain ⟨G,hG⟩:∃ G,G=w.heap.size:=⟨_,rfl⟩
 have HG:=hI hG
 rw[← hG] at HX0 ⊢
 clear hG c8 c9 hsum hwr
 go_wp2_with fail
 go_loopw [4,19] (fun _ v19 wr=>∃ j:Nat,j≤n∧v19=.int .i64 j∧wr.heap[G]? = some (.cells ((zAk (fun _:Unit=>true) false L j).map Value.bool).toArray 4 (0,0))∧Below w.heap.size w wr) (fun _ v19 _=>n - (intOf v19).toNat)
 case atStart=>exact ⟨0,Nat.zero_le _,rfl,HX0.out,HB0.out⟩
 case round =>
  obtain ⟨j,hj,rfl,hx,hB⟩:=hrel
  have HXJ:=hI hx
  have HB:=hI hB
  have hs:=hB.size
  clear hx hB
  by_cases hj1:j<n
  · have hjl:j<L.length:=by rw[HLL.out];exact hj1
    have hjf:j<(zAk (fun _:Unit=>true) false L j).length:=by rw[zGd _ _ _ _ (Nat.le_of_lt hjl)];exact hjl
    have HN:=hI (zSq (fun _:Unit=>true) false L j hjl)
    have q0:=zAq HXJ.out j hjf
    have q1:=yq HXJ.out j
    have HXN:=hI (zEz HXJ.out j true)
    rw[HN.out] at HXN
    generalize (zAk (fun _:Unit=>true) false L j)[j]=old at q0
    clear hjl hjf
    go_wp2_with fail
    go_roundw
    case rel=>exact ⟨j+1,by omega,by go_num,HXN.out,HB.out.setCell (p:=⟨G,j,none⟩) (by rw[HG.out];exact Nat.le_refl _) _⟩
    case measure=>simp[intOf];omega
  · obtain rfl:j=n:=by omega
    have HZ:=hI (zSr (fun _:Unit=>true) false L)
    rw[HLL.out,HMP.out] at HZ
    go_wp2_with fail
    go_ret
    exact ⟨G,rfl,by rw[← HZ.out];exact zBf HXJ.out,HB.out⟩
end
end
section
open Go.RowKit
theorem sub_len {α : Type} [DecidableEq α]:∀ (A B:List α),A.Nodup→(∀ x∈A,x∈B)→A.length≤B.length:=by
 intro A
 induction A with
 | nil=>intro B _ _;exact Nat.zero_le _
 | cons a A ih =>
  intro B hn hs
  have hn':=List.nodup_cons.1 hn
  have ha:=hs a List.mem_cons_self
  have h1:=ih (B.erase a) hn'.2 fun x hx=>(List.mem_erase_of_ne (fun e:x=a=>hn'.1 (e ▸ hx))).2 (hs x (List.mem_cons_of_mem _ hx))
  rw[List.length_erase_of_mem ha] at h1
  have:=List.length_pos_of_mem ha
  simp only[List.length_cons];omega
def rngL (a:Int) (n:Nat):List Int:=(List.range n).map fun i:Nat=>a+(i:Int)
theorem rng_mem {a q:Int} {n:Nat} : q∈rngL a n↔a≤q∧q<a+n:=by
 unfold rngL
 rw[List.mem_map]
 constructor
 · rintro ⟨i,hi,rfl⟩
   have:=List.mem_range.1 hi
   omega
 · rintro ⟨h1,h2⟩
   exact ⟨(q - a).toNat,List.mem_range.2 (by omega),by omega⟩
theorem rng_nodup (a:Int) (n:Nat):(rngL a n).Nodup:=by
 unfold rngL List.Nodup
 rw[List.pairwise_map]
 exact (List.nodup_range (n:=n)).imp fun {x y} hne e=>hne (by omega)
theorem rng_len (a:Int) (n:Nat):(rngL a n).length=n:=by simp[rngL]
theorem pick_keep (all:List Pg) (pk:List Bool) (K:Int) (out:List Pg) (i:Nat):∀ x∈out,x∈vJ all pk K out i:=by
 intro x hx
 unfold vJ
 split
 · exact hx
 · split
   · exact hx
   · exact List.mem_append_left _ hx
theorem pick_reach {all:List Pg} {K a:Int} {n:Nat} (hS:∀ x∈all,x.r.1≠0→a≤x.r.1∧x.r.1<a+n) (hK:(n:Int)≤K):∀ m,m≤all.length→∀ i (hi:i<all.length),all.length - m≤i→all[i].r.1≠0→all[i].r.1∈(vb all (List.replicate all.length true) K m).map (·.r.1):=by
 intro m
 induction m with
 | zero=>intro _ i hi h;omega
 | succ m ih =>
  intro hm i hi h h0
  by_cases e:all.length - m≤i
  · obtain ⟨x,hx,hx1⟩:=List.mem_map.1 (ih (by omega) i hi e h0)
    exact List.mem_map.2 ⟨x,pick_keep _ _ _ _ _ x hx,hx1⟩
  · obtain rfl:i=all.length - 1 - m:=by omega
    show _∈(vJ all (List.replicate all.length true) K (vb all (List.replicate all.length true) K m) (all.length - 1 - m)).map (·.r.1)
    rw[pickS_at hi]
    have hmem:=List.getElem_mem hi
    generalize all[all.length - 1 - m]=z at h0 hmem ⊢
    have hnd:=zMr all (List.replicate all.length true) K m
    have hme:=zHv all (List.replicate all.length true) K m
    generalize vb all (List.replicate all.length true) K m=out at hnd hme ⊢
    by_cases hin:z.r.1∈out.map (·.r.1)
    · split
      · exact hin
      · rw[List.map_append];exact List.mem_append_left _ hin
    · rw[if_neg]
      · simp
      · rintro (k | k | k | k | k)
        · exact h0 k
        · rw[List.length_replicate] at k;omega
        · rw[List.getD_eq_getElem?_getD,List.getElem?_replicate,if_pos hi] at k;cases k
        · have h1:=sub_len (z.r.1::out.map (·.r.1)) (rngL a n) (List.nodup_cons.2 ⟨hin,hnd⟩) (by
           intro q hq
           rcases List.mem_cons.1 hq with rfl | hq
           · exact rng_mem.2 (hS _ hmem h0)
           · obtain ⟨y,hy,rfl⟩:=List.mem_map.1 hq
             obtain ⟨g1,g2⟩:=hme y hy
             exact rng_mem.2 (hS y g1 g2))
          rw[rng_len,List.length_cons,List.length_map] at h1
          omega
        · rw[List.any_eq_true] at k
          obtain ⟨y,hy,hy1⟩:=k
          exact hin (List.mem_map.2 ⟨y,hy,by simpa using hy1⟩)
def PgSet (l:List Pg) (a:Int) (n:Nat):Prop:=∀ q:Int,q≠0→((∃ x∈l,x.r.1=q)↔a≤q∧q<a+n)
theorem pick_all {all:List Pg} {K a:Int} {n:Nat} (ha:1≤a) (h:PgSet all a n) (hK:(n:Int)≤K) {N:Nat} (hN:N=all.length):(zDn all (List.replicate N true) K).length=n∧∀ rt:Pg,rt.r.1=0→PgSet (zDn all (List.replicate N true) K++[rt]) a n:=by
 subst hN
 have hS:∀ x∈all,x.r.1≠0→a≤x.r.1∧x.r.1<a+n:=fun x hx h0=>(h _ h0).1 ⟨x,hx,rfl⟩
 obtain ⟨L,hL⟩:∃ L,L=zDn all (List.replicate all.length true) K:=⟨_,rfl⟩
 have h1:∀ q,q∈L.map (·.r.1)↔a≤q∧q<a+n:=fun q=>by
  constructor
  · intro hq
    obtain ⟨y,hy,rfl⟩:=List.mem_map.1 hq
    rw[hL] at hy
    obtain ⟨g1,g2⟩:=zHv _ _ _ _ y hy
    exact hS y g1 g2
  · intro hq
    obtain ⟨x,hx,rfl⟩:=(h q (by omega)).2 hq
    obtain ⟨i,hi,rfl⟩:=List.getElem_of_mem hx
    rw[hL]
    exact pick_reach hS hK all.length nL i hi (by omega) (by omega)
 have hn:(L.map (·.r.1)).Nodup:=by rw[hL];exact zMr _ _ _ _
 have e1:=sub_len _ (rngL a n) hn fun q hq=>rng_mem.2 ((h1 q).1 hq)
 have e2:=sub_len (rngL a n) _ (rng_nodup a n) fun q hq=>(h1 q).2 (rng_mem.1 hq)
 rw[rng_len,List.length_map] at e1 e2
 rw[← hL]
 refine ⟨by omega,fun rt hrt q hq=>?_⟩
 rw[← h1 q]
 constructor
 · rintro ⟨x,hx,rfl⟩
   rcases List.mem_append.1 hx with k | k
   · exact List.mem_map.2 ⟨x,k,rfl⟩
   · rw[List.mem_singleton] at k;rw[k] at hq;exact absurd hrt hq
 · intro k
   obtain ⟨x,hx,rfl⟩:=List.mem_map.1 k
   exact ⟨x,List.mem_append_left _ hx,rfl⟩
theorem PgSet.put {l:List Pg} {a a':Int} {n n':Nat} (h:PgSet l a n) (x:Pg) (hx:∀ q:Int,q≠0→((a≤q∧q<a+n∨x.r.1=q)↔a'≤q∧q<a'+n')):PgSet (l++[x]) a' n':=fun q hq=>by
 rw[← hx q hq,← h q hq]
 constructor
 · rintro ⟨y,hy,k⟩
   rcases List.mem_append.1 hy with g | g
   · exact .inl ⟨y,g,k⟩
   · rw[List.mem_singleton] at g;rw[g] at k;exact .inr k
 · rintro (⟨y,hy,k⟩ | k)
   · exact ⟨y,List.mem_append_left _ hy,k⟩
   · exact ⟨x,by simp,k⟩
theorem PgSet.nil (a:Int):PgSet [] a 0:=fun q _=>by
 constructor
 · rintro ⟨y,hy,-⟩;cases hy
 · intro k;omega
structure Wr (N:Nat) (w:World) (s p c:Nat) (y:Nat→Prop) (g:Cf) (Q:PS) (D:Dat) (lv fr:List Pg) (Al:Option Addr) (cl:Nat) (Af:Option Addr) (cf cc:Nat) (K:Int) (m:Nat) (a:Int) (n len:Nat) (wx:World):Prop where
 sit:Sit wx s p c y g Q D lv fr Al cl Af cf cc
 bad:qx Q.S.bl=0
 K:Q.K=K
 far:∀ b,b<N→vW y s Af b
 big:N≤w.heap.size
 bel:Below N w wx
 seq:Q.seq≤m
 pgs:PgSet (lv++fr) a n
 len:lv.length+fr.length≤len
section
variable {N:Nat} {w wx w2:World} {s p c:Nat} {y:Nat→Prop} {g:Cf} {Q:PS} {D:Dat} {lv fr:List Pg} {Al:Option Addr} {cl:Nat} {Af:Option Addr} {cf cc:Nat} {K:Int} {m:Nat} {a a':Int} {n n' len:Nat}
theorem Wr.below (h:Wr N w s p c y g Q D lv fr Al cl Af cf cc K m a n len wx) (hb:Below wx.heap.size wx w2):Wr N w s p c (fun b=>y b∨New wx w2 b) g Q D lv fr Al cl Af cf cc K m a n len w2 :=
 ⟨h.sit.below hb,h.bad,h.K,fun b hb=>⟨.inl (h.far b hb).1,(h.far b hb).2⟩,h.big,h.bel.trans (hb.mono (Nat.le_trans h.big h.bel.size)),h.seq,h.pgs,h.len⟩
theorem Wr.less {cc' m' len':Nat} (h:Wr N w s p c y g Q D lv fr Al cl Af cf cc K m a n len wx) (hc:cc'≤cc) (hm:m≤m') (hl:len≤len'):Wr N w s p c y g Q D lv fr Al cl Af cf cc' K m' a n len' wx :=
 ⟨⟨h.sit.st,h.sit.inv,h.sit.dat,h.sit.bud.less hc,h.sit.calm,h.sit.over⟩,h.bad,h.K,h.far,h.big,h.bel,Int.le_trans h.seq (by omega),h.pgs,Nat.le_trans h.len hl⟩
theorem below_safeR {n:Nat} {w w1 w2:World} {F:Nat→Prop} (hn:n≤w.heap.size) (h:Below n w w1) (hs:Safe F w1 w2) (hF:∀ b,b<n→F b):Below n w w2 :=
 ⟨hs.os.trans h.os,hs.tape.trans h.tape,hs.output.trans h.output,Nat.le_trans h.size hs.size,fun b hb=>(hs.block (Nat.lt_of_lt_of_le hb (Nat.le_trans hn h.size)) (hF b hb)).trans (h.block b hb)⟩
theorem Wr.fresh (h:Wr N w s p c y g Q D lv fr Al cl Af cf cc K m a n len wx) {b:Nat} {d:List UInt8} {t:TypeId} {f:Nat × Nat} (hx:w2.heap[b]? = some (.cells (d.map ub).toArray t f)) (hbn:wx.heap.size≤b):CB w2 (vW (fun b=>y b∨New wx w2 b) s Af) (some ⟨b,0,none⟩) d:=fun hn=>by
 refine ⟨⟨b,0,none⟩,rfl,⟨.inr ⟨hbn,qD hx⟩,?_,fun ad e=>?_⟩,fun j hj=>?_⟩
 · have:=h.sit.st.lt
   show b≠s
   omega
 · have:ad.block<wx.heap.size:=h.sit.st.away_lt (b:=ad.block) (by rw[e];rfl)
   show b≠ad.block
   omega
 · have e0:(⟨b,0,none⟩:Addr).add j=⟨b,j,none⟩:=by simp[Addr.add];exact fun k=>k.symm
   rw[e0]
   simp[World.cell?,hx,hj]
def WrPut (N:Nat) (w:World) (s p c:Nat) (g:Cf) (lv fr:List Pg) (Al:Option Addr) (cl cc:Nat) (K:Int) (m:Nat) (a:Int) (n len:Nat) (e:Ending) (w':World):Prop :=
 e=.returned (.bool true)∧∃ Q' D' pg Af' cf' y',Wr N w s p c y' g Q' D' lv (fr++[pg]) Al cl Af' cf' cc K m a n len w'
theorem wr_put (h:Wr N w s p c y g Q D lv fr Al cl Af cf (cc+1) K m a n len wx) (page:Int) (A:Option Addr) (l0 c0:Nat) (d:List UInt8) (hl0:d.length=l0) (hd:CB wx (vW y s Af) A d) (hdl:l0≤60) (hdn:A=none→l0=0∧c0=0) (hp:1≤page∧page≤60) (hm:m≤100000) (hlen:(len:Int)<K+6)
 (hx:∀ q:Int,q≠0→((a≤q∧q<a+n∨page=q)↔a'≤q∧q<a'+n')) :
 Calls Tryz.prog 15 #[.pointer (some ⟨s,0,none⟩),.agg #[.int .i64 0,.int .i64 0,.int .i64 0,.int .i64 page,.slice A l0 c0,.slice none 0 0]] wx (WrPut N w s p c g lv fr Al cl cc K (m+1) a' n' (len+1)):=by
 subst hl0
 have hK:=h.K
 have hle:=h.len
 have hsq:=h.seq
 refine (zRu ⟨0,0,0,page,A,c0,d,none,0,[]⟩ cc h.sit.st h.sit.inv h.sit.dat h.sit.bud hd hdl hdn).mono ?_
 rintro e w' ⟨rfl,Q',D',fr',Af',cf',y',hst,hi,hdd,hb,haw,hsf,hk,how⟩
 have hov:Q'.over=false:=(zMw hk h.sit.calm (h.sit.st.cfg.trans hst.cfg.symm)).trans h.sit.over
 have hQK:Q'.K=K:=by have e1:=congrArg Cf.K (h.sit.st.cfg.trans hst.cfg.symm);have e2:Q.K=Q'.K:=e1;omega
 refine ⟨rfl,?_⟩
 rcases how with ⟨-,-,k | k⟩ | ⟨k,-⟩ | ⟨-,k1,A,ca,rfl⟩
 · rcases k with k | k
   · have k':page=0:=k
     omega
   · exact absurd (zYp ⟨by show (0:Int)≤page;omega,hp.2⟩ ⟨by have:=h.sit.inv.mid.ok.seq;omega,by omega⟩ hdl) k
 · omega
 · rw[hov] at k;cases k
 · refine ⟨Q',D',_,Af',cf',y',⟨hst,hi,hdd,hb,(hk.calm h.sit.calm).1,hov⟩,(hk.calm h.sit.calm).2.trans h.bad,hQK,fun b hb=>haw b (h.far b hb),h.big,below_safeR h.big h.bel hsf h.far,by rw[k1];omega,?_,?_⟩
   · rw[← List.append_assoc]
     exact h.pgs.put _ hx
   · rw[List.length_append,List.length_singleton];omega
def WrSeal (N:Nat) (w:World) (s p c:Nat) (g:Cf) (cc:Nat) (K:Int) (m:Nat) (a:Int) (n:Nat) (e:Ending) (w':World):Prop :=
 e=.returned (.bool true)∧∃ Q' D' lv' Al' cl' y',Wr N w s p c y' g Q' D' lv' [] Al' cl' none 0 cc K m a n (n+1) w'∧lv'.length=n+1
theorem wr_seal (h:Wr N w s p c y g Q D lv fr Al cl Af cf (cc+1) K m a n len wx) (A:Option Addr) (l0 c0:Nat) (d:List UInt8) (hl0:d.length=l0) (hd:CB wx (vW y s Af) A d) (hdl:l0≤60) (hdn:A=none→l0=0∧c0=0) (A2:Option Addr) (c2 l2:Nat) (hl2:lv.length+fr.length=l2) (hpk:BA wx A2 (List.replicate l2 true)) (hl3:l2≤1000) (hm:m≤100000) (ha:1≤a) (hn:(n:Int)≤K) :
 Calls Tryz.prog 11 #[.pointer (some ⟨s,0,none⟩),.agg #[.int .i64 0,.int .i64 0,.int .i64 0,.int .i64 0,.slice A l0 c0,.slice A2 l2 c2]] wx (WrSeal N w s p c g cc K (m+1) a n):=by
 subst hl0
 obtain ⟨pk,hpkd⟩:∃ pk,pk=List.replicate l2 true:=⟨_,rfl⟩
 have hpl:pk.length=l2:=by rw[hpkd,List.length_replicate]
 rw[← hpkd] at hpk
 have hsq:=h.seq
 have hall:=pick_all ha h.pgs (by rw[h.K];exact hn:(n:Int)≤Q.K) (N:=l2) (by rw[List.length_append];exact hl2.symm)
 rw[← hpkd] at hall
 subst hpl
 refine (zNh ⟨0,0,0,0,A,c0,d,A2,c2,pk⟩ cc h.sit.st h.sit.inv h.sit.dat h.sit.bud hd hdl hdn hpk hl3 (by omega)).mono ?_
 rintro e w' ⟨rfl,Q',D',lv',Al',cl',y',hst,hi,hdd,hb,haw,hsf,hk,how⟩
 have hov:Q'.over=false:=(zMw hk h.sit.calm (h.sit.st.cfg.trans hst.cfg.symm)).trans h.sit.over
 have hQK:Q'.K=K:=by have e1:=congrArg Cf.K (h.sit.st.cfg.trans hst.cfg.symm);have e2:Q.K=Q'.K:=e1;have:=h.K;omega
 refine ⟨rfl,?_⟩
 rcases how with ⟨k,-⟩ | ⟨-,k1,A,ca,rfl⟩
 · rw[hov] at k;cases k
 · have hln:(zDn (lv++fr) pk Q.K++[(⟨(0,Q.seq+1),d,A,ca⟩:Pg)]).length=n+1:=by rw[List.length_append,hall.1];rfl
   refine ⟨Q',D',_,Al',cl',y',⟨⟨hst,hi,hdd,hb,(hk.calm h.sit.calm).1,hov⟩,(hk.calm h.sit.calm).2.trans h.bad,hQK,fun b hb=>haw b (h.far b hb),h.big,below_safeR h.big h.bel hsf h.far,by rw[k1];omega,?_,?_⟩,hln⟩
   · rw[List.append_nil]
     exact hall.2 _ rfl
   · have e0:([]:List Pg).length=0:=rfl
     rw[e0,Nat.add_zero]
     exact Nat.le_of_eq hln
theorem wr_reads (h:Wr N w s p c y g Q D lv fr Al cl Af cf (cc+1) K m a n len wx):Calls Tryz.prog 16 #[.pointer (some ⟨s,0,none⟩)] wx fun e w'=>e=.returned (.bool true)∧Below N w w'∧∃ Q' y',StAt w' s p c y' g Q' lv fr Al cl Af cf∧qx Q'.S.bl=0∧Ok Q':=by
 have hl:lv.length+fr.length≤1000:=by
  have h1:=h.sit.inv.lenA
  have h2:=h.sit.inv.mid.ok.may.2.2.2.1
  simp at h1
  omega
 refine (zIe (cc * 1000000) h.sit.st h.sit.inv h.sit.dat (h.sit.bud.low.spent (Spent.refl _) ⟨by omega,by omega,by omega⟩) hl).mono ?_
 rintro e w' ⟨rfl,Q1,y',hst,hi,-,hbl,-,hsf,-⟩
 exact ⟨rfl,below_safeR h.big h.bel hsf fun b hb=>(h.far b hb).1,Q1,y',hst,by rw[hbl];exact h.bad,hi.mid.ok⟩
end
end
section
open Go.RowKit
attribute [local go_sem] Oper.semAt_some
theorem rewrites_law (B P Sp K U still rounds:Int) (w:World):Calls Tryz.prog 6 #[.agg #[.int .i64 B,.int .i64 P,.int .i64 Sp,.int .i64 K,.int .i64 U],.int .i64 still,.int .i64 rounds] w fun e w'=>e=.returned (.bool true)∧Below w.heap.size w w':=by
 obtain ⟨W,hW⟩:∃ W,W=w.alloc (.cells #[.int .i64 B,.int .i64 P,.int .i64 Sp,.int .i64 K,.int .i64 U] 23):=⟨_,rfl⟩
 have hbW:Below w.heap.size w W:=by rw[hW];exact bR.alloc nL _
 have HBW:=hI hbW
 have HX:Hid (W.heap[w.heap.size]? = some (.cells #[.int .i64 B,.int .i64 P,.int .i64 Sp,.int .i64 K,.int .i64 U] 23 (0,0))):=hI (by rw[hW];exact heap_alloc_new _ _)
 have HWE:=hI hW
 obtain ⟨a0,a1,a2,a3,a4⟩:=cfg5 HX.out
 clear hbW hW
 go_enter Tryz.func6,Tryz.ntmps6
 go_upto_region 1 with fail
 rw[← HWE.out]
 go_wp2_with fail
 refine (zIh B P Sp K U none 0 [] none 0 [] W (fun h=>absurd h (by simp)) (fun i hi=>absurd hi (by simp)) (by simp[maxLen]) (by simp[maxLen])).mono ?_
 rintro e w1 hbeg
 have hb0:∀ s,e=.returned (.pointer (some ⟨s,0,none⟩))→True:=fun _ _=>trivial
 clear hb0
 rcases hbeg with ⟨rfl,hb1⟩ | ⟨s,p,c,x,Q,rfl,hst,hinv,hbud,hov,hseq,⟨nb,np,hS⟩,hx1,hb1,-,-⟩
 · have HB1:Hid (Below w.heap.size w w1):=hI (HBW.out.trans (hb1.mono HBW.out.size))
   clear hb1
   go_wp2_with (first
    | (go_at_call 10;(with_reducible refine (zAw _).mono ?_);rintro e w2 ⟨rfl,hb2⟩;have HB2:=hI hb2;clear hb2)
    | fail)
   go_ret
   exact ⟨rfl,HB1.out.trans (HB2.out.mono HB1.out.size)⟩
 · have HB1:Hid (Below w.heap.size w w1):=hI (HBW.out.trans (hb1.mono HBW.out.size))
   have hbd:qx Q.S.bl=0:=by rw[hS];simp[qZ,qx,zGv,zC,zCp]
   have hQK:Q.K=K:=by have:=congrArg Cf.K hst.cfg;exact this
   have hK1:1≤K∧K≤60:=by have:=(hinv fun _=>[]).mid.ok.may.2.2.2.1;omega
   have HK1:=hI hK1
   have HWR:Hid (Wr w.heap.size w s p c x ⟨B,P,Sp,K,U,Q.bad⟩ Q (fun _=>[]) [] [] none 0 none 0 900 K 0 2 0 0 w1):=hI ⟨⟨hst,hinv _,fun q hq=>(by cases hq),hbud 900 (by omega),by rw[hS];exact ⟨rfl,rfl⟩,hov⟩,hbd,hQK,fun b hb=>⟨(hx1 b (Nat.lt_of_lt_of_le hb HBW.out.size)).1,(hx1 b (Nat.lt_of_lt_of_le hb HBW.out.size)).2,fun _ e=>(by cases e)⟩,Nat.le_refl _,HB1.out,by rw[hseq];omega,PgSet.nil 2,Nat.le_refl _⟩
   have c1:=hst.sc.c1
   have k3:w1.cell? ⟨w.heap.size,3,none⟩=some (.int .i64 K):=(World.cell?_of_block (a:=⟨w.heap.size,3,none⟩) (hb1.block _ (qD HX.out))).trans a3
   clear hst hinv hbud hov hseq hS hx1 hb1 hbd hQK hK1
   have hM:∃ M:Int,IntKind.u64.wrap (min K 50)=M∧¬ M=0∧1≤M∧M≤50∧M≤K:=by
    have h1:=HK1.out
    refine ⟨IntKind.u64.wrap (min K 50),rfl,?_⟩
    have e:IntKind.u64.wrap (min K 50)=(min K 50) % 18446744073709551616:=by unfold IntKind.wrap;rfl
    omega
   obtain ⟨M,hMw,hM0,hM1,hM2,hM3⟩:=hM
   obtain ⟨z,hz⟩:∃ z,wrap64 ((IntKind.u64.wrap still).tmod M)=z:=⟨_,rfl⟩
   have hzb:0≤z∧z<M:=by
    have hu:0≤IntKind.u64.wrap still:=by
     have e:IntKind.u64.wrap still=still % 18446744073709551616:=by unfold IntKind.wrap;rfl
     omega
    have h1:=Int.tmod_nonneg M hu
    have h2:=Int.tmod_lt_of_pos (IntKind.u64.wrap still) (show (0:Int)<M by omega)
    rw[← hz]
    unfold wrap64
    omega
   have HT:Hid (∃ T:Nat,z=T∧T≤49∧(T:Int)<K):=hI ⟨z.toNat,by omega,by omega,by omega⟩
   clear hzb hM1 hM2 hM3 a0 a1 a2 a3 a4
   obtain ⟨g,hg⟩:∃ g,g=(⟨B,P,Sp,K,U,Q.bad⟩:Cf):=⟨_,rfl⟩
   rw[← hg] at HWR
   clear hg
   go_wp2_with fail
   simp only[hz]
   obtain ⟨T,rfl,hT,hTK⟩:=HT.out
   have HTB:Hid (T≤49∧(T:Int)<K):=hI ⟨hT,hTK⟩
   clear hT hTK hz hM0 hMw c1 k3 HT
   go_loopw [8,29] (fun _ v29 wx=>∃ (k:Nat) (y:Nat→Prop) (Q:PS) (D:Dat) (lv fr:List Pg) (Al:Option Addr) (cl:Nat) (Af:Option Addr) (cf:Nat),v29=.int .i64 k∧k≤T∧Wr w.heap.size w s p c y g Q D lv fr Al cl Af cf (900 - 2 * k) K (2 * k) 2 k (k+1) wx∧(k=T→fr = [])) (fun _ v29 _=>T - (intOf v29).toNat)
   case atStart=>exact ⟨0,x,Q,_,[],[],none,0,none,0,rfl,Nat.zero_le _,⟨HWR.out.sit,HWR.out.bad,HWR.out.K,HWR.out.far,HWR.out.big,HWR.out.bel,HWR.out.seq,HWR.out.pgs,Nat.zero_le _⟩,fun _=>rfl⟩
   case round =>
    obtain ⟨k,y,Q1,D1,lv,fr,Al,cl,Af,cf,rfl,hk,hwr,hfr⟩:=hrel
    have HW1:=hI hwr
    have HFR:=hI hfr
    clear hwr hfr
    by_cases hlt:k<T
    · have HLT:=hI hlt
      obtain ⟨cc,hcc⟩:∃ cc,900 - 2 * (k+1)=cc:=⟨_,rfl⟩
      have hc2:900 - 2 * k=(cc+1)+1:=by have:=HTB.out;omega
      rw[hc2] at HW1
      have HCC:=hI hcc
      clear hcc hc2
      have hkb:k≤49:=by have:=HTB.out;omega
      have hwk:wrap64 ((k:Int)+2)=(k:Int)+2:=by unfold wrap64;omega
      have HU8:Hid ((k:Int) % 256=((UInt8.ofNat k).toNat:Int)):=hI (by rw[show (UInt8.ofNat k).toNat=k % 256 from rfl];omega)
      have HKB:=hI hkb
      clear hkb
      go_wp2_with fail
      obtain ⟨W2,hW2⟩:∃ W2,wr.alloc (.cells #[.int .u8 ((UInt8.ofNat k).toNat:Int)] 5)=W2:=⟨_,rfl⟩
      rw[HU8.out,hW2]
      have HB2:Hid (Below wr.heap.size wr W2):=hI (by rw[← hW2];exact bR.alloc nL _)
      have hx2:W2.heap[wr.heap.size]? = some (.cells (([UInt8.ofNat k]:List UInt8).map ub).toArray 5 (0,0)):=by rw[← hW2,heap_alloc_new];simp[ub]
      have HCB:=hI (HW1.out.fresh hx2 nL)
      clear hW2 hx2
      refine (wr_put (a':=2) (n':=k+1) (HW1.out.below HB2.out) ((k:Int)+2) _ 1 1 [UInt8.ofNat k] rfl HCB.out (by omega) (fun e=>by cases e) (by have:=HKB.out;omega) (by have:=HKB.out;omega) (by have:=HTB.out;have:=HLT.out;omega) (fun q hq=>by omega)).mono ?_
      rintro e w3 ⟨rfl,Q3,D3,pg,Af3,cf3,y3,h3⟩
      generalize fr++[pg]=lf at h3
      have HW3:=hI h3
      have c9:=h3.sit.st.sc.c9
      clear h3 hwk hk
      have hw1:wrap64 ((k:Int)+1)=((k+1:Nat):Int):=by have:=HKB.out;unfold wrap64;omega
      have HN3:Hid (lv.length+lf.length≤1000):=hI (by have:=HW3.out.len;have:=HKB.out;omega)
      have HW1':=hI hw1
      by_cases h5:5≤(lf.length:Int)∨((k+1:Nat):Int)=(T:Int)
      · have h5':¬ (5≤(lf.length:Int))→((k+1:Nat):Int)=(T:Int):=fun h=>h5.resolve_left h
        clear h5
        by_cases h6:5≤(lf.length:Int)
        focus
         clear h5'
         go_upto_region 13 with fail
        rotate_left
        focus
         have h7:=h5' h6
         clear h5'
         go_upto_region 13 with fail
        all_goals
         go_wp2_with (first
          | (go_at_call 35;(with_reducible refine (all_any _ HW3.out.sit.st rfl HN3.out).mono ?_);rintro e w4 ⟨ba,rfl,hba,hb4⟩;have HBA:=hI hba;have HB4:=hI hb4;have HW4:=hI (HW3.out.below hb4);clear hba hb4)
          | fail)
         refine (wr_seal HW4.out none 0 0 [] List.length_nil (fun h=>absurd h (by simp)) (by omega) (fun _=>⟨rfl,rfl⟩) (some ⟨ba,0,none⟩) _ _ rfl HBA.out HN3.out (by have:=HKB.out;omega) (by omega) (by have:=HTB.out;have:=HLT.out;omega)).mono ?_
         rintro e w5 ⟨rfl,Q5,D5,lv5,Al5,cl5,y5,h5w,hl5⟩
         have HW5:=hI h5w
         clear h5w hl5
         go_wp2_with fail
         go_roundw
         case rel=>exact ⟨k+1,y5,Q5,D5,lv5,[],Al5,cl5,none,0,by rw[HW1'.out],by have:=HLT.out;omega,by rw[HCC.out];exact HW5.out,fun _=>rfl⟩
         case measure=>rw[HW1'.out];simp[intOf];have:=HLT.out;omega
      · have h8:¬ k+1=T:=fun h=>h5 (.inr (by omega))
        have h6:¬ 5≤(lf.length:Int):=fun h=>h5 (.inl h)
        have H8:=hI h8
        have h8b:((k:Int)+1==(T:Int))=false:=by simp;omega
        clear h5 h8
        go_wp2_with fail
        go_roundw
        case rel=>exact ⟨k+1,y3,Q3,D3,lv,lf,Al,cl,Af3,cf3,by rw[HW1'.out],by have:=HLT.out;omega,by rw[HCC.out];exact HW3.out.less (Nat.le_succ _) (by omega) nL,fun h=>absurd h (by have:=H8.out;omega)⟩
        case measure=>rw[HW1'.out];simp[intOf];have:=HLT.out;omega
    · obtain rfl:k=T:=by omega
      obtain rfl:fr = []:=HFR.out rfl
      have hV:∃ V:Nat,wrap64 ((IntKind.u64.wrap rounds).tmod 120)=(V:Int)∧V<120:=by
       have hu:0≤IntKind.u64.wrap rounds:=by
        have e:IntKind.u64.wrap rounds=rounds % 18446744073709551616:=by unfold IntKind.wrap;rfl
        omega
       have h1:=Int.tmod_nonneg (120:Int) hu
       have h2:=Int.tmod_lt_of_pos (IntKind.u64.wrap rounds) (show (0:Int)<120 by decide)
       refine ⟨(wrap64 ((IntKind.u64.wrap rounds).tmod 120)).toNat,?_,?_⟩<;>(unfold wrap64;omega)
      obtain ⟨V,hV1,hV2⟩:=hV
      have HVB:=hI hV2
      clear hV2 hk hlt HFR HWR
      go_wp2_with fail
      simp only[hV1]
      clear hV1
      have kc:=fun (w:World) (C:Array Value) (n c:Nat)=>Lib.run_convert_bytes_const (P:=Tryz.prog) w 34 5 C n c Tryz.underlying34 Tryz.underlying5
      go_loopw [9,64] (fun _ v64 wx=>∃ (j:Nat) (y:Nat→Prop) (Q:PS) (D:Dat) (lv:List Pg) (Al:Option Addr) (cl:Nat) (Af:Option Addr) (cf:Nat) (a:Int) (n:Nat),v64=.int .i64 j∧j≤V∧Wr w.heap.size w s p c y g Q D lv [] Al cl Af cf (700 - 2 * j) K (98+2 * j) a n (k+2) wx∧(a=2∧n=k∨a=1∧n=k+1)) (fun _ v64 _=>V - (intOf v64).toNat)
      case atStart=>exact ⟨0,y,Q1,D1,lv,Al,cl,Af,cf,2,k,rfl,Nat.zero_le _,HW1.out.less (by have:=HTB.out;omega) (by have:=HTB.out;omega) (Nat.le_succ _),.inl ⟨rfl,rfl⟩⟩
      case round =>
       obtain ⟨j,y2,Q2,D2,lv2,Al2,cl2,Af2,cf2,a,n,rfl,hj,hwr2,han⟩:=hrel
       have HW2:=hI hwr2
       have HAN:=hI han
       clear hwr2 han
       by_cases hjl:j<V
       · have HJL:=hI hjl
         obtain ⟨cc,hcc⟩:∃ cc,700 - 2 * (j+1)=cc:=⟨_,rfl⟩
         have hc2:700 - 2 * j=(cc+1)+1:=by have:=HVB.out;omega
         rw[hc2] at HW2
         have HCC:=hI hcc
         have HU8:Hid ((j:Int) % 256=((UInt8.ofNat j).toNat:Int)):=hI (by rw[show (UInt8.ofNat j).toNat=j % 256 from rfl];omega)
         clear hcc hc2
         go_wp2_with fail
         rw[HU8.out]
         obtain ⟨W3,hW3⟩:∃ W3,wr.alloc (.cells #[.int .u8 ((UInt8.ofNat j).toNat:Int),.int .u8 7] 5)=W3:=⟨_,rfl⟩
         rw[hW3]
         have HB3:Hid (Below wr.heap.size wr W3):=hI (by rw[← hW3];exact bR.alloc nL _)
         have hx3:W3.heap[wr.heap.size]? = some (.cells (([UInt8.ofNat j,7]:List UInt8).map ub).toArray 5 (0,0)):=by rw[← hW3,heap_alloc_new];simp[ub]
         have HCB:=hI (HW2.out.fresh hx3 nL)
         clear hW3 hx3
         refine (wr_put (a':=1) (n':=k+1) (HW2.out.below HB3.out) 1 _ 2 2 [UInt8.ofNat j,7] rfl HCB.out (by omega) (fun e=>by cases e) (by omega) (by have:=HVB.out;omega) (by have:=HTB.out;omega) (fun q hq=>by rcases HAN.out with ⟨rfl,rfl⟩ | ⟨rfl,rfl⟩<;>omega)).mono ?_
         rintro e w3 ⟨rfl,Q3,D3,pg,Af3,cf3,y3,h3⟩
         generalize []++[pg]=lf at h3
         have HW3:=hI h3
         have HN3:Hid (lv2.length+lf.length≤1000):=hI (by have:=HW3.out.len;have:=HTB.out;omega)
         clear h3 hj
         go_wp2_with (first
          | (go_at_call 35;(with_reducible refine (all_any _ HW3.out.sit.st rfl HN3.out).mono ?_);rintro e w4 ⟨ba,rfl,hba,hb4⟩;have HBA:=hI hba;have HB4:=hI hb4;clear hba hb4)
          | fail)
         obtain ⟨W5,hW5⟩:∃ W5,w4.alloc (.cells #[.int .u8 114,.int .u8 111,.int .u8 111,.int .u8 116] 5 (4,5))=W5:=⟨_,rfl⟩
         rw[hW5]
         have hb45:Below w4.heap.size w4 W5:=by rw[← hW5];exact bR.alloc nL _
         have HB35:Hid (Below w3.heap.size w3 W5):=hI (HB4.out.trans (hb45.mono HB4.out.size))
         have hx5:W5.heap[w4.heap.size]? = some (.cells (([114,111,111,116]:List UInt8).map ub).toArray 5 (4,5)):=by rw[← hW5,heap_alloc_new];simp[ub]
         have HCB5:=hI (HW3.out.fresh hx5 HB4.out.size)
         have HBA5:=hI (HBA.out.below hb45)
         clear hW5 hx5 hb45
         refine (wr_seal (HW3.out.below HB35.out) (some ⟨w4.heap.size,0,none⟩) 4 4 [114,111,111,116] rfl HCB5.out (by omega) (fun e=>by cases e) (some ⟨ba,0,none⟩) _ _ rfl HBA5.out HN3.out (by have:=HVB.out;omega) (by omega) (by have:=HTB.out;omega)).mono ?_
         rintro e w6 ⟨rfl,Q6,D6,lv6,Al6,cl6,y6,h6w,hl6⟩
         have c8:=h6w.sit.st.sc.c8
         rw[hl6] at c8
         have HW6:=hI h6w
         obtain ⟨nn,hnn⟩:∃ nn,nn=k+1+1:=⟨_,rfl⟩
         rw[← hnn] at c8
         have hwk:wrap64 ((k:Int)+2)=(nn:Int):=by have:=HTB.out;unfold wrap64;omega
         have HW1:Hid (wrap64 ((j:Int)+1)=((j+1:Nat):Int)):=hI (by have:=HVB.out;have:=HJL.out;unfold wrap64;omega)
         clear h6w hl6 hnn
         go_wp2_with fail
         go_roundw
         case rel=>exact ⟨j+1,y6,Q6,D6,lv6,Al6,cl6,none,0,1,k+1,by rw[HW1.out],by have:=HJL.out;omega,by rw[HCC.out];exact HW6.out.less nL (by omega) (by omega),.inr ⟨rfl,rfl⟩⟩
         case measure=>rw[HW1.out];simp[intOf];have:=HJL.out;omega
       · obtain rfl:j=V:=by omega
         have HW9:=hI (HW2.out.less (cc':=0+1) (by have:=HVB.out;omega) nL nL)
         clear hj hjl
         go_wp2_with fail
         refine (wr_reads HW9.out).mono ?_
         rintro e w5 ⟨rfl,hb5,Q5,y5,hst5,hbd5,hok5⟩
         have HB5:=hI hb5
         have HLN:Hid (1≤Q5.S.bl.length∧Q5.S.bl.length≤1000):=hI (by have:=hok5.lenN;omega)
         obtain ⟨l5,f5,hpt5⟩:=hst5.pool.parts
         have HPT5:=hI hpt5
         have c05:=hst5.sc.c0
         have hbd0:((qx Q5.S.bl:Nat):Int)=0:=by rw[hbd5];rfl
         clear hb5 hst5 hok5 hpt5 hbd5
         go_wp2_with (first
          | (go_at_call 21;(with_reducible refine (vR HPT5.out.chip HLN.out.1).mono ?_);rintro e w6 ⟨gb,cap,rfl,hl6,hb6⟩;have HL6:=hI hl6;have HB6:Hid (Below w.heap.size w w6):=hI (HB5.out.trans (hb6.mono HB5.out.size));clear hl6 hb6)
          | (go_at_call 36;(with_reducible refine (zQw (some ⟨gb,0,none⟩) cap Q5.S.bl w6 HLN.out.2 HL6.out).mono ?_);rintro e w7 ⟨rfl,hb7⟩;have HB7:Hid (Below w.heap.size w w7):=hI (HB6.out.trans (hb7.mono HB6.out.size));clear hb7)
          | (go_at_call 10;(with_reducible refine (zAw _).mono ?_);rintro e w8 ⟨rfl,hb8⟩;have HB8:Hid (Below w.heap.size w w8):=hI (HB7.out.trans (hb8.mono HB7.out.size));clear hb8)
          | fail)
         go_ret
         exact ⟨rfl,HB8.out⟩
end
end Go.Proofs.YtinkkmlbhkfmnaaGreat
