/- A part of what the last text proves: Gs. -/
import Derived.Lib.SliceRun
import Derived.Test.YtinkkmlbhkfmnaaGreatQGb
import Derived.Test.YtinkkmlbhkfmnaaGreatShelf
set_option maxRecDepth 100000
set_option maxHeartbeats 8000000
namespace Go.Proofs.YtinkkmlbhkfmnaaGreat
section
open Go.RowKit
theorem yAi (n:Nat) (w:World) (h:n<=1099511627776):Calls Tryz.prog 160 #[.int .i64 n] w λe w'=>e=.returned (.int .i64 (qg n).length)/\w=w':=by
 have hc:=numL_cnt n (by omega)
 have hl:=Lib.bitLen_le n 41 (by omega) (by omega)
 obtain ⟨B,hB⟩:∃B,B=Lib.bitLen n:=⟨_,rfl⟩
 rw[<- hB] at hc hl
 have hh:=hI hc
 have hb:=hI hB
 have hn:=Int.toNat_natCast n
 clear hc hB
 go_enter Tryz.func160,Tryz.ntmps160
 go_wp2_with (go_at_call 105;refine (Tryz.bits_Len _ _ (by omega) (by omega)).mono ?_;rintro e w' ⟨rfl,rfl⟩;rw[hn,<- hb.out])
 go_ret
 exact ⟨ret_int (by rw[hh.out];omega),rfl⟩
def zVs (n c k:Nat):List Value:=(List.range c).map λi=>if i<k then ub (qX (n / 128 ^ (c - 1 - i) % 128+128)) else .int .u8 0
theorem digs_set (n c k:Nat) (h:k<c):(zVs n c k).set k (ub (qX (n / 128 ^ (c - 1 - k) % 128+128)))=zVs n c (k+1):=by
 unfold zVs
 apply List.ext_getElem?
 intro j
 rw[List.getElem?_set]
 by_cases hj:j<c
 . by_cases e:k=j
   . subst e;simp[h]
   . simp only[e,if_false,List.getElem?_map,List.getElem?_range hj,Option.map_some]
     congr 1
     split<;>split<;>first | rfl | omega
 . by_cases e:k=j
   . omega
   . simp[e,hj]
theorem yAd (n c:Nat) (h:(qg n).length=c) (h1:1<=c):(zVs n c c).set (c - 1) (ub (qX (n % 128)))=(qg n).map ub:=by
 unfold zVs
 apply List.ext_getElem?
 intro j
 rw[List.getElem?_set]
 by_cases hj:j<c
 . have ha:((qg n).map ub)[j]? = some (ub (qX (n / 128 ^ (c - 1 - j) % 128+if j+1<c then 128 else 0))):=by
    rw[List.getElem?_map,numL_at n j (by omega),h];rfl
   rw[ha]
   by_cases e:c - 1=j
   . subst e
     rw[if_pos rfl,if_pos (by simp;omega),if_neg (by omega)];simp
   . rw[if_neg e,List.getElem?_map,List.getElem?_range hj,if_pos (by omega)]
     simp[hj]
 . rw[if_neg (by omega),List.getElem?_map,List.getElem?_map,List.getElem?_eq_none (by simpa using hj),List.getElem?_eq_none (by omega)]
   rfl
theorem digs_at (n c k:Nat) (h:k<c):(zVs n c k)[k]? = some (.int .u8 0):=by unfold zVs;simp[h]
theorem yAc (n c:Nat):(madeCells (Value.int .u8 0).cells (c * 1)).toList=zVs n c 0:=by
 show (madeCells #[Value.int .u8 0] (c * 1)).toList=_
 rw[Nat.mul_one,toList_madeCells_one]
 unfold zVs
 apply List.ext_getElem?
 intro j
 by_cases hj:j<c
 . simp[hj]
 . simp[hj]
theorem yAe (n c:Nat) (h:1<=c):(zVs n c c)[c - 1]? = some (.int .u8 (n % 128+128:Nat)):=by
 unfold zVs
 rw[List.getElem?_map,List.getElem?_range (by omega),Option.map_some,if_pos (by omega),show c - 1 - (c - 1)=0 by omega,Nat.pow_zero,Nat.div_one,zEn _ (by omega)]
theorem dig_end (n:Nat):Value.int .u8 (bits .andNot .u8 ((n % 128+128:Nat):Int) 128)=ub (qX (n % 128)):=by
 rw[zEn _ (by omega),not128 _ (by omega) (by omega)]
 congr 1;omega
theorem dig_val (n m:Nat):bits .or .u8 ((n:Int) / 2 ^ (7 * m) % 256) 128=((qX (n / 128 ^ m % 128+128)).toNat:Int):=by
 rw[vA _ (by omega),or128 _ (by omega) (by omega),Int.pow_mul]
 show ((n:Int) / ((128:Int)) ^ m % 256) % 128+128=_
 have:((n:Int) / ((128:Int)) ^ m)=((n / 128 ^ m:Nat):Int):=by simp
 rw[this];omega
theorem zVc (n:Nat) (w:World) (h:n<=1099511627776):Calls Tryz.prog 144 #[.int .i64 n] w (Fresh w (qg n)):=by
 obtain ⟨i0,hi,hz0,hz1,hz2⟩:=info_parts vP
 obtain ⟨c,hc⟩:∃c,c=(qg n).length:=⟨_,rfl⟩
 have hl:=qn n (by omega)
 rw[<- hc] at hl
 have H:=hI hc
 clear hc
 go_enter Tryz.func144,Tryz.ntmps144
 go_wp2_with (first | (go_at_call 160;refine (yAi n _ h).mono ?_;rintro e w' ⟨rfl,rfl⟩;rw[<- H.out]) | (at_make;go_loud (refine wpList_make_full _ rfl _ _ 34 rfl w.heap.size 5 i0 _ 1 Tryz.underlying34 hi hz0 hz1 .i64 .i64 _ _ c rfl rfl rfl rfl (by rw[hz2];omega) (by unfold maxLen;omega) nL ?_;intro w1 hown hg1)))
 have hs1:w.heap.size<w1.heap.size:=(hown.lt _ rfl).2
 go_loopw [4,5,11] (λ_ _ i wr=>∃k:Nat,k<=c/\i=.int .i64 k/\wr.ownsRow w.heap.size 5 1 (.slice (some ⟨w.heap.size,0,none⟩) c c) c (zVs n c k)/\Below w.heap.size w wr) (λ_ _ i _=>c - (intOf i).toNat)
 case atStart=>exact ⟨0,Nat.zero_le _,rfl,by rw[<- yAc];exact hown,bR.grown hg1 nL (λk e=>by cases e)⟩
 case round =>
  obtain ⟨k,hk,rfl,hown,hb⟩:=hrel
  by_cases hlt:k<c
  . have hcell:=(hown.cellAt k (by omega)).trans (digs_at n c k hlt)
    have hfr:=hown.frozenAt k
    have Hst:=hI (hown.stored k (ub (qX (n / 128 ^ (c - 1 - k) % 128+128))))
    have Hv:=hI (dig_val n (c - 1 - k))
    go_wp2
    go_roundw
    case rel =>
     rw[Hv.out]
     have:=Hst.out.1
     rw[digs_set n c k hlt] at this
     exact ⟨k+1,by omega,by go_num,this,hb.setCell nL _⟩
    case measure=>simp[intOf];omega
  . obtain rfl:k=c:=by omega
    have hcell:=(hown.cellAt (k - 1) (by omega)).trans (yAe n k (by omega))
    have hfr:=hown.frozenAt (k - 1)
    have Hst:=hI (hown.stored (k - 1) (ub (qX (n % 128))))
    have hk0:0<=(k:Int) - 1:=by omega
    have hk1:((k:Int) - 1).toNat=k - 1:=by omega
    go_wp2
    go_ret
    have:=Hst.out.1
    rw[yAd n k H.out.symm (by omega),<- dig_end] at this
    exact Fresh.of this nL (hb.setCell nL _)
theorem grow_any (n:Nat) (w:World) (h:n<=140737488355328):Calls Tryz.prog 159 #[.slice none 0 0,.int .i64 n] w λe w'=>∃v,e=.returned v/\w'.ownsRow w.heap.size 5 1 v 0 []/\Below w.heap.size w w':=by
 by_cases h0:n=0
 . subst h0
   go_enter Tryz.func159,Tryz.ntmps159
   go_wp2
   go_ret
   exact ⟨_,rfl,World.ownsRow_nil _ _ _ _,bR⟩
 . obtain ⟨i0,hi,hz0,hz1,hz2⟩:=info_parts vP
   have hrun:=λty=>Lib.run_append_nil_zeros (P:=Tryz.prog) w 34 3 ty 5 i0 _ .i64 .i64 Tryz.underlying34 Tryz.underlying3 hi hz0 n (by omega) (by omega) (by omega) (by rw[hz2];omega)
   have hge:=grownCap_ge w n 0 5
   have hmx:=grownCap_le_maxLen w n 0 5 (by unfold maxLen;omega)
   obtain ⟨G,hG⟩:∃G,G=grownCap w n 0 5:=⟨_,rfl⟩
   rw[<- hG] at hrun hge hmx
   clear hG
   go_enter Tryz.func159,Tryz.ntmps159
   go_wp2_with (at_builtin;refine Lib.wpList_append_run _ rfl _ _ _ _ rfl _ _ rfl rfl _ _ (hrun _) ?_)
   go_ret
   exact ⟨_,rfl,World.ownsRow_made w.drew _ G nL hmx (by simp[Builtin.zeroCells];omega),bR.drew.alloc nL _⟩
theorem grow_int (x:Int) (n:Nat) (w:World) (hx:x=n) (h:n<=140737488355328):Calls Tryz.prog 159 #[.slice none 0 0,.int .i64 x] w λe w'=>∃v,e=.returned v/\w'.ownsRow w.heap.size 5 1 v 0 []/\Below w.heap.size w w':=by
 subst hx
 exact grow_any n w h
def FreshO (w:World) (l:List UInt8) (e:Ending) (w':World):Prop :=
 ∃(A:Option Addr) (c:Nat) (L:List UInt8),e=.returned (.slice A L.length c)/\Hid (L=l)/\w'.ownsRow w.heap.size 5 1 (.slice A L.length c) L.length (L.map ub)/\Below w.heap.size w w'
theorem zMv {w:World} {base base' n:Nat} {e:TypeId} {size:Nat} {v:Value} {xs:List Value} (h:w.ownsRow base e size v n xs) (hb:base'<=base):w.ownsRow base' e size v n xs:=by
 refine ⟨h.1,?_⟩
 rcases h.2 with h0 | ⟨g,cap,cur,hv,hg,h1⟩
 . exact .inl h0
 . exact .inr ⟨g,cap,cur,hv,Nat.le_trans hb hg,h1⟩
theorem FreshO.fresh {w w':World} {l:List UInt8} {e:Ending} (h:FreshO w l e w'):Fresh w l e w':=by
 obtain ⟨A,c,L,rfl,hL,hown,hb⟩:=h
 obtain ⟨A',c',L',he,h1,h2⟩:=Fresh.of hown nL hb
 exact ⟨A',c',L',he,h1.out.trans hL.out,h2⟩
theorem zIr (B g:Nat) (A1 A2:Option Addr) (c1 c2 k:Nat) (l1 l2:List UInt8) (w:World) (hg:w.heap[g]? = some (.cells #[.slice A1 l1.length c1,.slice A2 l2.length c2] 34 (0,0)))
 (h1:RB w B A1 l1) (h2:RB w B A2 l2) (hB:B<=w.heap.size) (hl1:l1.length<=70368744177664) (hl2:l2.length<=70368744177664) :
 Calls Tryz.prog 143 #[.slice (some ⟨g,0,none⟩) 2 k] w (FreshO w (l1++l2)):=by
 obtain ⟨i0,hi,hz0,hz1,hz2⟩:=info_parts vP
 have hgl:=qD hg
 have hc0:w.cell? ⟨g,0,none⟩=some (.slice A1 l1.length c1):=by simp[World.cell?,hg]
 have hc1:w.cell? ⟨g,1,none⟩=some (.slice A2 l2.length c2):=by simp[World.cell?,hg]
 go_enter Tryz.func143,Tryz.ntmps143
 go_wp2
 refine wp_loop_rounds 3 ?_
 rw[rounds_succ]
 go_wp2
 rw[rounds_succ]
 go_wp2
 rw[rounds_succ]
 go_wp2_with fail
 refine (grow_int _ (l1.length+l2.length) _ (by omega) (by omega)).mono ?_
 rintro e w1 ⟨v,rfl,hown,hb⟩
 obtain ⟨p,cap,rfl,_⟩:=qN hown
 have hs1:=hb.size
 have hc0':w1.cell? ⟨g,0,none⟩=some (.slice A1 l1.length c1):=(hb.cell (p:=⟨g,0,none⟩) hgl).trans hc0
 have hc1':w1.cell? ⟨g,1,none⟩=some (.slice A2 l2.length c2):=(hb.cell (p:=⟨g,1,none⟩) hgl).trans hc1
 have r1:=h1.below hb hB
 have r2:=h2.below hb hB
 clear hc0 hc1
 go_wp2
 refine wp_loop_rounds 3 ?_
 rw[rounds_succ]
 go_wp2_with (at_builtin;refine qu _ rfl _ _ _ rfl w.heap.size 5 i0 _ Tryz.underlying34 hi hz0 hz1 hz2 rfl _ [] rfl hown B A1 c1 l1 rfl r1 (by simp;omega) hs1 ?_;intro p1 cap1 w2 hown1 hg1 _)
 rw[rounds_succ]
 simp only[List.nil_append] at hown1
 have hb1:=hb.grown hg1 hs1 λk e=>(hown.lt k e).1
 have hs2:=hb1.size
 have hc1'':w2.cell? ⟨g,1,none⟩=some (.slice A2 l2.length c2):=(World.cell?_of_block (hg1.block g (by omega) λe=>by have:=(hown.lt g e.symm).1;omega)).trans hc1'
 have r2':=r2.grown hg1 (by omega) λk e=>by have:=(hown.lt k e).1;omega
 clear hc0' hc1'
 go_wp2_with (at_builtin;refine qu _ rfl _ _ _ rfl w.heap.size 5 i0 _ Tryz.underlying34 hi hz0 hz1 hz2 rfl _ l1 rfl hown1 B A2 c2 l2 rfl r2' (by omega) hs2 ?_;intro p2 cap2 w3 hown2 hg2 _)
 rw[rounds_succ]
 have hb2:=hb1.grown hg2 hs2 λk e=>(hown1.lt k e).1
 go_wp2
 go_ret
 exact ⟨p2,cap2,l1++l2,by rw[List.length_append];rfl,rfl,hown2,hb2⟩
theorem zVd (B g:Nat) (A1 A2:Option Addr) (c1 c2 k:Nat) (l1 l2:List UInt8) (w:World) (hg:w.heap[g]? = some (.cells #[.slice A1 l1.length c1,.slice A2 l2.length c2] 34 (0,0)))
 (h1:RB w B A1 l1) (h2:RB w B A2 l2) (hB:B<=w.heap.size) (hl1:l1.length<=70368744177664) (hl2:l2.length<=70368744177664) :
 Calls Tryz.prog 143 #[.slice (some ⟨g,0,none⟩) 2 k] w (Fresh w (l1++l2)) :=
 (zIr B g A1 A2 c1 c2 k l1 l2 w hg h1 h2 hB hl1 hl2).mono λ_ _ h=>h.fresh
theorem zIs (B:Nat) (A:Option Addr) (c:Nat) (l:List UInt8) (w:World) (h:RB w B A l) (hB:B<=w.heap.size) (hl:l.length<=70368744177664) :
 Calls Tryz.prog 121 #[.slice A l.length c] w (Fresh w l):=by
 obtain ⟨i0,hi,hz0,hz1,hz2⟩:=info_parts vP
 rcases A with _ | ad
 . have hl0:l = []:=by
    rcases Nat.eq_zero_or_pos l.length with h0 | h0
    . exact List.eq_nil_of_length_eq_zero h0
    . obtain ⟨ad,h,_⟩:=h h0
      cases h
   subst hl0
   have hnil:=λw=>Lib.run_eql_slice_nil (P:=Tryz.prog) w 34 5 none 0 c 0 0 Tryz.underlying34
   go_enter Tryz.func121,Tryz.ntmps121
   go_wp2
   go_ret
   exact ⟨none,0,[],rfl,rfl,Nat.le_refl _,.nil,λ_ e=>(by cases e),bR⟩
 . have hnil:=λw=>Lib.run_eql_slice_nil (P:=Tryz.prog) w 34 5 (some ad) l.length c 0 0 Tryz.underlying34
   go_enter Tryz.func121,Tryz.ntmps121
   have hown:=World.ownsRow_made (base:=w.heap.size) (e:=5) (size:=1) w #[] 0 nL (Nat.zero_le _) rfl
   go_wp2_with (at_builtin;refine qu _ rfl _ _ _ rfl w.heap.size 5 i0 _ Tryz.underlying34 hi hz0 hz1 hz2 rfl _ [] rfl hown B (some ad) c l rfl (h.alloc hB _) (by simp;omega) (by simp) ?_;intro p1 cap1 w2 hown1 hg1 _)
   go_ret
   exact Fresh.of hown1 nL ((bR.alloc nL _).grown hg1 (by simp) λk e=>(hown.lt k e).1)
theorem zVb (x:Int) (n:Nat) (w:World) (hx:x=n) (h:n<=1099511627776):Calls Tryz.prog 144 #[.int .i64 x] w (Fresh w (qg n)):=by
 subst hx
 exact zVc n w h
theorem zBw (B:Nat) (A:Option Addr) (c:Nat) (l:List UInt8) (n:Int) (w:World) (h:RB w B A l) (hB:B<=w.heap.size) (hl:l.length<=70368744177664) :
 Calls Tryz.prog 116 #[.slice A l.length c,.int .i64 n] w (Fresh w (l++qg (qc n))):=by
 go_enter Tryz.func116,Tryz.ntmps116
 go_wp2_with fail
 refine (zVb _ (qc n) _ (by unfold qc;split;omega;split<;>omega) (vn n)).mono ?_
 rintro e w1 ⟨A1,c1,L1,rfl,hL1,hc1,hr1,_,hb1⟩
 have hs1:=hb1.size
 have hn:L1.length<=6:=by rw[hL1.out];exact (qn (qc n) (by have:=vn n;omega)).2
 go_wp2_with fail
 refine (zVd w1.heap.size w1.heap.size A A1 c c1 2 l L1 _ (heap_alloc_new w1 _) (((h.below hb1 hB).mono (by omega)).alloc nL _) (hr1.alloc nL _) (by simp) hl (by omega)).mono ?_
 rintro e w2 ⟨A2,c2,L2,rfl,hL2,hc2,hr2,hn2,hb2⟩
 go_wp2
 go_ret
 exact ⟨A2,c2,L2,rfl,by rw[<- hL1.out];exact hL2,hc2,hr2,λad e=>(by have:=hn2 ad e;simp at this;omega),(hb1.alloc hs1 _).trans (hb2.mono (by simp;omega))⟩
theorem text_own (B:Nat) (A A':Option Addr) (c c':Nat) (l s:List UInt8) (w:World) (h:RB w B A l) (h':RB w B A' s) (hB:B<=w.heap.size) (hl:l.length<=70368744177000) (hs:s.length<=70368744177664) :
 Calls Tryz.prog 117 #[.slice A l.length c,.slice A' s.length c'] w (FreshO w (l++qg (qc s.length)++s)):=by
 go_enter Tryz.func117,Tryz.ntmps117
 go_wp2_with fail
 refine (zBw B A c l s.length _ h hB (by omega)).mono ?_
 rintro e w1 ⟨A1,c1,L1,rfl,hL1,hc1,hr1,_,hb1⟩
 have hs1:=hb1.size
 have hn:L1.length<=l.length+6:=by
  rw[hL1.out]
  have:=(qn (qc s.length) (by have:=vn s.length;omega)).2
  simp;omega
 go_wp2_with fail
 refine (zIr w1.heap.size w1.heap.size A1 A' c1 c' 2 L1 s _ (heap_alloc_new w1 _) (hr1.alloc nL _) (((h'.below hb1 hB).mono (by omega)).alloc nL _) (by simp) (by omega) hs).mono ?_
 rintro e w2 ⟨A2,c2,L2,rfl,hL2,hown2,hb2⟩
 go_wp2
 go_ret
 exact ⟨A2,c2,L2,rfl,by rw[<- hL1.out];exact hL2,zMv hown2 (by simp;omega),(hb1.alloc hs1 _).trans (hb2.mono (by simp;omega))⟩
end
section
open Go.RowKit
def zHb (o:Option (Nat × Nat)):Nat × Nat:=o.getD (0,0)
def Told (o:Option (Nat × Nat)) (w:World) (e:Ending) (w':World):Prop:=e=.returned (.tuple #[.int .i64 (zHb o).1,.int .i64 (zHb o).2])/\w=w'
theorem va (B:Nat) (A:Option Addr) (c:Nat) (l:List UInt8) (most:Int) (w:World) (h:RB w B A l) (hc:l.length<=c) (hl:l.length<=70368744177664) :
 Calls Tryz.prog 122 #[.slice A l.length c,.int .i64 most] w (Told (zBu l most) w):=by
 by_cases h0:l = []
 . subst h0
   go_enter Tryz.func122,Tryz.ntmps122
   go_wp2
   refine wp_loop_rounds 1 ?_
   rw[rounds_succ]
   go_wp2
   go_ret2
   exact ⟨rfl,rfl⟩
 . have hn:0<l.length:=by cases l;exact absurd rfl h0;simp
   obtain ⟨ad,rfl,hb,hcell⟩:=h hn
   have hd:w.cell? ad=some (.int .u8 l[0].toNat):=by simpa[Addr.add,ub] using hcell 0 hn
   by_cases h1:l[0]=128
   . have e:(l[0].toNat:Int)=128:=by rw[h1];rfl
     rw[e] at hd
     have hr:zBu l most=none:=by unfold zBu;rw[if_pos (by simp[hn,h1])]
     rw[hr]
     clear e h1 hr h0 hcell
     go_enter Tryz.func122,Tryz.ntmps122
     go_wp2
     go_ret2
     exact ⟨rfl,rfl⟩
   . have hne:((l[0].toNat:Int)==128)=false:=by
      have:l[0].toNat≠128:=λe=>h1 (UInt8.toNat.inj e)
      simp;omega
     have hr:zBu l most=zG most 0 0 (l.take 6):=by unfold zBu;rw[if_neg (by simp[hn,h1])]
     rw[hr]
     clear hr h0
     generalize hd0:l[0].toNat=d0 at hd hne
     clear hd0 h1
     obtain ⟨m,hm⟩:∃m:Nat,min (l.length:Int) 6=(m:Int):=⟨min l.length 6,by omega⟩
     have hm2:max (m:Int) 0=m:=by omega
     have hm3:m<=l.length:=by omega
     have hm6:m<=6:=by omega
     have hml:(l.take 6).length=m:=by simp;omega
     have Hml:=hI hml
     clear hml
     go_enter Tryz.func122,Tryz.ntmps122
     go_wp2
     clear hm hm2 hd hne
     go_loop [4,23] (λa i=>∃k acc:Nat,k<=m/\i=.int .i64 k/\a=.int .i64 acc/\acc<128 ^ k/\zG most 0 0 (l.take 6)=zG most acc k ((l.take 6).drop k)) (λ_ i=>m - (intOf i).toNat)
     case atStart=>exact ⟨0,0,Nat.zero_le _,rfl,rfl,by simp,by simp⟩
     case round =>
      obtain ⟨k,acc,hk,rfl,rfl,hacc,hsc⟩:=hrel
      have Hsc:=hI hsc
      clear hsc
      by_cases hlt:k<m
      . have hck:=hcell k (by omega)
        unfold ub at hck
        have hacc5:acc<34359738368:=Nat.lt_of_lt_of_le hacc (Nat.le_trans (Nat.pow_le_pow_right (by decide) (show k<=5 by omega)) (by decide))
        have hd256:=l[k].toNat_lt
        have hdk:((l.take 6).drop k)=l[k]::(l.take 6).drop (k+1):=by
         rw[List.drop_eq_getElem_cons (by rw[Hml.out];exact hlt)];simp
        have HS:zG most 0 0 (l.take 6)=(if most<((acc * 128+l[k].toNat % 128:Nat):Int) then none else if l[k].toNat<128 then some (acc * 128+l[k].toNat % 128,k+1) else zG most (acc * 128+l[k].toNat % 128) (k+1) ((l.take 6).drop (k+1))):=by rw[Hsc.out,hdk,zG]
        clear hdk
        generalize l[k].toNat=d at hck hd256 HS
        obtain ⟨x,hx⟩:∃x,x=d % 128:=⟨_,rfl⟩
        have hx1:x<128:=by omega
        have e1:bits .andNot .u8 (d:Int) 128=(x:Int):=by rw[not128 _ (by omega) (by omega)];omega
        obtain ⟨y,hy⟩:∃y,y=acc * 128+x:=⟨_,rfl⟩
        have hy1:y<4398046511104:=by omega
        have e3:bits .or .i64 ((acc:Int) * 128) (x:Int)=(y:Int):=by rw[or7 acc x hacc5 hx1,hy]
        have e4:=and128 (d:Int) (by omega) (by omega)
        rw[<- hx,<- hy] at HS
        have Hy:y<128 ^ (k+1):=by rw[Nat.pow_succ];omega
        clear hx hy
        by_cases hmost:most<(y:Int)
        . rw[if_pos hmost] at HS
          have HS':=hI HS
          clear HS
          go_wp2
          go_ret2
          exact ⟨by rw[HS'.out];rfl,rfl⟩
        . rw[if_neg hmost] at HS
          by_cases hdl:d<128
          . rw[decide_eq_true (by omega:(d:Int)<128)] at e4
            rw[if_pos hdl] at HS
            have HS':=hI HS
            clear HS
            go_wp2
            go_ret2
            exact ⟨by rw[HS'.out];rfl,rfl⟩
          . rw[decide_eq_false (by omega:¬(d:Int)<128)] at e4
            rw[if_neg hdl] at HS
            have HS':=hI HS
            clear HS
            go_wp2
            go_round
            case rel=>exact ⟨k+1,y,by omega,by go_num,rfl,Hy,HS'.out⟩
            case measure=>simp[intOf];omega
      . have HS:Hid (zG most 0 0 (l.take 6)=none):=by
         show _=_
         rw[Hsc.out,List.drop_eq_nil_of_le (by rw[Hml.out];omega)];rfl
        go_wp2
        go_ret2
        exact ⟨by rw[HS.out];rfl,rfl⟩
def RD (t:TypeId) (w:World) (p B:Nat) (l:List UInt8) (er:Int):Prop :=
 ∃(A:Option Addr) (c:Nat),w.heap[p]? = some (.cells #[.slice A l.length c,.int .i64 er] t (0,0))/\RB w B A l/\l.length<=c/\B<=p/\l.length<=70368744177664
structure TouchR (p:Nat) (w w':World):Prop where
 os:w'.os=w.os
 tape:w'.tape=w.tape
 output:w'.output=w.output
 size:w.heap.size<=w'.heap.size
 block:∀i,i<w.heap.size->i≠p->w'.heap[i]? = w.heap[i]?
theorem TouchR.refl (p:Nat) (w:World):TouchR p w w:=⟨rfl,rfl,rfl,Nat.le_refl _,λ_ _ _=>rfl⟩
theorem TouchR.below {p:Nat} {w w':World} (h:TouchR p w w') {B:Nat} (hp:B<=p) (hB:B<=w.heap.size):Below B w w' :=
 ⟨h.os,h.tape,h.output,h.size,λi hi=>h.block i (by omega) (by omega)⟩
theorem TouchR.of_below {p:Nat} {w w':World} (h:Below w.heap.size w w'):TouchR p w w':=⟨h.os,h.tape,h.output,h.size,λi hi _=>h.block i hi⟩
theorem TouchR.setCell {p:Nat} {a b:World} (h:TouchR p a b) (j:Nat) (u:Value):TouchR p a (b.setCell ⟨p,j,none⟩ u) :=
 ⟨h.os,h.tape,h.output,by simpa using h.size,λi hi hp=>(Below.heap_setCell b ⟨p,j,none⟩ u i hp).trans (h.block i hi hp)⟩
section
variable {t:TypeId} {w w':World} {p B:Nat} {l:List UInt8} {er:Int}
end
def NewRD (w:World) (l:List UInt8) (e:Ending) (w':World):Prop :=
 ∃p B,e=.returned (.pointer (some ⟨p,0,none⟩))/\w.heap.size<=p/\RD 179 w' p B l 0/\w.heap.size<=B/\Below w.heap.size w w'
theorem new_any (B:Nat) (A:Option Addr) (c:Nat) (l:List UInt8) (w:World) (h:RB w B A l) (hB:B<=w.heap.size) (hl:l.length<=70368744177664) :
 Calls Tryz.prog 94 #[.slice A l.length c] w (NewRD w l):=by
 go_enter Tryz.func94,Tryz.ntmps94
 go_wp2_with fail
 refine (zIs B A c l _ h hB hl).mono ?_
 rintro e w1 ⟨A1,c1,L1,rfl,hL1,hc1,hr1,_,hb1⟩
 have hs1:=hb1.size
 go_wp2
 go_ret
 exact ⟨w1.heap.size,w1.heap.size,rfl,hs1,by rw[<- hL1.out] at hl ⊢;exact ⟨A1,c1,heap_alloc_new w1 _,hr1.alloc nL _,hc1,Nat.le_refl _,hl⟩,hs1,hb1.alloc hs1 _⟩
theorem vv (p B:Nat) (l:List UInt8) (er:Int) (w:World) (h:RD 179 w p B l er) :
 Calls Tryz.prog 97 #[.pointer (some ⟨p,0,none⟩)] w λe w'=>e=.returned (.int .i64 er)/\w=w':=by
 obtain ⟨A,c,hp,_⟩:=h
 have h1:w.cell? ⟨p,1,none⟩=some (.int .i64 er):=by simp[World.cell?,hp]
 clear hp
 go_enter Tryz.func97,Tryz.ntmps97
 go_wp2
 go_ret
 exact ⟨rfl,rfl⟩
theorem zCs (p B:Nat) (l:List UInt8) (er:Int) (w:World) (h:RD 179 w p B l er) :
 Calls Tryz.prog 98 #[.pointer (some ⟨p,0,none⟩)] w λe w'=>e=.returned (.int .i64 l.length)/\w=w':=by
 obtain ⟨A,c,hp,_⟩:=h
 have h1:w.cell? ⟨p,0,none⟩=some (.slice A l.length c):=by simp[World.cell?,hp]
 clear hp
 go_enter Tryz.func98,Tryz.ntmps98
 go_wp2
 go_ret
 exact ⟨rfl,rfl⟩
end
section
open Go.RowKit
abbrev RS:=List UInt8 × Int
def vE (s:RS) (most:Int):Int × RS :=
 if s.2≠0 then (0,s) else match zBu s.1 most with
  | none=>(0,(s.1,5))
  | some (n,k)=>(n,(s.1.drop k,0))
def qb (s:RS) (most:Int):List UInt8 × RS :=
 if s.2≠0 then ([],s) else match zBu s.1 most with
  | none=>([],(s.1,5))
  | some (n,k)=>if s.1.length<k+n then ([],(s.1,5)) else ((s.1.drop k).take n,(s.1.drop (k+n),0))
theorem zVi {w:World} {p:Nat} {a b u:Value} {t:TypeId} (h:w.heap[p]? = some (.cells #[a,b] t (0,0))):(w.setCell ⟨p,0,none⟩ u).heap[p]? = some (.cells #[u,b] t (0,0)):=by
 obtain ⟨hlt,he⟩:=Array.getElem?_eq_some_iff.1 h
 simp[World.setCell,Array.getElem?_modify,h]
theorem zVh {w:World} {p:Nat} {a b u:Value} {t:TypeId} (h:w.heap[p]? = some (.cells #[a,b] t (0,0))):(w.setCell ⟨p,1,none⟩ u).heap[p]? = some (.cells #[a,u] t (0,0)):=by
 obtain ⟨hlt,he⟩:=Array.getElem?_eq_some_iff.1 h
 simp[World.setCell,Array.getElem?_modify,h]
theorem cells2 {w:World} {p:Nat} {a b:Value} {t:TypeId} (h:w.heap[p]? = some (.cells #[a,b] t (0,0))):w.cell? ⟨p,0,none⟩=some a/\w.cell? ⟨p,1,none⟩=some b/\w.frozen? ⟨p,0,none⟩=false/\w.frozen? ⟨p,1,none⟩=false:=by
 simp[World.cell?,World.frozen?,h]
def yBb (t:TypeId) (p B:Nat) (s:RS) (w w':World):Prop:=RD t w' p B s.1 s.2/\TouchR p w w'
def NumPost (t:TypeId) (p B:Nat) (s:RS) (most:Int) (w:World) (e:Ending) (w':World):Prop :=
 e=.returned (.int .i64 (vE s most).1)/\yBb t p B (vE s most).2 w w'
def TextPost (t:TypeId) (p B:Nat) (s:RS) (most:Int) (w:World) (e:Ending) (w':World):Prop :=
 ∃(A:Option Addr) (c:Nat) (L:List UInt8),e=.returned (.slice A L.length c)/\Hid (L=(qb s most).1)/\RB w' w'.heap.size A L/\(∀ad,A=some ad->w.heap.size<=ad.block)/\yBb t p B (qb s most).2 w w'
theorem RD.failed {t:TypeId} {w:World} {p B:Nat} {l:List UInt8} {er:Int} (h:RD t w p B l er):RD t (w.setCell ⟨p,1,none⟩ (.int .i64 5)) p B l 5:=by
 obtain ⟨A,c,hp,hr,h1,h2,h3⟩:=h
 exact ⟨A,c,zVh hp,hr.setCell h2 _,h1,h2,h3⟩
theorem RD.cut {t:TypeId} {w:World} {p B c c' k m:Nat} {A A':Option Addr} {l:List UInt8} {er:Int} (hp:w.heap[p]? = some (.cells #[.slice A l.length c,.int .i64 er] t (0,0))) (hr:RB w B A' (l.drop k)) (hm:m=l.length - k) (h1:m<=c') (h2:B<=p) (h3:l.length<=70368744177664) :
 RD t (w.setCell ⟨p,0,none⟩ (.slice A' m c')) p B (l.drop k) er:=by
 subst hm
 exact ⟨A',c',by rw[List.length_drop];exact zVi hp,hr.setCell h2 _,by rw[List.length_drop];exact h1,h2,by rw[List.length_drop];omega⟩
theorem RB.rest {w:World} {B k c:Nat} {A:Option Addr} {l:List UInt8} (h:RB w B A l) (hk:k<=l.length) (hc:l.length<=c):(c=k->RB w B A (l.drop k))/\(c≠k->RB w B (A.map (·.add k)) (l.drop k)) :=
 ⟨λe=>by have:=h.drop hk hc;rwa [if_pos e] at this,λe=>by have:=h.drop hk hc;rwa [if_neg e] at this⟩
theorem zHw (p B:Nat) (l:List UInt8) (er:Int) (most:Int) (w:World) (h:RD 179 w p B l er) :
 Calls Tryz.prog 95 #[.pointer (some ⟨p,0,none⟩),.int .i64 most] w (NumPost 179 p B (l,er) most w):=by
 by_cases her:er=0
 . subst her
   have h':=h
   obtain ⟨A,c,hp,hr,h1,h2,h3⟩:=h
   obtain ⟨hc0,hc1,hf0,hf1⟩:=cells2 hp
   cases hrd:zBu l most with
   | none =>
    have e1:vE (l,0) most=(0,(l,5)):=by simp[vE,hrd]
    have H1:=hI e1
    have H2:=hI hrd
    have HP:=hI hp
    clear hrd e1 hp
    go_enter Tryz.func95,Tryz.ntmps95
    go_wp2_with (first | (go_at_call 97;refine (vv p B l 0 _ h').mono ?_;rintro e w' ⟨rfl,rfl⟩) | (go_at_call 122;refine (va B A c l most _ hr h1 h3).mono ?_;rintro e w' ⟨rfl,rfl⟩;rw[H2.out];simp only[zHb,Option.getD_none]))
    go_ret
    exact ⟨by rw[H1.out];rfl,by rw[H1.out];exact ⟨h'.failed,(TouchR.refl _ _).setCell _ _⟩⟩
   | some x =>
    obtain ⟨n,k⟩:=x
    obtain ⟨hk1,hk6,hkl,_,_,hn⟩:=zCk l most n k hrd
    have e1:vE (l,0) most=((n:Int),(l.drop k,0)):=by simp[vE,hrd]
    have hk0:((k:Int)==0)=false:=by simp;omega
    have H1:=hI e1
    have H2:=hI hrd
    have HP:=hI hp
    clear hrd e1 hp
    have hrest:=hr.rest hkl h1
    by_cases hck:c=k
    . have hr':=hrest.1 hck
      clear hrest
      subst hck
      go_enter Tryz.func95,Tryz.ntmps95
      go_wp2_with (first | (go_at_call 97;refine (vv p B l 0 _ h').mono ?_;rintro e w' ⟨rfl,rfl⟩) | (go_at_call 122;refine (va B A _ l most _ hr h1 h3).mono ?_;rintro e w' ⟨rfl,rfl⟩;rw[H2.out];simp only[zHb,Option.getD_some]))
      go_ret
      exact ⟨by rw[H1.out];rfl,by rw[H1.out];exact ⟨RD.cut HP.out hr' (by omega) (by omega) h2 h3,(TouchR.refl _ _).setCell _ _⟩⟩
    . have hr':=hrest.2 hck
      clear hrest
      go_enter Tryz.func95,Tryz.ntmps95
      go_wp2_with (first | (go_at_call 97;refine (vv p B l 0 _ h').mono ?_;rintro e w' ⟨rfl,rfl⟩) | (go_at_call 122;refine (va B A _ l most _ hr h1 h3).mono ?_;rintro e w' ⟨rfl,rfl⟩;rw[H2.out];simp only[zHb,Option.getD_some]))
      go_ret
      exact ⟨by rw[H1.out];rfl,by rw[H1.out];exact ⟨RD.cut HP.out hr' (by omega) (by omega) h2 h3,(TouchR.refl _ _).setCell _ _⟩⟩
 . have e1:vE (l,er) most=(0,(l,er)):=by simp[vE,her]
   have H1:=hI e1
   have hne:(er != 0)=true:=by simpa using her
   clear e1
   go_enter Tryz.func95,Tryz.ntmps95
   go_wp2_with (go_at_call 97;refine (vv p B l er _ h).mono ?_;rintro e w' ⟨rfl,rfl⟩)
   go_ret
   exact ⟨by rw[H1.out];rfl,by rw[H1.out];exact ⟨h,TouchR.refl _ _⟩⟩
theorem zGj (B:Nat) (A:Option Addr) (c m:Nat) (l:List UInt8) (w:World) (hm:m=l.length) (h:RB w B A l) (hB:B<=w.heap.size) (hl:l.length<=70368744177664) :
 Calls Tryz.prog 121 #[.slice A m c] w (Fresh w l):=by
 subst hm
 exact zIs B A c l w h hB hl
theorem text_any (p B:Nat) (l:List UInt8) (er:Int) (most:Int) (w:World) (h:RD 179 w p B l er) :
 Calls Tryz.prog 96 #[.pointer (some ⟨p,0,none⟩),.int .i64 most] w (TextPost 179 p B (l,er) most w):=by
 by_cases her:er=0
 . subst her
   have h':=h
   obtain ⟨A,c,hp,hr,h1,h2,h3⟩:=h
   obtain ⟨hc0,hc1,hf0,hf1⟩:=cells2 hp
   have hpl:=qD hp
   cases hrd:zBu l most with
   | none =>
    have e1:qb (l,0) most=([],(l,5)):=by simp[qb,hrd]
    have H1:=hI e1
    have H2:=hI hrd
    have HP:=hI hp
    clear hrd e1 hp
    go_enter Tryz.func96,Tryz.ntmps96
    go_wp2_with (first | (go_at_call 97;refine (vv p B l 0 _ h').mono ?_;rintro e w' ⟨rfl,rfl⟩) | (go_at_call 122;refine (va B A c l most _ hr h1 h3).mono ?_;rintro e w' ⟨rfl,rfl⟩;rw[H2.out];simp only[zHb,Option.getD_none]))
    go_ret
    exact ⟨none,0,[],rfl,by rw[H1.out];rfl,.nil,λ_ e=>(by cases e),by rw[H1.out];exact ⟨h'.failed,(TouchR.refl _ _).setCell _ _⟩⟩
   | some x =>
    obtain ⟨n,k⟩:=x
    obtain ⟨hk1,hk6,hkl,_,_,hn⟩:=zCk l most n k hrd
    have hk0:((k:Int)==0)=false:=by simp;omega
    by_cases hlk:l.length<k+n
    . have e1:qb (l,0) most=([],(l,5)):=by simp[qb,hrd,hlk]
      have H1:=hI e1
      have H2:=hI hrd
      have HP:=hI hp
      clear hrd e1 hp
      go_enter Tryz.func96,Tryz.ntmps96
      go_wp2_with (first | (go_at_call 97;refine (vv p B l 0 _ h').mono ?_;rintro e w' ⟨rfl,rfl⟩) | (go_at_call 122;refine (va B A c l most _ hr h1 h3).mono ?_;rintro e w' ⟨rfl,rfl⟩;rw[H2.out];simp only[zHb,Option.getD_some]))
      go_ret
      exact ⟨none,0,[],rfl,by rw[H1.out];rfl,.nil,λ_ e=>(by cases e),by rw[H1.out];exact ⟨h'.failed,(TouchR.refl _ _).setCell _ _⟩⟩
    . have e1:qb (l,0) most=((l.drop k).take n,(l.drop (k+n),0)):=by simp[qb,hrd,hlk]
      have H1:=hI e1
      have H2:=hI hrd
      have HP:=hI hp
      clear hrd e1 hp
      have hrest:=hr.rest hkl h1
      have hrest2:=hr.rest (k:=k+n) (by omega) h1
      have hlen:n=((l.drop k).take n).length:=by simp;omega
      by_cases hck:c=k
      . have hrc:=(hrest.1 hck).take n
        have hrn:=hrest2.1 (by omega)
        obtain rfl:n=0:=by omega
        subst hck
        clear hrest hrest2
        have Hlen:=hI hlen
        clear hlen
        go_enter Tryz.func96,Tryz.ntmps96
        go_wp2_with (first | (go_at_call 97;refine (vv p B l 0 _ h').mono ?_;rintro e w' ⟨rfl,rfl⟩) | (go_at_call 122;refine (va B A _ l most _ hr h1 h3).mono ?_;rintro e w' ⟨rfl,rfl⟩;rw[H2.out];simp only[zHb,Option.getD_some]) | fail)
        refine (zGj B _ _ _ ((l.drop c).take 0) _ Hlen.out hrc (by omega) (by have:=List.length_take_le 0 (l.drop c);rw[<- Hlen.out];omega)).mono ?_
        rintro e w1 ⟨A1,c1,L1,rfl,hL1,hc1,hr1,hn1,hb1⟩
        have hs1:=hb1.size
        have hc0':w1.cell? ⟨p,0,none⟩=some _:=(hb1.cell (p:=⟨p,0,none⟩) hpl).trans hc0
        have hf0':w1.frozen? ⟨p,0,none⟩=false:=(hb1.frozen (p:=⟨p,0,none⟩) hpl).trans hf0
        have hp1:=hI ((hb1.block p hpl).trans HP.out)
        have hrn':=hrn.below hb1 (by omega)
        clear hc0 hf0 hc1 hf1
        go_wp2
        go_ret
        exact ⟨A1,c1,L1,rfl,by rw[H1.out];exact hL1,by simpa using hr1.setFar (λad e _=>(by have:=hn1 ad e;omega)) _,hn1,by rw[H1.out];exact ⟨RD.cut hp1.out hrn' (by omega) (by omega) h2 h3,(TouchR.of_below hb1).setCell _ _⟩⟩
      . have hrc:=(hrest.2 hck).take n
        by_cases hcn:c=k+n
        . have hrn:=hrest2.1 hcn
          clear hrest hrest2
          have Hlen:=hI hlen
          clear hlen
          subst hcn
          go_enter Tryz.func96,Tryz.ntmps96
          go_wp2_with (first | (go_at_call 97;refine (vv p B l 0 _ h').mono ?_;rintro e w' ⟨rfl,rfl⟩) | (go_at_call 122;refine (va B A _ l most _ hr h1 h3).mono ?_;rintro e w' ⟨rfl,rfl⟩;rw[H2.out];simp only[zHb,Option.getD_some]) | fail)
          refine (zGj B _ _ _ ((l.drop k).take n) _ Hlen.out hrc (by omega) (by have:=List.length_take_le n (l.drop k);rw[<- Hlen.out];omega)).mono ?_
          rintro e w1 ⟨A1,c1,L1,rfl,hL1,hc1,hr1,hn1,hb1⟩
          have hs1:=hb1.size
          have hc0':w1.cell? ⟨p,0,none⟩=some _:=(hb1.cell (p:=⟨p,0,none⟩) hpl).trans hc0
          have hf0':w1.frozen? ⟨p,0,none⟩=false:=(hb1.frozen (p:=⟨p,0,none⟩) hpl).trans hf0
          have hp1:=hI ((hb1.block p hpl).trans HP.out)
          have hrn':=hrn.below hb1 (by omega)
          clear hc0 hf0 hc1 hf1
          go_wp2
          go_ret
          exact ⟨A1,c1,L1,rfl,by rw[H1.out];exact hL1,by simpa using hr1.setFar (λad e _=>(by have:=hn1 ad e;omega)) _,hn1,by rw[H1.out];exact ⟨RD.cut hp1.out hrn' (by omega) (by omega) h2 h3,(TouchR.of_below hb1).setCell _ _⟩⟩
        . have hrn:=hrest2.2 hcn
          clear hrest hrest2
          have Hlen:=hI hlen
          clear hlen
          go_enter Tryz.func96,Tryz.ntmps96
          go_wp2_with (first | (go_at_call 97;refine (vv p B l 0 _ h').mono ?_;rintro e w' ⟨rfl,rfl⟩) | (go_at_call 122;refine (va B A _ l most _ hr h1 h3).mono ?_;rintro e w' ⟨rfl,rfl⟩;rw[H2.out];simp only[zHb,Option.getD_some]) | fail)
          refine (zGj B _ _ _ ((l.drop k).take n) _ Hlen.out hrc (by omega) (by have:=List.length_take_le n (l.drop k);rw[<- Hlen.out];omega)).mono ?_
          rintro e w1 ⟨A1,c1,L1,rfl,hL1,hc1,hr1,hn1,hb1⟩
          have hs1:=hb1.size
          have hc0':w1.cell? ⟨p,0,none⟩=some _:=(hb1.cell (p:=⟨p,0,none⟩) hpl).trans hc0
          have hf0':w1.frozen? ⟨p,0,none⟩=false:=(hb1.frozen (p:=⟨p,0,none⟩) hpl).trans hf0
          have hp1:=hI ((hb1.block p hpl).trans HP.out)
          have hrn':=hrn.below hb1 (by omega)
          clear hc0 hf0 hc1 hf1
          go_wp2
          go_ret
          exact ⟨A1,c1,L1,rfl,by rw[H1.out];exact hL1,by simpa using hr1.setFar (λad e _=>(by have:=hn1 ad e;omega)) _,hn1,by rw[H1.out];exact ⟨RD.cut hp1.out hrn' (by omega) (by omega) h2 h3,(TouchR.of_below hb1).setCell _ _⟩⟩
 . have e1:qb (l,er) most=([],(l,er)):=by simp[qb,her]
   have H1:=hI e1
   have hne:(er != 0)=true:=by simpa using her
   clear e1
   go_enter Tryz.func96,Tryz.ntmps96
   go_wp2_with (go_at_call 97;refine (vv p B l er _ h).mono ?_;rintro e w' ⟨rfl,rfl⟩)
   go_ret
   exact ⟨none,0,[],rfl,by rw[H1.out];rfl,.nil,λ_ e=>(by cases e),by rw[H1.out];exact ⟨h,TouchR.refl _ _⟩⟩
end
section
open Go.RowKit
theorem yB (n:Nat) (h:n<=1099511627776):qc (n:Int)=n:=by have:=heldW_in (n:Int) (by omega) (by omega);omega
theorem zFt (n:Nat) (t:List UInt8) (most:Int) (h:n<4398046511104) (hm:(n:Int)<=most):vE (qg n++t,0) most=((n:Int),(t,0)):=by
 unfold vE
 simp[zRh n t most h hm]
theorem zJe (s t:List UInt8) (most:Int) (h:s.length<4398046511104) (hm:(s.length:Int)<=most):qb (qg s.length++s++t,0) most=(s,(t,0)):=by
 unfold qb
 rw[List.append_assoc]
 have e:(qg s.length++(s++t)).drop ((qg s.length).length+s.length)=t:=by rw[<- List.append_assoc];exact List.drop_left' (by simp)
 simp[zRh s.length (s++t) most h hm,e]
theorem zMz (n:Nat) (w:World) (h:n<=1099511627776):Calls Tryz.prog 116 #[.slice none 0 0,.int .i64 n] w (Fresh w (qg n)):=by
 have:=zBw 0 none 0 [] n w .nil (Nat.zero_le _) (by simp)
 rwa [yB n h] at this
end
section
open Go.RowKit
theorem yh (a b c:Int) (w:World) :
 Calls Tryz.prog 115 #[.int .i64 a,.int .i64 b,.int .i64 c] w λe w'=>e=.returned (.bool (decide (b<=a/\a<=c)))/\w=w':=by
 go_enter Tryz.func115,Tryz.ntmps115
 go_wp2
 . have h:b<=a:=by assumption
   go_ret
   exact ⟨ret_bool (by simp[h]),rfl⟩
 . have h:a<b:=by assumption
   go_ret
   exact ⟨ret_bool (by simp;omega),rfl⟩
theorem zJi (w:World) (c:UInt8) (t:TypeId) (fr:Nat × Nat):RB (w.alloc (.cells #[.int .u8 c.toNat] t fr)) (w.heap.size+1) (some ⟨w.heap.size,0,none⟩) [c]:=λ_=>⟨_,rfl,by simp,λj hj=>by
 obtain rfl:j=0:=by simpa using hj
 have:=World.cell?_alloc_mark w #[.int .u8 c.toNat] t fr 0
 simpa[Addr.add,ub] using this⟩
def qo (p s:Nat) (d:List UInt8):List UInt8:=qg p++qg s++qg d.length++d++[90]
def vg (p s:Int) (d:List UInt8):Prop:=(0<=p/\p<=60)/\(1<=s/\s<=1099511627776)/\d.length<=2000/\(qo p.toNat s.toNat d).length<=2000
instance (p s:Int) (d:List UInt8):Decidable (vg p s d):=by unfold vg;infer_instance
def BytesPost (p s:Int) (d:List UInt8) (w:World) (e:Ending) (w':World):Prop :=
 ∃(A:Option Addr) (c:Nat) (L:List UInt8) (er:Int),e=.returned (.tuple #[.slice A L.length c,.int .i64 er])/\Hid (L=if vg p s d then qo p.toNat s.toNat d else [])/\er=(if vg p s d then 0 else 1)/\L.length<=c/\RB w' w'.heap.size A L/\(∀ad,A=some ad->w.heap.size<=ad.block)/\Below w.heap.size w w'
theorem BytesPost.no {p s:Int} {d:List UInt8} {w w':World} (h:¬vg p s d) (hb:Below w.heap.size w w'):BytesPost p s d w (.returned (.tuple #[.slice none 0 0,.int .i64 1])) w' :=
 ⟨none,0,[],1,rfl,by rw[if_neg h];rfl,by rw[if_neg h],Nat.le_refl _,.nil,λ_ e=>(by cases e),hb⟩
theorem zCy {w:World} {q:Nat} {a b c:Value} {t:TypeId} (h:w.heap[q]? = some (.cells #[a,b,c] t (0,0))):w.cell? ⟨q,0,none⟩=some a/\w.cell? ⟨q,1,none⟩=some b/\w.cell? ⟨q,2,none⟩=some c:=by
 simp[World.cell?,h]
theorem zOi (B:Nat) (p s:Int) (A:Option Addr) (c:Nat) (d:List UInt8) (w:World) (hr:RB w B A d) (hB:B<=w.heap.size) :
 Calls Tryz.prog 87 #[.agg #[.int .i64 p,.int .i64 s,.slice A d.length c]] w (BytesPost p s d w):=by
 obtain ⟨i0,hi,hz0,hz1,hz2⟩:=info_parts vP
 by_cases h1:0<=p/\p<=60
 . by_cases h2:1<=s/\s<=1099511627776
   . by_cases h3:d.length<=2000
     . obtain ⟨P,rfl⟩:∃P:Nat,p=(P:Int):=⟨p.toNat,by omega⟩
       obtain ⟨S,rfl⟩:∃S:Nat,s=(S:Int):=⟨s.toNat,by omega⟩
       have hP:P<=60:=by omega
       have hS:S<=1099511627776:=by omega
       have H1:=hI h1
       have H2:=hI h2
       have eP:=hI (yB P (by omega))
       have eS:=hI (yB S (by omega))
       have eD:=hI (yB d.length (by omega))
       have hr0:=hI (hr.alloc hB (.cells #[.int .i64 (P:Int),.int .i64 (S:Int),.slice A d.length c] 47))
       clear h1 h2
       go_enter Tryz.func87,Tryz.ntmps87
       go_wp2_with (first
        | (go_at_call 115;refine (yh _ _ _ _).mono ?_;rintro e w' ⟨rfl,rfl⟩;first | rw[decide_eq_true H1.out] | rw[decide_eq_true H2.out])
        | (go_at_call 116;(with_reducible refine (zBw w1.heap.size A1 c1 L1 S w1 HR1.out nL (by omega)).mono ?_);rintro e w2 ⟨A2,c2,L2,rfl,hL2,hc2,hr2,hn2,hb2⟩;have HL2:=hI (hL2.out.trans (by rw[HL1.out,eS.out]));have HR2:=hI hr2;have hs2:=hb2.size;have hl2:L2.length<=12:=(by rw[hL2.out];have:=(qn (qc S) (by have:=vn S;omega)).2;simp;omega);have HB2:=hI (HB1.out.trans (hb2.mono (by omega)));obtain ⟨_,_,k2⟩:=zCy ((hb2.block w.heap.size (by have:=qD HST1.out;omega)).trans HST1.out);have hrd2:=hI (hrd1.out.below hb2 (by omega));clear hL2 hr2 hn2 hb2 k1)
        | (go_at_call 117;(with_reducible refine (text_own w2.heap.size A2 A c2 c L2 d w2 HR2.out (hrd2.out.mono (by omega)) nL (by omega) (by omega)).mono ?_);rintro e w3 ⟨A3,c3,L3,rfl,hL3,hown3,hb3⟩;have HL3:=hI (hL3.out.trans (by rw[HL2.out,eD.out]));have hl3:L3.length<=2018:=(by rw[hL3.out];have:=(qn (qc d.length) (by have:=vn d.length;omega)).2;simp;omega);have hs3:=hb3.size;have HB3:=hI (HB2.out.trans (hb3.mono (by omega)));clear hL3 hb3 k2)
        | (at_builtin;refine qu _ rfl _ _ _ rfl w2.heap.size 5 i0 _ Tryz.underlying34 hi hz0 hz1 hz2 rfl _ L3 rfl (hown3.alloc _) (w3.heap.size+1) _ 1 [90] rfl (zJi w3 90 5 (0,0)) (by simp;omega) (by simp;omega) ?_;intro p4 cap4 w4 hown4 hg4 _)
        | (go_at_call 116;(with_reducible refine (zMz P _ (by omega)).mono ?_);rintro e w1 ⟨A1,c1,L1,rfl,hL1,hc1,hr1,hn1,hb1⟩;have HL1:=hI hL1.out;have HR1:=hI hr1;have hs1:w.heap.size<=w1.heap.size:=(by have:=hb1.size;simp at this;omega);have hl1:L1.length<=6:=(by rw[hL1.out];exact (qn P (by omega)).2);have HB1:=hI (((Below.refl w.heap.size w).alloc nL _).trans (hb1.mono (by simp)));have hst1:=(hb1.block w.heap.size (by simp)).trans (heap_alloc_new w _);obtain ⟨_,k1,_⟩:=zCy hst1;have HST1:=hI hst1;clear hst1;have hrd1:=hI ((hr0.out.below hb1 (by simp;omega)));clear hL1 hr1 hn1 hb1)
        | fail)
       all_goals
        have hB4:Below w.heap.size w w4:=(HB3.out.alloc (by omega) _).grown hg4 (by simp;omega) (λk e=>(by have:=(hown3.lt k e).1;omega))
        have hlen:(qo (P:Int).toNat (S:Int).toNat d).length=L3.length+1:=by rw[HL3.out];unfold qo;simp only[Int.toNat_natCast,List.length_append,List.length_singleton]
        go_ret2
       . exact BytesPost.no (λh=>by have:=h.2.2.2;omega) hB4
       . have hM:vg (P:Int) (S:Int) d:=⟨H1.out,H2.out,h3,by omega⟩
         obtain ⟨p4',c4',he,hle⟩:=qN hown4
         cases he
         refine ⟨p4,cap4,L3++[90],0,by simp,?_,by rw[if_pos hM],hle,.of_own hown4,λad e=>?_,hB4⟩
         . rw[if_pos hM,HL3.out];rfl
         . have:=(hown4.lt ad.block (by rw[e];rfl)).1;omega
     . have H1:=hI h1
       have H2:=hI h2
       clear h1 h2
       go_enter Tryz.func87,Tryz.ntmps87
       go_wp2_with (go_at_call 115;refine (yh _ _ _ _).mono ?_;rintro e w' ⟨rfl,rfl⟩;first | rw[decide_eq_true H1.out] | rw[decide_eq_true H2.out])
       go_ret2
       exact BytesPost.no (λh=>h3 h.2.2.1) (bR.alloc nL _)
   . have H1:=hI h1
     have H2:=hI h2
     clear h1 h2
     go_enter Tryz.func87,Tryz.ntmps87
     go_wp2_with (go_at_call 115;refine (yh _ _ _ _).mono ?_;rintro e w' ⟨rfl,rfl⟩;first | rw[decide_eq_true H1.out] | rw[decide_eq_false H2.out])
     go_ret2
     exact BytesPost.no (λh=>H2.out h.2.1) (bR.alloc nL _)
 . have H1:=hI h1
   clear h1
   go_enter Tryz.func87,Tryz.ntmps87
   go_wp2_with (go_at_call 115;refine (yh _ _ _ _).mono ?_;rintro e w' ⟨rfl,rfl⟩;rw[decide_eq_false H1.out])
   go_ret2
   exact BytesPost.no (λh=>H1.out h.1) (bR.alloc nL _)
theorem zYr (B:Nat) (p s:Int) (A:Option Addr) (c:Nat) (d:List UInt8) (w:World) (hr:RB w B A d) (hB:B<=w.heap.size) :
 Calls Tryz.prog 99 #[.agg #[.int .i64 p,.int .i64 s,.slice A d.length c]] w λe w'=>e=.returned (.bool (decide (vg p s d)))/\Below w.heap.size w w':=by
 by_cases hM:vg p s d
 all_goals
  have HM:=hI hM
  have hr1:=hr.alloc hB (.cells #[.int .i64 p,.int .i64 s,.slice A d.length c] 47)
  clear hM
  go_enter Tryz.func99,Tryz.ntmps99
  go_wp2_with (go_at_call 87;refine (zOi B p s A c d _ hr1 (by simp;omega)).mono ?_;rintro e w1 ⟨A1,c1,L1,er,rfl,hL,her,_,_,_,hb⟩;(first | rw[if_pos HM.out] at her | rw[if_neg HM.out] at her);subst her;have HB:=hI (((Below.refl w.heap.size w).alloc nL _).trans (hb.mono (by simp)));clear hL hb)
  go_ret
  exact ⟨by simp[HM.out],HB.out⟩
end
section
open Go.RowKit
theorem zHx {s:RS} {most n:Int} {t:RS} (h:vE s most=(n,t)) (ht:t.2=0):s.2=0/\∃N:Nat,n=(N:Int)/\s.1=qg N++t.1/\(N:Int)<=most:=by
 obtain ⟨l,er⟩:=s
 unfold vE at h
 by_cases he:er=0
 . rw[if_neg (by simpa using he)] at h
   cases hr:zBu l most with
   | none=>rw[hr] at h;cases h;exact absurd ht (by simp)
   | some x =>
    obtain ⟨a,k⟩:=x
    obtain ⟨_,_,_,h1,h2,_⟩:=zCk l most a k hr
    rw[hr] at h
    cases h
    exact ⟨he,a,rfl,by rw[<- h1,List.take_append_drop],h2⟩
 . rw[if_pos (by simpa using he)] at h
   cases h
   exact absurd ht he
theorem zOx {s:RS} {most:Int} {L:List UInt8} {t:RS} (h:qb s most=(L,t)) (ht:t.2=0):s.2=0/\s.1=qg L.length++L++t.1/\(L.length:Int)<=most:=by
 obtain ⟨l,er⟩:=s
 unfold qb at h
 by_cases he:er=0
 . rw[if_neg (by simpa using he)] at h
   cases hr:zBu l most with
   | none=>rw[hr] at h;cases h;exact absurd ht (by simp)
   | some x =>
    obtain ⟨a,k⟩:=x
    obtain ⟨_,_,_,h1,h2,_⟩:=zCk l most a k hr
    rw[hr] at h
    simp only at h
    split at h
    . cases h;exact absurd ht (by simp)
    . rename_i hlk
      cases h
      have hl:((l.drop k).take a).length=a:=by simp;omega
      refine ⟨he,?_,by rw[hl];exact h2⟩
      rw[hl,<- h1,List.append_assoc]
      simp only
      rw[show l.drop (k+a)=(l.drop k).drop a by rw[List.drop_drop],List.take_append_drop,List.take_append_drop]
 . rw[if_pos (by simpa using he)] at h
   cases h
   exact absurd ht he
theorem zTr {l d:List UInt8} {p s:Int} {r1 r2 r3:RS} (h1:vE (l,0) 60=(p,r1)) (h2:vE r1 1099511627776=(s,r2)) (h3:qb r2 2000=(d,r3)) (he:r3.2=0) :
 ∃P S:Nat,p=(P:Int)/\s=(S:Int)/\l=qg P++qg S++qg d.length++d++r3.1/\P<=60/\S<=1099511627776/\d.length<=2000:=by
 obtain ⟨e2,x3,y3⟩:=zOx h3 he
 obtain ⟨e1,S,rfl,x2,y2⟩:=zHx h2 e2
 obtain ⟨_,P,rfl,x1,y1⟩:=zHx h1 e1
 refine ⟨P,S,rfl,rfl,?_,by omega,by omega,by omega⟩
 simp only at x1
 rw[x1,x2,x3]
 simp only[List.append_assoc]
theorem zBt (P S:Nat) (d t:List UInt8) (hP:P<=60) (hS:S<=1099511627776) (hd:d.length<=2000) :
 vE (qg P++qg S++qg d.length++d++t,0) 60=((P:Int),(qg S++(qg d.length++d++t),0))/\vE (qg S++(qg d.length++d++t),0) 1099511627776=((S:Int),(qg d.length++d++t,0))/\qb (qg d.length++d++t,0) 2000=(d,(t,0)):=by
 refine ⟨?_,?_,?_⟩
 . have:=zFt P (qg S++(qg d.length++d++t)) 60 (by omega) (by omega)
   rw[<- this]
   simp only[List.append_assoc]
 . exact zFt S _ _ (by omega) (by omega)
 . exact zJe d t 2000 (by omega) (by omega)
def zKp (l:List UInt8):Prop:=∀(p s:Int) (d:List UInt8),vg p s d->l≠qo p.toNat s.toNat d
theorem no_sheet {l d:List UInt8} {p s:Int} {r1 r2 r3:RS} (h1:vE (l,0) 60=(p,r1)) (h2:vE r1 1099511627776=(s,r2)) (h3:qb r2 2000=(d,r3)) (hn:¬(r3.1 = [90]/\r3.2=0/\vg p s d)):zKp l:=by
 intro p' s' d' hM hl
 apply hn
 obtain ⟨⟨a1,a2⟩,⟨b1,b2⟩,c1,_⟩:=id hM
 obtain ⟨x1,x2,x3⟩:=zBt p'.toNat s'.toNat d' [90] (by omega) (by omega) c1
 subst hl
 unfold qo at h1
 rw[x1] at h1
 cases h1
 rw[x2] at h2
 cases h2
 rw[x3] at h3
 cases h3
 rw[Int.toNat_of_nonneg a1,Int.toNat_of_nonneg (by omega)]
 exact ⟨rfl,rfl,hM⟩
theorem zMd {p s p' s':Int} {d d':List UInt8} (h:vg p s d) (h':vg p' s' d') (e:qo p.toNat s.toNat d=qo p'.toNat s'.toNat d'):p=p'/\s=s'/\d=d':=by
 obtain ⟨⟨a1,a2⟩,⟨b1,b2⟩,c1,_⟩:=id h
 obtain ⟨⟨a1',a2'⟩,⟨b1',b2'⟩,c1',_⟩:=id h'
 obtain ⟨x1,x2,x3⟩:=zBt p.toNat s.toNat d [90] (by omega) (by omega) c1
 obtain ⟨y1,y2,y3⟩:=zBt p'.toNat s'.toNat d' [90] (by omega) (by omega) c1'
 unfold qo at e
 rw[e,y1] at x1
 injection x1 with e1 e2
 rw[<- e2,y2] at x2
 injection x2 with e3 e4
 rw[<- e4,y3] at x3
 injection x3 with e5 e6
 exact ⟨by omega,by omega,e5.symm⟩
def yBd (l:List UInt8) (w:World) (e:Ending) (w':World):Prop :=
 Below w.heap.size w w'/\((∃(p s:Int) (A:Option Addr) (c:Nat) (d:List UInt8),Hid (l=qo p.toNat s.toNat d)/\Hid (vg p s d)/\RB w' w'.heap.size A d/\e=.returned (.tuple #[.agg #[.int .i64 p,.int .i64 s,.slice A d.length c],.int .i64 0]))
  \/ (Hid (zKp l)/\e=.returned (.tuple #[.agg #[.int .i64 0,.int .i64 0,.slice none 0 0],.int .i64 5])))
theorem last_is {l d:List UInt8} {P S:Nat} {x:UInt8} (h:l=qg P++qg S++qg d.length++d++[x]):1<=l.length/\∀hk,l[l.length - 1]'hk=x:=by
 subst h
 refine ⟨by simp;omega,λhk=>?_⟩
 rw[List.getElem_append_right (by simp;omega)]
 simp
theorem yo {w:World} {q:Nat} {x y z:Value} {t:TypeId} (h:w.heap[q]? = some (.cells #[x,y,z] t (0,0))):(loadVar 47 ⟨q,0,none⟩).run Tryz.prog w=.ok (.agg #[x,y,z]) w :=
 run_loadVar_row w q _ _ _ _ _ h Tryz.underlying47 rfl (by kernel_rfl)
theorem vc {fn:Func} {p u:Tmp} {ty:TypeId} (h:fn.results = #[.cell p ty,.tmp u]) (tmps:Array Value) (w:World) (g:Nat) (v x:Value)
 (hp:tmps.getD p undef=.pointer (some ⟨g,0,none⟩)) (hu:tmps.getD u undef=x) (hl:(loadVar ty ⟨g,0,none⟩).run Tryz.prog w=.ok v w) :
 (results fn tmps).run Tryz.prog w=.ok (.tuple #[v,x]) w:=by
 rw[results_cell_tmp h,hp,hu]
 simp[asAddr,hl,Result.andThen]
theorem yk {w:World} {q:Nat} {a b c x y z:Value} {t:TypeId} (h:w.heap[q]? = some (.cells #[a,b,c] t (0,0))):(((w.setCell ⟨q,0,none⟩ x).setCell ⟨q,1,none⟩ y).setCell ⟨q,2,none⟩ z).heap[q]? = some (.cells #[x,y,z] t (0,0)):=by
 obtain ⟨hlt,he⟩:=Array.getElem?_eq_some_iff.1 h
 simp[World.setCell,Array.getElem?_modify,h]
theorem zQh {w:World} {q:Nat} {cs:Array Value} {t:TypeId} (h:w.heap[q]? = some (.cells cs t (0,0))) (k:Nat):w.frozen? ⟨q,k,none⟩=false:=by
 simp[World.frozen?,h]
theorem zPo (B:Nat) (A:Option Addr) (c:Nat) (l:List UInt8) (w:World) (h:RB w B A l) (hB:B<=w.heap.size) (hl:l.length<=70368744177664) :
 Calls Tryz.prog 60 #[.slice A l.length c] w (yBd l w):=by
 obtain ⟨p,l1,er1,e1⟩:∃p l1 er1,vE (l,0) 60=(p,(l1,er1)):=⟨_,_,_,rfl⟩
 obtain ⟨s,l2,er2,e2⟩:∃s l2 er2,vE (l1,er1) 1099511627776=(s,(l2,er2)):=⟨_,_,_,rfl⟩
 obtain ⟨d,l3,er3,e3⟩:∃d l3 er3,qb (l2,er2) 2000=(d,(l3,er3)):=⟨_,_,_,rfl⟩
 have E1:=hI e1
 have E2:=hI e2
 have E3:=hI e3
 have hno:=hI (λhn=>no_sheet (l:=l) (d:=d) (p:=p) (s:=s) e1 e2 e3 hn)
 have hba:=hI (λhe=>zTr (l:=l) (d:=d) (p:=p) (s:=s) e1 e2 e3 he)
 clear e1 e2 e3
 have h0:=hI (h.alloc hB (.cells #[.int .i64 0,.int .i64 0,.slice none 0 0] 47))
 have hal:=hI (heap_alloc_new w (.cells #[.int .i64 0,.int .i64 0,.slice none 0 0] 47))
 go_enter Tryz.func60,Tryz.ntmps60
 go_wp2_with (first
  | (go_at_call 94;(with_reducible refine (new_any B A c l _ h0.out (by simp;omega) hl).mono ?_);rintro e w1 ⟨q,B1,rfl,hq,hrd,hB1,hb1⟩;have HB1:=hI (((Below.refl w.heap.size w).alloc nL _).trans (hb1.mono (by simp)));have HR1:=hI hrd;have h1:=hI (h0.out.below hb1 (by simp;omega));have A1:=hI ((hb1.block w.heap.size (by simp)).trans hal.out);have hq1:w.heap.size<q:=(by simp at hq;omega);have hq2:B<=w1.heap.size:=(by have:=hb1.size;simp at this;omega);clear hrd hb1 hq hB1)
  | (go_at_call 96;(with_reducible refine (text_any q B1 l2 er2 2000 _ HR3.out).mono ?_);rintro e w4 ⟨A4,c4,L4,rfl,hL4,hr4,hn4,hrd4,ht4⟩;rw[E3.out] at hL4 hrd4;have HL4:=hI hL4.out;have HR4:=hI hrd4;have HS4:=hI hr4;have HN4:=hI hn4;have hs4:=ht4.size;have HB4:=hI (HB3.out.trans (ht4.below (by omega) HB3.out.size));have A4':=hI ((ht4.block w.heap.size (by have:=qD A3.out;omega) (by omega)).trans A3.out);have h4:=hI (h3.out.below (ht4.below (B:=B) (by omega) (by omega)) nL);clear hL4 hrd4 ht4 hr4 hn4)
  | (go_at_call 95;(with_reducible refine (zHw q B1 l1 er1 1099511627776 _ HR2.out).mono ?_);rintro e w3 ⟨rfl,hrd3,ht3⟩;rw[E2.out] at hrd3 ⊢;have HR3:=hI hrd3;have hs3:=ht3.size;have HB3:=hI (HB2.out.trans (ht3.below (by omega) HB2.out.size));have A3:=hI ((ht3.block w.heap.size (by have:=qD A2.out;omega) (by omega)).trans A2.out);have h3:=hI (h2.out.below (ht3.below (B:=B) (by omega) (by omega)) nL);clear hrd3 ht3)
  | (go_at_call 95;(with_reducible refine (zHw q B1 l 0 60 _ HR1.out).mono ?_);rintro e w2 ⟨rfl,hrd2,ht2⟩;rw[E1.out] at hrd2 ⊢;have HR2:=hI hrd2;have hs2:=ht2.size;have HB2:=hI (HB1.out.trans (ht2.below (by omega) HB1.out.size));have A2:=hI ((ht2.block w.heap.size (by have:=qD A1.out;omega) (by omega)).trans A1.out);have h2:=hI (h1.out.below (ht2.below (B:=B) (by omega) (by omega)) nL);clear hrd2 ht2)
  | fail)
 obtain ⟨f0,f1,f2⟩:=zCy A4'.out
 have fz:=zQh A4'.out
 have fz0:=fz 0
 have fz1:=fz 1
 have fz2:=fz 2
 clear fz
 have HE:∀W,Calls Tryz.prog 97 #[.pointer (some ⟨q,0,none⟩)] w4 W=Calls Tryz.prog 97 #[.pointer (some ⟨q,0,none⟩)] w4 W:=λ_=>rfl
 clear HE
 by_cases he:er3=0
 . subst he
   obtain ⟨P,S,rfl,rfl,hlq,hP,hS,hd⟩:=hba.out rfl
   by_cases hl3:l3.length=1
   . obtain ⟨x,rfl⟩:∃x,l3 = [x]:=List.length_eq_one_iff.1 hl3
     obtain ⟨hl1,hlast⟩:=last_is hlq
     have Hlq:=hI hlq
     obtain ⟨ad,rfl,hadb,hcell⟩:=h4.out (by omega)
     obtain ⟨m,hm⟩:∃m:Nat,(l.length:Int) - 1=(m:Int):=⟨l.length - 1,by omega⟩
     have hml:m<l.length:=by omega
     have hc:=hcell m hml
     rw[show l[m]=x from (by have:=hlast (by omega);rw[<- this];congr 1;omega)] at hc
     clear hcell hlast hlq hl3 hba
     by_cases hx:x=90
     . subst hx
       rw[show ub 90=Value.int .u8 90 from rfl] at hc
       by_cases hM:vg (P:Int) (S:Int) d
       . have HM:=hI hM
         clear hM hno
         obtain rfl:=HL4.out
         go_wp2_with (first
          | (go_at_call 97;refine (vv q B1 _ _ _ HR4.out).mono ?_;rintro e w' ⟨rfl,rfl⟩)
          | (go_at_call 98;refine (zCs q B1 _ _ _ HR4.out).mono ?_;rintro e w' ⟨rfl,rfl⟩)
          | fail)
         refine (zYr w4.heap.size _ _ _ _ _ _ (HS4.out.alloc nL _) (by simp)).mono ?_
         rintro e w5 ⟨rfl,hb5⟩
         rw[decide_eq_true HM.out]
         have HB5:=hI ((HB4.out.alloc HB4.out.size _).trans (hb5.mono (by have:=HB4.out.size;simp;omega)))
         have HS5:=hI ((HS4.out.alloc nL _).below hb5 (by simp))
         have s5:=hb5.size
         have A5:=(hb5.block w.heap.size (by have:=qD A4'.out;simp;omega)).trans ((Below.heap_alloc w4 _ _ (qD A4'.out)).trans A4'.out)
         have D5:=(hb5.block w4.heap.size (by simp)).trans (heap_alloc_new w4 _)
         have fz5:=zQh A5
         have f50:=fz5 0
         have f51:=fz5 1
         have f52:=fz5 2
         obtain ⟨g0,g1,g2⟩:=zCy D5
         obtain ⟨g3,g4,g5⟩:=zCy A5
         have A5H:=hI A5
         clear A5 D5 fz5 hb5
         go_wp2
         refine bodyPost_ret (vc rfl _ _ w.heap.size _ _ rfl rfl (yo (yk A5H.out))) rfl ?_
         have hfar:∀a',A4=some a'->0<L4.length->a'.block≠w.heap.size:=λa' e _=>(by have:=HN4.out a' e;have:=qD A3.out;omega)
         have hsz:w4.heap.size<=w5.heap.size:=by simp at s5;omega
         refine ⟨((HB5.out.setCell nL _).setCell nL _).setCell nL _,.inl ⟨P,S,A4,c4,L4,?_,HM,?_,rfl⟩⟩
         . show l=_
           rw[Hlq.out];rfl
         . exact (((HS5.out.setFar hfar _).setFar hfar _).setFar hfar _).mono (by simp;omega)
       . have HM:=hI hM
         have HNO:=hI (hno.out λh=>hM h.2.2)
         clear hM hno
         obtain rfl:=HL4.out
         go_wp2_with (first
          | (go_at_call 97;refine (vv q B1 _ _ _ HR4.out).mono ?_;rintro e w' ⟨rfl,rfl⟩)
          | (go_at_call 98;refine (zCs q B1 _ _ _ HR4.out).mono ?_;rintro e w' ⟨rfl,rfl⟩)
          | fail)
         refine (zYr w4.heap.size _ _ _ _ _ _ (HS4.out.alloc nL _) (by simp)).mono ?_
         rintro e w5 ⟨rfl,hb5⟩
         rw[decide_eq_false HM.out]
         have HB5:=hI ((HB4.out.alloc HB4.out.size _).trans (hb5.mono (by have:=HB4.out.size;simp;omega)))
         have A5:=(hb5.block w.heap.size (by have:=qD A4'.out;simp;omega)).trans ((Below.heap_alloc w4 _ _ (qD A4'.out)).trans A4'.out)
         have fz5:=zQh A5
         have f50:=fz5 0
         have f51:=fz5 1
         have f52:=fz5 2
         obtain ⟨g3,g4,g5⟩:=zCy A5
         have A5H:=hI A5
         clear A5 fz5 hb5
         go_wp2
         refine bodyPost_ret (vc rfl _ _ w.heap.size _ _ rfl rfl (yo (yk A5H.out))) rfl ?_
         exact ⟨((HB5.out.setCell nL _).setCell nL _).setCell nL _,.inr ⟨HNO,rfl⟩⟩
     . have hc':∃z:Int,ub x=Value.int .u8 z/\(z==90)=false:=⟨x.toNat,rfl,by
        have:x.toNat≠90:=λe=>hx (UInt8.toNat.inj e)
        simp;omega⟩
       obtain ⟨z,hz1,hz2⟩:=hc'
       rw[hz1] at hc
       have HNO:=hI (hno.out λh=>hx (by simpa using h.1))
       clear hno hz1
       go_wp2_with (first
        | (go_at_call 97;refine (vv q B1 _ _ _ HR4.out).mono ?_;rintro e w' ⟨rfl,rfl⟩)
        | (go_at_call 98;refine (zCs q B1 _ _ _ HR4.out).mono ?_;rintro e w' ⟨rfl,rfl⟩)
        | fail)
       refine bodyPost_ret (vc rfl _ _ w.heap.size _ _ rfl rfl (yo (yk A4'.out))) rfl ?_
       exact ⟨((HB4.out.setCell nL _).setCell nL _).setCell nL _,.inr ⟨HNO,rfl⟩⟩
   . have HNO:=hI (hno.out λh=>hl3 (by rw[h.1];rfl))
     have hl3':((l3.length:Int)==1)=false:=by simp;omega
     clear hno hba
     go_wp2_with (first
      | (go_at_call 97;refine (vv q B1 _ _ _ HR4.out).mono ?_;rintro e w' ⟨rfl,rfl⟩)
      | (go_at_call 98;refine (zCs q B1 _ _ _ HR4.out).mono ?_;rintro e w' ⟨rfl,rfl⟩)
      | fail)
     refine bodyPost_ret (vc rfl _ _ w.heap.size _ _ rfl rfl (yo (yk A4'.out))) rfl ?_
     exact ⟨((HB4.out.setCell nL _).setCell nL _).setCell nL _,.inr ⟨HNO,rfl⟩⟩
 . have HNO:=hI (hno.out λh=>he h.2.1)
   have he':(er3==0)=false:=by simpa using he
   clear hno hba
   go_wp2_with (first
    | (go_at_call 97;refine (vv q B1 _ _ _ HR4.out).mono ?_;rintro e w' ⟨rfl,rfl⟩)
    | fail)
   refine bodyPost_ret (vc rfl _ _ w.heap.size _ _ rfl rfl (yo (yk A4'.out))) rfl ?_
   exact ⟨((HB4.out.setCell nL _).setCell nL _).setCell nL _,.inr ⟨HNO,rfl⟩⟩
end
end Go.Proofs.YtinkkmlbhkfmnaaGreat
