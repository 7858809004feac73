/- A part of what the last text proves: PoJ1, PoJ2, PoJ3, PoJ4, PoJ5, PoJ6. -/
import Derived.Test.YtinkkmlbhkfmnaaGreatQPh
import Derived.Lib.SlBytesConst
set_option maxRecDepth 100000
set_option maxHeartbeats 8000000
namespace Go.Proofs.YtinkkmlbhkfmnaaGreat
section
open Go.RowKit
def zPr (S:LS) (B P Sp K U bad seq:Int):PS := { S:=S,B:=B,P:=P,Sp:=Sp,K:=K,U:=U,bad:=bad,L:=[],F:=[],seq:=seq,op := -1,down:=false }
section
variable {w w':World} {p c:Nat} {x:Nat->Prop} {S:LS}
theorem q_open (B P Sp K U bad seq:Int) (h:Held w c x S) (h1:1<=S.bl.length) (h2:S.bl.length<=1000) (hbd:(Lit.int .i64 bad).wf=true) (hf:yZ B P Sp K U bad) (hB:(S.bl.length:Int)=B) (hP:((S.bl[0]'h1).pages.length:Int)=P) (hb:bad<=(qx S.bl:Int)) (hs:0<=seq/\seq<=1099511627776) (hdk:S.dark=false):Calls Tryz.prog 27 #[.pointer (some ⟨c,0,none⟩),.agg #[.int .i64 B,.int .i64 P,.int .i64 Sp,.int .i64 K,.int .i64 U],.int .i64 bad,.slice none 0 0,.int .i64 seq] w λe w'=>∃p,e=.returned (.tuple #[.pointer (some ⟨p,0,none⟩),.int .i64 0])/\Pool w' p c x (zPr S B P Sp K U bad seq)/\Safe x w w':=by
 refine (q_open0 B P Sp K U bad seq h h1 h2 hbd hf hB hP hb hs hdk).mono ?_
 rintro e w' ⟨p,l,f,w5,w6,rfl,b5,t5,b6,t6,b7,hp,hc⟩
 exact ⟨p,rfl,pool_new h b5 t5 b6 t6 b7 hp (zPr S B P Sp K U bad seq) rfl rfl rfl hc⟩
theorem ok_new {B P:Nat} {Sp K U:Int} (l:List Int) (hm:zEm B P Sp K U) (bad seq:Int) (hb:0<=bad/\bad<=64) (hs:0<=seq/\seq<=1099511627776):Ok (zPr (qZ B P l) B P Sp K U bad seq):=by
 have hl:(qZ B P l).bl.length=B:=by simp[qZ,qj,zC]
 have key:∀b∈(qZ B P l).bl,b.count=0/\b.next=0:=by
  have h1:∀(l:List Int) (bl:List Bk),(∀b∈bl,b.count=0/\b.next=0)->∀b∈zGv bl l,b.count=0/\b.next=0:=by
   intro l
   induction l with
   | nil=>exact λbl h b hb=>h b hb
   | cons a l ih =>
    intro bl h
    refine ih (vV bl a) λb hb=>?_
    unfold vV at hb
    split at hb
    . next hr =>
      rcases List.mem_or_eq_of_mem_set hb with k | rfl
      . exact h b k
      . have:bl.getD a.toNat noB∈bl:=by
         rw[List.getD_eq_getElem?_getD,List.getElem?_eq_getElem (by omega)]
         exact List.getElem_mem _
        have h9:=h _ this
        exact h9
    . exact h b hb
  refine h1 l _ λb hb=>?_
  have:b=zCp P:=List.eq_of_mem_replicate hb
  rw[this];exact ⟨rfl,rfl⟩
 refine ⟨hm,by rw[show (zPr (qZ B P l) B P Sp K U bad seq).S=qZ B P l from rfl,hl];rfl,rfl,hb,⟨Int.le_refl _,?_⟩,hs,⟨Nat.zero_le _,Nat.zero_le _⟩,λb h=>by rw[(key b h).1];rfl,λb h=>by rw[(key b h).2];exact ⟨Int.le_refl _,by have:=hm.2.1;show (0:Int)<=P;omega⟩⟩
 have:=hm.1
 show (-1:Int)<B
 omega
end
def aQ0:PS:=zPr (qZ 6 4 []) 6 4 1 4 3 0 0
theorem sh1:qo 3 1 [120] = [3,1,1,120,90]:=by simp[qo,qg,vx,qX]
theorem sh2:qo 0 2 [114,111,111,116] = [0,2,4,114,111,111,116,90]:=by simp[qo,qg,vx,qX]
theorem zOz:vg 3 1 [120]:=⟨by omega,by omega,by simp,by rw[show (Int.toNat 3)=3 from rfl,show (Int.toNat 1)=1 from rfl,sh1];simp⟩
theorem zWn:vg 0 2 [114,111,111,116]:=⟨by omega,by omega,by simp,by rw[show (Int.toNat 0)=0 from rfl,show (Int.toNat 2)=2 from rfl,sh2];simp⟩
def gv (o:Option (Int × Fd × PS)) (d:PS):PS:=match o with | some x=>x.2.2 | none=>d
def aG1:PS:=gv (aQ0.give 4 3 [3,1,1,120,90]) aQ0
theorem aGive1:aQ0.give 4 3 [3,1,1,120,90]=some (0,((3,1),(0,0)),aG1):=by kernel_rfl
def aQ1:PS := { aG1 with F:=[((3,1),(0,0))] }
theorem aF1:zD aG1.F (3,1) (0,0) = [((3,1),(0,0))]:=by kernel_rfl
theorem aPut:aQ0.put 4 3 [120]=some (0,(3,1),aQ1):=by
 have e:qo (3:Int).toNat (aQ0.seq+1).toNat [120] = [3,1,1,120,90]:=sh1
 unfold PS.put
 rw[if_neg (by decide),if_neg (by rw[show aQ0.seq+1=1 from rfl];exact λh=>h zOz),if_neg (by decide),e,aGive1]
 dsimp only
 rw[if_pos rfl,aF1,if_pos ⟨⟨rfl,rfl⟩,⟨rfl,rfl⟩,by decide⟩]
 rfl
def aG2:PS:=gv (aQ1.give 4 0 [0,2,4,114,111,111,116,90]) aQ1
theorem aGive2:aQ1.give 4 0 [0,2,4,114,111,111,116,90]=some (0,((0,2),(0,1)),aG2):=by kernel_rfl
def aQ2:PS := { aG2 with L:=[((3,1),(0,0)),((0,2),(0,1))],F:=[] }
theorem aMay:aQ1.may [(3,1)]=true:=by kernel_rfl
theorem aNamed:aG2.named ((0,2),(0,1)) [(3,1)] = [((3,1),(0,0)),((0,2),(0,1))]:=by kernel_rfl
theorem aSeal:aQ1.sealQ 4 [114,111,111,116] [(3,1)]=some (0,aQ2):=by
 have hE:aQ1.sheetE 0 [114,111,111,116]=0:=by unfold PS.sheetE;rw[show aQ1.seq+1=2 from rfl,if_pos zWn]
 have hB:aQ1.sheetB 0 [114,111,111,116] = [0,2,4,114,111,111,116,90]:=by unfold PS.sheetB;rw[show aQ1.seq+1=2 from rfl,if_pos zWn];exact sh2
 unfold PS.sealQ PS.root
 rw[hE,aMay,if_neg (by decide),hB,aGive2]
 dsimp only
 rw[if_pos rfl,aNamed,if_pos ⟨⟨rfl,rfl⟩,⟨rfl,rfl⟩,by decide⟩]
 rfl
theorem aAt:aQ2.at (3,1)=some (0,0):=by kernel_rfl
theorem aRd:rdL aQ2.S 0 0=([3,1,1,120,90],0,{ aQ2.S with rd:=1 }):=by kernel_rfl
theorem aGone:aQ2.gone.down=false:=by kernel_rfl
theorem aTells {er:Int} {d:List UInt8} (h:aQ2.tells (3,1) er d):er=0/\d = [120]:=by
 unfold PS.tells at h
 rw[aAt] at h
 dsimp only at h
 rw[aGone,aRd] at h
 dsimp only at h
 rw[if_neg (by simp),if_neg (by simp)] at h
 rcases h with ⟨h1,pg,sq,h2,h3⟩ | ⟨-,-,h3⟩
 . rw[<- sh1] at h2
   have:=zMd zOz h3 h2
   exact ⟨h1,this.2.2.symm⟩
 . exact absurd sh1.symm (h3 3 1 [120] zOz)
end
section
open Go.RowKit
attribute [local go_sem] Oper.semAt_some
section
theorem rb_at1 {V:World} {q:Nat} (b:UInt8) {t:TypeId} {fr:Nat × Nat} (h:V.heap[q]? = some (.cells #[.int .u8 b.toNat] t fr)):RB V V.heap.size (some ⟨q,0,none⟩) [b]:=λ_=>⟨⟨q,0,none⟩,rfl,(Array.getElem?_eq_some_iff.1 h).1,λj hj=>by
 obtain rfl:j=0:=by simpa using hj
 simp[World.cell?,Addr.add,h,ub]⟩
theorem zXi (w:World) (l:List UInt8) (t:TypeId) (fr:Nat × Nat):RB (w.alloc (.cells (l.map ub).toArray t fr)) (w.heap.size+1) (some ⟨w.heap.size,0,none⟩) l:=λ_=>⟨_,rfl,by simp,λj hj=>by
 have:=World.cell?_alloc_mark w (l.map ub).toArray t fr j
 have e:(⟨w.heap.size,0,none⟩:Addr).add j=⟨w.heap.size,j,none⟩:=by unfold Addr.add;split<;>simp_all
 rw[e,this]
 simp[hj]⟩
theorem zFn {V:World} {q:Nat} (r:P2) {t:TypeId} (h:V.heap[q]? = some (.cells #[.int .i64 r.1,.int .i64 r.2] t (0,0))):RLies V (some ⟨q,0,none⟩) [r]:=λ_=>⟨_,0,rfl,qD h,λj hj=>by
 obtain rfl:j=0:=by simpa using hj
 simp[World.cell?,h]⟩
theorem zDz (a b:P2) (w:World):Sem.run Tryz.prog (binOp BinOp.eql 33 (P2V a) (P2V b)) w=.ok (.bool (decide (a=b))) w:=by
 have e:(a=b)↔(a.1=b.1/\a.2=b.2):=Prod.ext_iff
 by_cases h1:a.1=b.1<;>by_cases h2:a.2=b.2<;>simp[go_sem,e,h1,h2]
theorem aOk0:Ok aQ0:=ok_new (B:=6) (P:=4) [] (by decide) 0 0 (by decide) (by decide)
theorem aOk1:Ok aQ1:=aOk0.put aPut
theorem aOk2:Ok aQ2:=aOk1.sealQ aSeal
theorem aFits:yZ 6 4 1 4 3 0:=of_decide_eq_true (by kernel_rfl)
theorem zAw (w:World):Calls Tryz.prog 10 #[] w λe w'=>e=.returned (.bool true)/\Below w.heap.size w w':=by
 have kc:=λ(w:World) (C:Array Value) (n c:Nat)=>Lib.run_convert_bytes_const (P:=Tryz.prog) w 34 5 C n c Tryz.underlying34 Tryz.underlying5
 have HX0:=hI (heap_alloc_new w (.cells #[.int .i64 6,.int .i64 4,.int .i64 1,.int .i64 4,.int .i64 3] 23))
 have HB0:=hI ((Below.refl w.heap.size w).alloc nL (.cells #[.int .i64 6,.int .i64 4,.int .i64 1,.int .i64 4,.int .i64 3] 23))
 go_enter Tryz.func10,Tryz.ntmps10
 go_wp2_with (first
  | (go_at_call 34;refine (zSi 6 4 none 0 [] (λh=>absurd h (by simp)) (by simp) (by decide) (by decide) (by decide) (by decide)).mono ?_;rintro e w1 ⟨c,rfl,hH,hB⟩;have HH:=hI hH;have HB1:=hI (HB0.out.trans (hB.mono HB0.out.size));have hx1:=(hB.block w.heap.size (by simp)).trans HX0.out;have k0:w1.cell? ⟨w.heap.size,0,none⟩=some (.int .i64 6):=(by simp[World.cell?,hx1]);have k1:w1.cell? ⟨w.heap.size,1,none⟩=some (.int .i64 4):=(by simp[World.cell?,hx1]);have k2:w1.cell? ⟨w.heap.size,2,none⟩=some (.int .i64 1):=(by simp[World.cell?,hx1]);have k3:w1.cell? ⟨w.heap.size,3,none⟩=some (.int .i64 4):=(by simp[World.cell?,hx1]);have k4:w1.cell? ⟨w.heap.size,4,none⟩=some (.int .i64 3):=(by simp[World.cell?,hx1]);clear hH hB hx1)
  | fail)
 have HS0:Hid (∀b,b<w.heap.size+1->b<(w.alloc (.cells #[.int .i64 6,.int .i64 4,.int .i64 1,.int .i64 4,.int .i64 3] 23)).heap.size):=hI λb hb=>by simp;omega
 go_wp2_with (first
  | (go_at_call 27;refine (q_open 6 4 1 4 3 0 0 (HH.out.less HS0.out) (by decide) (by decide) rfl aFits rfl rfl (by decide) (by decide) rfl).mono ?_;rintro e w2 ⟨p,rfl,hP,hS⟩;have HP2:Hid (Pool w2 p c (λb=>b<w.heap.size+1) aQ0):=hI hP;have HS2:=hI hS;clear hP hS)
  | fail)
 obtain ⟨W3,hW3⟩:∃W3,W3=w2.alloc (.cells #[.int .u8 120] 5 (1,2)):=⟨_,rfl⟩
 have hx3:W3.heap[w2.heap.size]? = some (.cells #[.int .u8 120] 5 (1,2)):=by rw[hW3];exact Array.getElem?_push_size
 have HB3:Hid (Below w2.heap.size w2 W3):=hI (by rw[hW3];exact bR.alloc nL _)
 have HR3:Hid (RB W3 W3.heap.size (some ⟨w2.heap.size,0,none⟩) [120]):=hI (rb_at1 120 hx3)
 have HP3:=hI (HP2.out.below HB3.out)
 rw[<- hW3]
 clear hW3 hx3
 refine (q_put 4 3 (some ⟨w2.heap.size,0,none⟩) 1 [120] HP3.out aOk0 HR3.out aPut).mono ?_
 rintro e w4 ⟨rfl,hP4,hS4⟩
 have HP4:=hI hP4
 have HS4:Hid (Safe (λb=>b<w.heap.size+1) w2 w4):=hI ((qC HB3.out).then hS4)
 obtain ⟨W5,hW5⟩:∃W5,W5=((w4.alloc (.cells #[.int .i64 3,.int .i64 1] 33)).alloc (.cells #[.int .u8 114,.int .u8 111,.int .u8 111,.int .u8 116] 5 (4,5))):=⟨_,rfl⟩
 obtain ⟨W6,hW6⟩:∃W6,W6=W5.alloc (.cells #[.int .i64 3,.int .i64 1] 33):=⟨_,rfl⟩
 have hz5:W5.heap.size=w4.heap.size+1+1:=by rw[hW5];simp
 have hx5:W5.heap[w4.heap.size]? = some (.cells #[.int .i64 3,.int .i64 1] 33 (0,0)):=by rw[hW5];exact (qF _ _ (by simp)).trans (heap_alloc_new w4 _)
 have hy5:RB W5 W5.heap.size (some ⟨w4.heap.size+1,0,none⟩) [114,111,111,116]:=by
  have h:=zXi (w4.alloc (.cells #[.int .i64 3,.int .i64 1] 33)) [114,111,111,116] 5 (4,5)
  rw[show (w4.alloc (.cells #[.int .i64 3,.int .i64 1] 33)).heap.size=w4.heap.size+1 by simp] at h
  rw[hz5,hW5]
  exact h
 have hb45:Below w4.heap.size w4 W5:=by rw[hW5];exact (bR.alloc nL _).alloc (by simp) _
 have hb56:Below W5.heap.size W5 W6:=by rw[hW6];exact bR.alloc nL _
 have hx6:W6.heap[W5.heap.size]? = some (.cells #[.int .i64 3,.int .i64 1] 33 (0,0)):=by rw[hW6];exact heap_alloc_new _ _
 have HB46:Hid (Below w4.heap.size w4 W6):=hI (hb45.trans (hb56.mono hb45.size))
 have HR6:Hid (RB W6 W6.heap.size (some ⟨w4.heap.size+1,0,none⟩) [114,111,111,116]):=hI ((hy5.below hb56 nL).mono hb56.size)
 have HL6:Hid (RLies W6 (some ⟨W5.heap.size,0,none⟩) [(3,1)]):=hI (zFn (3,1) hx6)
 have HX6:Hid (W6.heap[w4.heap.size]? = some (.cells #[.int .i64 3,.int .i64 1] 33 (0,0))):=hI ((hb56.block _ (by omega)).trans hx5)
 have HP6:=hI (HP4.out.more HB46.out)
 have hw6:W5.heap.size<W6.heap.size:=qD hx6
 have kc2:=kc (w4.alloc (.cells #[.int .i64 3,.int .i64 1] 33)) #[.int .u8 114,.int .u8 111,.int .u8 111,.int .u8 116] 4 4
 simp only[World.size_alloc] at kc2
 clear kc
 go_wp2_with fail
 rw[<- hW5,<- hW6]
 rw[hz5] at HL6 hw6
 clear hW5 hW6 kc2 hx5 hy5 hb45 hb56 hx6
 refine (q_seal 4 (some ⟨w4.heap.size+1,0,none⟩) 4 [114,111,111,116] (some ⟨w4.heap.size+1+1,0,none⟩) 1 [(3,1)] HP6.out aOk1 HR6.out HL6.out (λ_ ad e=>by cases e;exact .inr ⟨by show w4.heap.size<=w4.heap.size+1+1;omega,hw6⟩) (by simp) (by intro r hr;obtain rfl:r=(3,1):=(by simpa using hr);exact ⟨rfl,rfl⟩) aSeal).mono ?_
 rintro e w7 ⟨rfl,hP7,hS7⟩
 have HP7:=hI hP7
 have HS7:=hI hS7
 have hx7:=(hS7.block (by omega) (.inr ⟨Nat.le_refl _,by omega⟩)).trans HX6.out
 have hl7:=qD hx7
 have HX7:=hI hx7
 obtain ⟨k0,k1,-,-⟩:=qG hx7
 clear hP7 hS7 hx7
 have HQR:Hid (aQ2.readQ (3,1) = { aQ2 with S := { aQ2.S with rd:=1 } }):=hI (by
  unfold PS.readQ
  rw[aAt]
  dsimp only
  rw[aGone,aRd,if_neg (by simp)]
  rfl)
 go_wp2_with (first
  | (go_at_call 26;refine (zXj (3,1) HP7.out aOk2 ⟨rfl,rfl⟩).mono ?_;rintro e w8 ⟨A8,m8,d8,er8,rfl,hr8,ht8,hP8,hS8⟩;obtain ⟨rfl,rfl⟩:=aTells ht8.out;have HR8:=hI hr8;have HP8:=hI hP8;have HS8:=hI hS8;have hx8:=(hS8.block hl7 (.inr ⟨Nat.le_refl _,by omega⟩)).trans HX7.out;obtain ⟨k0,k1,-,-⟩:=qG hx8;have ks:(convert 34 9 (.slice A8 1 m8)).run Tryz.prog w8=.ok (.string ⟨#[120]⟩) w8:=zPa hr8 m8;clear hr8 ht8 hP8 hS8 hx8)
  | fail)
 have ok8:=aOk2.readQ (3,1)
 have hp8:=HP8.out
 have hl8:(zKq (aQ2.readQ (3,1)).L).length=2:=by rw[HQR.out];kernel_rfl
 have hs8:(aQ2.readQ (3,1)).seq=2:=by rw[HQR.out];kernel_rfl
 obtain ⟨lp,fp,hpt⟩:=hp8.parts
 have HPT:=hI hpt
 have HOK:=hI ok8
 have HL8:=hI hl8
 have HQ8:=hI hs8
 clear hp8 hpt ok8 hl8 hs8 HQR
 go_wp2_with (first
  | (go_at_call 29;refine (q_live HPT.out HOK.out).mono ?_;rintro e w9 ⟨A9,m9,rfl,hv9⟩;rw[HL8.out];have HV9:=hI hv9;clear hv9)
  | (go_at_call 31;refine (q_seq (HPT.out.below HV9.out.2.2.2)).mono ?_;rintro e w10 ⟨rfl,hw⟩;obtain rfl:=hw;rw[HQ8.out])
  | fail)
 go_ret
 refine ⟨rfl,?_⟩
 have st:∀(x:Nat->Prop) (V V':World),(∀b,b<w.heap.size->x b)->Below w.heap.size w V->Safe x V V'->Below w.heap.size w V':=λx V V' hx hv hs=>⟨hs.os.trans hv.os,hs.tape.trans hv.tape,hs.output.trans hv.output,Nat.le_trans hv.size hs.size,λb hb=>(hs.block (Nat.lt_of_lt_of_le hb hv.size) (hx b hb)).trans (hv.block b hb)⟩
 have a1:=HB1.out
 have a2:=st _ _ _ (λb hb=>by omega) a1 HS2.out
 have a4:=st _ _ _ (λb hb=>by omega) a2 HS4.out
 have a6:=a4.trans (HB46.out.mono a4.size)
 have a7:=st _ _ _ (λb hb=>.inl (by omega)) a6 HS7.out
 have a8:=st _ _ _ (λb hb=>.inl (by omega)) a7 HS8.out
 exact a8.trans (HV9.out.2.2.2.mono a8.size)
end
end
section
open Go.RowKit
section
variable {w w':World} {p c:Nat} {x:Nat->Prop} {S:LS}
theorem cfg5 {V:World} {q:Nat} {a b d e f:Value} {t:TypeId} (h:V.heap[q]? = some (.cells #[a,b,d,e,f] t (0,0))):V.cell? ⟨q,0,none⟩=some a/\V.cell? ⟨q,1,none⟩=some b/\V.cell? ⟨q,2,none⟩=some d/\V.cell? ⟨q,3,none⟩=some e/\V.cell? ⟨q,4,none⟩=some f:=by
 simp[World.cell?,h]
end
end
section
open Go.RowKit
section
variable {w w':World} {p c:Nat} {x:Nat->Prop} {S:LS}
end
end
section
open Go.RowKit
structure Cal where
 dO:Int
 n:Int
 keep:Int
 page:Int
 A:Option Addr
 c:Nat
 d:List UInt8
 A2:Option Addr
 c2:Nat
 pk:List Bool
instance:Inhabited Cal:=⟨⟨0,0,0,0,none,0,[],none,0,[]⟩⟩
structure CalC (W:World) (b o:Nat) (d:Cal):Prop where
 k0:W.cell? ⟨b,o,none⟩=some (.int .i64 d.dO)
 k1:W.cell? ⟨b,o+1,none⟩=some (.int .i64 d.n)
 k2:W.cell? ⟨b,o+2,none⟩=some (.int .i64 d.keep)
 k3:W.cell? ⟨b,o+3,none⟩=some (.int .i64 d.page)
 k4:W.cell? ⟨b,o+4,none⟩=some (.slice d.A d.d.length d.c)
 k5:W.cell? ⟨b,o+5,none⟩=some (.slice d.A2 d.pk.length d.c2)
def CalAt (W:World) (A:Option Addr) (i:Nat) (d:Cal):Prop:=∃b o,A=some ⟨b,o,none⟩/\b<W.heap.size/\CalC W b (o+i * 6) d
theorem CalC.below {w w':World} {b o:Nat} {d:Cal} (h:CalC w b o d) (hlt:b<w.heap.size) (hb:Below w.heap.size w w'):CalC w' b o d :=
 ⟨(hb.cell (p:=⟨b,o,none⟩) hlt).trans h.k0,(hb.cell (p:=⟨b,o+1,none⟩) hlt).trans h.k1,(hb.cell (p:=⟨b,o+2,none⟩) hlt).trans h.k2,(hb.cell (p:=⟨b,o+3,none⟩) hlt).trans h.k3,(hb.cell (p:=⟨b,o+4,none⟩) hlt).trans h.k4,(hb.cell (p:=⟨b,o+5,none⟩) hlt).trans h.k5⟩
def CalsLie (W:World) (A:Option Addr) (l:List Cal):Prop:=∀i (h:i<l.length),CalAt W A i l[i]
theorem CalsLie.below {w w':World} {A:Option Addr} {l:List Cal} (h:CalsLie w A l) (hb:Below w.heap.size w w'):CalsLie w' A l:=λi hi=>by
 obtain ⟨b,o,e,hlt,k⟩:=h i hi
 exact ⟨b,o,e,Nat.lt_of_lt_of_le hlt hb.size,k.below hlt hb⟩
def yBf (B P:Int) (l:List Cal):Prop:=B<=24/\P<=8/\l.length<=120/\∀d∈l,d.d.length<=60/\d.pk.length<=80
def yBg (B P:Int) (l:List Cal) (w:World) (e:Ending) (w':World):Prop:=∃k:Int,e=.returned (.int .i64 k)/\(k<=0->yBf B P l)/\Below w.heap.size w w'
theorem zQg (B P Sp K U:Int) (A:Option Addr) (m:Nat) (l:List Cal) (w:World) (h:CalsLie w A l) (hl:l.length<=maxLen):Calls Tryz.prog 24 #[.agg #[.int .i64 B,.int .i64 P,.int .i64 Sp,.int .i64 K,.int .i64 U],.slice A l.length m] w (yBg B P l w):=by
 obtain ⟨W,hW⟩:∃W,w.alloc (.cells #[.int .i64 B,.int .i64 P,.int .i64 Sp,.int .i64 K,.int .i64 U] 23)=W:=⟨_,rfl⟩
 have HBW:Hid (Below w.heap.size w W):=hI (by rw[<- hW];exact bR.alloc nL _)
 have HX:Hid (W.heap[w.heap.size]? = some (.cells #[.int .i64 B,.int .i64 P,.int .i64 Sp,.int .i64 K,.int .i64 U] 23 (0,0))):=hI (by rw[<- hW];exact heap_alloc_new _ _)
 have HL:=hI h
 have hmx:maxLen=9223372036854775807:=rfl
 have hws:=HBW.out.size
 obtain ⟨a0,a1,a2,a3,a4⟩:=cfg5 HX.out
 clear h
 go_enter Tryz.func24,Tryz.ntmps24
 by_cases hB:24<B
 . go_wp2_with fail
   go_ret
   exact ⟨1,rfl,λh=>absurd h (by decide),HBW.out⟩
 . by_cases hP:8<P
   . go_wp2_with fail
     go_ret
     exact ⟨1,rfl,λh=>absurd h (by decide),HBW.out⟩
   . have HBP:=hI (And.intro hB hP)
     go_wp2_with fail
     clear hW
     go_loopw [17] (λv17 wr=>∃j:Nat,j<=l.length/\v17=.int .i64 j/\(0<j->j<=120)/\(∀i,i<j->∃h:i<l.length,l[i].d.length<=60/\l[i].pk.length<=80)/\Below w.heap.size w wr) (λv17 _=>l.length - (intOf v17).toNat)
     case atStart=>exact ⟨0,Nat.zero_le _,rfl,λh=>absurd h (by omega),λi hi=>absurd hi (by omega),HBW.out⟩
     case round =>
      obtain ⟨j,hj,rfl,hj120,hall,hb⟩:=hrel
      have HB:=hI hb
      have HA:=hI hall
      have HJ:=hI hj120
      have hs:=hb.size
      clear hb hall hj120
      by_cases hlt:j<l.length
      . obtain ⟨b,o,rfl,hbl,k⟩:=(HL.out.below HB.out) j hlt
        obtain ⟨d,hd⟩:∃d,l[j]=d:=⟨_,rfl⟩
        rw[hd] at k
        have HD:=hI hd
        obtain ⟨dn,hdn⟩:∃dn,d.d.length=dn:=⟨_,rfl⟩
        obtain ⟨pn,hpn⟩:∃pn,d.pk.length=pn:=⟨_,rfl⟩
        have HDN:=hI hdn
        have HPN:=hI hpn
        obtain ⟨k0,k1,k2,k3,k4,k5⟩:=k
        rw[hdn] at k4
        rw[hpn] at k5
        clear hd hdn hpn
        by_cases h1:120<=j
        . go_wp2_with fail
          go_ret
          exact ⟨(j:Int)+1,by first | rfl | (simp;done) | (congr 2;omega),λh=>absurd h (by omega),HB.out.alloc hs _⟩
        . by_cases h2:60<dn
          . go_wp2_with fail
            go_ret
            exact ⟨(j:Int)+1,by first | rfl | (simp;done) | (congr 2;omega),λh=>absurd h (by omega),HB.out.alloc hs _⟩
          . by_cases h3:80<pn
            . go_wp2_with fail
              go_ret
              exact ⟨(j:Int)+1,by first | rfl | (simp;done) | (congr 2;omega),λh=>absurd h (by omega),HB.out.alloc hs _⟩
            . have H3:=hI (And.intro h1 (And.intro h2 h3))
              go_wp2_with fail
              go_roundw
              case rel =>
               refine ⟨j+1,by omega,by go_num,λ_=>by have:=H3.out.1;omega,λi hi=>?_,HB.out.alloc hs _⟩
               by_cases e:i=j
               . subst e
                 exact ⟨hlt,by rw[HD.out,HDN.out];have:=H3.out.2.1;omega,by rw[HD.out,HPN.out];have:=H3.out.2.2;omega⟩
               . exact HA.out i (by omega)
              case measure=>simp[intOf];omega
      . obtain rfl:j=l.length:=by omega
        go_wp2_with fail
        go_ret
        refine ⟨0,rfl,λ_=>⟨by have:=HBP.out.1;omega,by have:=HBP.out.2;omega,?_,λd hd=>?_⟩,HB.out⟩
        . rcases Nat.eq_zero_or_pos l.length with e | e
          . omega
          . exact HJ.out e
        . obtain ⟨i,hi,e⟩:=List.getElem_of_mem hd
          obtain ⟨h1,h2,h3⟩:=HA.out i hi
          rw[<- e];exact ⟨h2,h3⟩
end
section
open Go.RowKit
attribute [local go_sem] Oper.semAt_some
section
theorem zEk {V:World} {q:Nat} {a b d e f g:Value} {t:TypeId} (h:V.heap[q]? = some (.cells #[a,b,d,e,f,g] t (0,0))):V.cell? ⟨q,0,none⟩=some a/\V.cell? ⟨q,1,none⟩=some b/\V.cell? ⟨q,2,none⟩=some d/\V.cell? ⟨q,3,none⟩=some e/\V.cell? ⟨q,4,none⟩=some f/\V.cell? ⟨q,5,none⟩=some g:=by
 simp[World.cell?,h]
end
end
end Go.Proofs.YtinkkmlbhkfmnaaGreat
