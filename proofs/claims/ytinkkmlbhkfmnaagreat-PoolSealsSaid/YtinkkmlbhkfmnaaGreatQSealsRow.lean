/- A part of what the last text proves: SealsRow. -/
import Derived.Test.YtinkkmlbhkfmnaaGreatRows
import Derived.Test.YtinkkmlbhkfmnaaGreatQPoN3
import Derived.Test.YtinkkmlbhkfmnaaGreatQPoN2
set_option maxRecDepth 100000
set_option maxHeartbeats 8000000
namespace Go.Proofs.YtinkkmlbhkfmnaaGreat.poolSeals
open Go.ChangeShapes Go.WideShapes Go.ChangeAt Go.RowKit Go.ChangeMaps
theorem own:ownKnob Tryz.prog.godebug=none:=by kernel_rfl
theorem laidOut:laidOutB Tryz.prog=true:=by kernel_rfl
theorem lifted (os:Os) (started:os.Started) (H:Type) (enc:TypeId × Value->H) :
 ReturnsInHanded {} Tryz.checked os 8 .any (Rows.poolSealsSpec.pre6 enc Tryz.prog Tryz.f8 Rows.poolSealsRow.domain false) (Rows.poolSealsSpec.post enc Tryz.prog Tryz.f8 false true false false):=by
 refine returnsInHanded_of_change (C:=Tryz.checked) own started (by kernel_rfl) Tryz.func8
  (ChangeSpec.witness6 (enc:=enc) (C:=Tryz.checked) false ⟨#[],#[.agg #[.int .i64 0,.int .i64 0,.int .i64 0,.int .i64 0,.int .i64 0],.slice none 0 0,.int .i64 0,.int .i64 0],[]⟩ 8 (by kernel_rfl) (by kernel_rfl) (by kernel_rfl) (by kernel_rfl)) ?_
 intro W base args ds gs before hval0 hW hcnd _
 have hval:∀(j:Nat) t v,Tryz.f8.params[j]? = some t->args[j]? = some v->Value.okWide Tryz.prog W .any base t v:=hval0
 have hW':=hW
 obtain ⟨p,q,hA0,hV,rfl,hfz,hnd⟩:=hW
 have hA:DataW.TrodAll enc Tryz.prog W 0 (λ_=>true) true Tryz.f8.params.toList args.toList ds p:=hA0
 rw[Tryz.params8] at hA hval
 obtain ⟨v0,vs0,d0,ds0,p0,q0,hargs,rfl,hp0,h0,ta0⟩:=trodAll_cons hA
 obtain ⟨v1,vs1,d1,ds1,p1,q1,rfl,rfl,hp1,h1,ta1⟩:=trodAll_cons ta0
 obtain ⟨v2,vs2,d2,ds2,p2,q2,rfl,rfl,hp2,h2,ta2⟩:=trodAll_cons ta1
 obtain ⟨v3,vs3,d3,ds3,p3,q3,rfl,rfl,hp3,h3,ta3⟩:=trodAll_cons ta2
 obtain ⟨rfl,rfl,hq⟩:=trodAll_nil ta3
 obtain rfl:args = #[v0,v1,v2,v3]:=by cases args;simp_all
 obtain ⟨rfl,rfl⟩:=trodVars_none hV
 clear hA0 hval0
 have hW2:=hW'
 simp only[List.append_nil] at hW2
 have hlt:∀x∈p,x.block<W.heap.size:=λx hx=>by simpa using hW2.lt x hx
 have hlt0:∀x∈p0,x.block<W.heap.size:=λx hx=>hlt x (by rw[hp0];simp[hx])
 have hlt1:∀x∈p1,x.block<W.heap.size:=λx hx=>hlt x (by rw[hp0,hp1];simp[hx])
 have hlt2:∀x∈p2,x.block<W.heap.size:=λx hx=>hlt x (by rw[hp0,hp1,hp2];simp[hx])
 have hlt3:∀x∈p3,x.block<W.heap.size:=λx hx=>hlt x (by rw[hp0,hp1,hp2,hp3];simp[hx])
 have h0k:=h0
 obtain ⟨B0,P0,S0,D0,U0,rfl,u0⟩:=zRo (hval 0 23 v0 rfl rfl) h0
 have h2k:=h2
 obtain ⟨a2,rfl,e2,_,w2⟩:=open_int Tryz.underlying3 (hval 2 3 v2 rfl rfl) h2
 have h3k:=h3
 obtain ⟨a3,rfl,e3,_,w3⟩:=open_int Tryz.underlying3 (hval 3 3 v3 rfl rfl) h3
 have h1k:=h1
 obtain ⟨l1,A1,c1,rfl,r1,k1,n1,z1⟩:=zTw (hval 1 34 v1 rfl rfl) h1
 refine (zWq B0 P0 S0 D0 U0 A1 c1 l1 a2 a3 W r1 z1).mono λe W' ⟨he,hg⟩=>?_
 subst he
 have hback:=(trodAll_cons_mk (Below.trod laidOut (by kernel_rfl) (of_decide_eq_true (by kernel_rfl)) h0k hg hlt0) (trodAll_cons_mk (Below.trod laidOut (by kernel_rfl) (of_decide_eq_true (by kernel_rfl)) h1k hg hlt1) (trodAll_cons_mk (Below.trod laidOut (by kernel_rfl) (of_decide_eq_true (by kernel_rfl)) h2k hg hlt2) (trodAll_cons_mk (Below.trod laidOut (by kernel_rfl) (of_decide_eq_true (by kernel_rfl)) h3k hg hlt3) trodAll_mk0))))
 have hpe:p=p0++(p1++(p2++(p3++[]))):=by rw[hp0,hp1,hp2,hp3,hq]
 rw[<- hpe] at hback
 exact ⟨_,rfl,_,_,_,[],_,[],hW',trodAll_cons_mk (shut_bool Tryz.underlying4 _) trodAll_mk0,hback,rfl,hg.frame _,λh=>by cases h⟩
theorem proved:Rows.PoolSealsSaid :=
 OpenClaim.holds_of_wide 8 Tryz.f8 rfl rfl rfl rfl rfl rfl rfl ⟨rfl,rfl,rfl,rfl,rfl⟩ rfl rfl rfl rfl rfl (by kernel_rfl) Tryz.func8 (by kernel_rfl)
  (of_decide_eq_true (by kernel_rfl)) (by unfold Func.isWrapper;first | (rw[if_pos (by decide +kernel)];kernel_rfl) | (rw[if_neg (by decide +kernel)];exact ⟨rfl,rfl⟩))
  (λos started H enc _=>lifted os started H enc)
end Go.Proofs.YtinkkmlbhkfmnaaGreat.poolSeals
