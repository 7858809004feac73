/- PoolUndone answers true for every input, and nothing that was there before the call has turned. -/
import Derived.Test.YtinkkmlbhkfmnaaGreatRows
import Derived.WalkKit
import Derived.ProofKit
import Derived.OpenShut
import Derived.Carry
import Derived.Test.YtinkkmlbhkfmnaaGreatQGp
import Derived.Test.YtinkkmlbhkfmnaaGreatQPoOpen
import Derived.Test.YtinkkmlbhkfmnaaGreatQUc
set_option maxRecDepth 100000
set_option maxHeartbeats 40000000
namespace Go.Proofs.YtinkkmlbhkfmnaaGreat.poolUndone
open Go.ChangeShapes Go.WideShapes Go.ChangeAt Go.RowKit Go.ChangeMaps
theorem own:ownKnob Tryz.prog.godebug=none:=by kernel_rfl
theorem laidOut:laidOutB Tryz.prog=true:=by kernel_rfl
theorem lifted (os:Os) (started:os.Started) (H:Type) (enc:TypeId × Value->H) :
 ReturnsInHanded {} Tryz.checked os 7 .any (Rows.poolUndoneSpec.pre6 enc Tryz.prog Tryz.f7 Rows.poolUndoneRow.domain false) (Rows.poolUndoneSpec.post enc Tryz.prog Tryz.f7 false true false false):=by
 refine returnsInHanded_of_change (C:=Tryz.checked) own started (by kernel_rfl) Tryz.func7
  (ChangeSpec.witness6 (enc:=enc) (C:=Tryz.checked) false ⟨#[],#[.agg #[.int .i64 0,.int .i64 0,.int .i64 0,.int .i64 0,.int .i64 0],.slice none 0 0],[]⟩ 8 (by kernel_rfl) (by kernel_rfl) (by kernel_rfl) (by kernel_rfl)) ?_
 intro W base args ds gs before hval0 hW hcnd _
 have hval:∀(j:Nat) t v,Tryz.f7.params[j]? = some t->args[j]? = some v->Value.okWide Tryz.prog W .any base t v:=hval0
 have hW':=hW
 obtain ⟨p,q,hA0,hV,rfl,hfz,hnd⟩:=hW
 have hA:DataW.TrodAll enc Tryz.prog W 0 (λ_=>true) true Tryz.f7.params.toList args.toList ds p:=hA0
 rw[Tryz.params7] at hA hval
 obtain ⟨v0,vs0,d0,ds0,p0,q0,hargs,rfl,hp0,h0,ta0⟩:=trodAll_cons hA
 obtain ⟨v1,vs1,d1,ds1,p1,q1,rfl,rfl,hp1,h1,ta1⟩:=trodAll_cons ta0
 obtain ⟨rfl,rfl,hq⟩:=trodAll_nil ta1
 obtain rfl:args = #[v0,v1]:=by cases args;simp_all
 obtain ⟨rfl,rfl⟩:=trodVars_none hV
 clear hA0 hval0
 have hW2:=hW'
 simp only[List.append_nil] at hW2
 have hlt:∀x∈p,x.block<W.heap.size:=λx hx=>by simpa using hW2.lt x hx
 have hlt0:∀x∈p0,x.block<W.heap.size:=λx hx=>hlt x (by rw[hp0];simp[hx])
 have hlt1:∀x∈p1,x.block<W.heap.size:=λx hx=>hlt x (by rw[hp0,hp1];simp[hx])
 have h0k:=h0
 obtain ⟨B0,P0,S0,D0,U0,rfl,u0⟩:=zRo (hval 0 23 v0 rfl rfl) h0
 have h1k:=h1
 obtain ⟨A1,c1,l1,rfl,n1,k1,y1,o1⟩:=zYi (hval 1 25 v1 rfl rfl) h1
 refine (undone_law B0 P0 S0 D0 U0 A1 c1 l1 W y1 o1 n1).mono λe W' ⟨he,hg⟩=>?_
 subst he
 have hback:=(trodAll_cons_mk (Below.trod laidOut (by kernel_rfl) (of_decide_eq_true (by kernel_rfl)) h0k hg hlt0) (trodAll_cons_mk (Below.trod laidOut (by kernel_rfl) (of_decide_eq_true (by kernel_rfl)) h1k hg hlt1) trodAll_mk0))
 have hpe:p=p0++(p1++[]):=by rw[hp0,hp1,hq]
 rw[<-hpe] at hback
 exact ⟨_,rfl,_,_,_,[],_,[],hW',trodAll_cons_mk (shut_bool Tryz.underlying4 _) trodAll_mk0,hback,rfl,hg.frame _,λh=>by cases h⟩
theorem proved:Rows.PoolUndoneSaid :=
 OpenClaim.holds_of_wide 7 Tryz.f7 rfl rfl rfl rfl rfl rfl rfl ⟨rfl,rfl,rfl,rfl,rfl⟩ rfl rfl rfl rfl rfl (by kernel_rfl) Tryz.func7 (by kernel_rfl)
  (of_decide_eq_true (by kernel_rfl)) (by unfold Func.isWrapper;first | (rw[if_pos (by decide +kernel)];kernel_rfl) | (rw[if_neg (by decide +kernel)];exact ⟨rfl,rfl⟩))
  (λos started H enc _=>lifted os started H enc)
end Go.Proofs.YtinkkmlbhkfmnaaGreat.poolUndone
