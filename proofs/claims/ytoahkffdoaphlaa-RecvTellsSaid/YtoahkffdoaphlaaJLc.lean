/- Joined texts. Conditions: as each theorem lists them. -/
import Derived.OrdersHeld
import Derived.Test.YtoahkffdoaphlaaRows
set_option linter.unusedSimpArgs false
set_option linter.unusedVariables false
set_option maxRecDepth 100000
set_option maxHeartbeats 80000000
namespace Go.Proofs.Ytoahkffdoaphlaa.Lc
open Go
section
variable {P:Program} {ops:Array Oper} {Q:Exit→Act→World→Prop} {md:Region.Mode} {S:World→Prop}
/-- In this state, in every world that meets S, the operation is a call that leaves v in its temporary and turns nothing. -/
def Asks (P:Program) (ops:Array Oper) (S:World→Prop) (o:Oper) (v:Value) (a:Act):Prop :=
 Region.wanted o (yielded ops a.tmps)=true∧∀ w,S w→∃ f args,(execOp a.eval o).run P w=.ok (.enter f args) w∧Calls P f args w fun e w'=>e=.returned v∧w'=w
theorem Asks.same {o:Oper} {v:Value} {a b:Act} (h:Asks P ops S o v a) (he:execOp b.eval o=execOp a.eval o) (hw:Region.wanted o (yielded ops b.tmps)=Region.wanted o (yielded ops a.tmps)):Asks P ops S o v b:=by
 obtain ⟨h1,h2⟩:=h
 exact ⟨hw.trans h1,fun w hS=>by rw [he];exact h2 w hS⟩
theorem Asks.op {i:Nat} {o:Oper} {v:Value} {a:Act} (hi:ops[i]?=some o) (h:Asks P ops S o v a) {K:Act→World→Prop} {w:World} (hS:S w) (hK:K (a.put o.dst v) w):wpOp P ops Q i K a w:=by
 obtain ⟨h1,h2⟩:=h
 obtain ⟨f,args,hr,hc⟩:=h2 w hS
 unfold wpOp
 simp only [hi,h1,if_true]
 refine .inl ?_
 unfold Oper.wp
 rw [hr,Oper.upon_enter]
 refine hc.mono ?_
 rintro e w' ⟨rfl,rfl⟩
 exact hK
/-- What the call leaves may be there already: nothing that another operation looks at has turned. -/
theorem wpOp_early {j:Nat} {x y:Oper} {v:Value} (hj:ops[j]?=some y) (hap:x.apart ops y=true) (hx:∀ cs b,x.op≠.select cs b) (hy:∀ cs b,y.op≠.select cs b)
  (hQ:∀ c a w,Q (.panic c) (a.put x.dst v) w→Q (.panic c) a w) {K:Act→World→Prop} {a:Act} {w:World} (hA:Asks P ops S x v a) (h:wpOp P ops Q j K (a.put x.dst v) w) :
  wpOp P ops Q j (fun b w'=>Asks P ops S x v b∧K (b.put x.dst v) w') a w:=by
 obtain ⟨g1,g2,g3⟩:=Oper.apart_spec hap
 have stay:∀ b,Asks P ops S x v b→∀ u,Asks P ops S x v (b.put y.dst u):=fun b hb u=>hb.same (execOp_put x hx b y.dst u g3) (wanted_put x b y.dst u g3)
 have swap:∀ (b:Act) u,(b.put x.dst v).put y.dst u=(b.put y.dst u).put x.dst v:=fun b u=>Act.put_comm b v u g2
 have same:execOp (a.put x.dst v).eval y=execOp a.eval y:=execOp_put y hy a x.dst v g1
 unfold wpOp at h ⊢
 simp only [hj] at h ⊢
 rw [wanted_put y a x.dst v g1] at h
 by_cases hw:Region.wanted y (yielded ops a.tmps)=true
 ·rw [if_pos hw] at h ⊢
  rcases h with h | ⟨k1,k2⟩
  ·refine .inl ?_
   unfold Oper.wp at h ⊢
   rw [same] at h
   generalize (execOp a.eval y).run P w=r at h ⊢
   cases r with
   | halt z w'=>cases z <;> first | exact h | exact hQ _ _ _ h
   | ok n w' =>
     cases n with
     | value u=>exact ⟨stay a hA u,by rw [← swap];exact h⟩
     | skip=>exact ⟨stay a hA undef,by rw [← swap];exact h⟩
     | defer d =>
       have hd:Asks P ops S x v { a with defers:=d :: a.defers }:=hA.same rfl rfl
       exact ⟨stay _ hd undef,by rw [← swap,← Act.put_defers];exact h⟩
     | enter f args =>
       refine Calls.mono h fun e w'' he=>?_
       cases e with
       | returned u=>exact ⟨stay a hA u,by rw [← swap];exact he⟩
       | panicked c=>exact hQ _ _ _ he
       | outgrown=>exact he
     | row row args=>exact Rows.mono h fun u w'' he=>⟨stay a hA u,by rw [← swap];exact he⟩
     | _=>exact h
  ·exact .inr ⟨by unfold Oper.asks at k1 ⊢;rw [same] at k1;exact k1,k2⟩
 ·rw [if_neg hw] at h ⊢
  exact ⟨stay a hA undef,by rw [← swap];exact h⟩
theorem first {i:Nat} {x:Oper} {v:Value} (hi:ops[i]?=some x) (hsel:∀ (j:Nat) (o:Oper) cs b,ops[j]?=some o→o.op≠.select cs b) (hQ:∀ c a w,Q (.panic c) (a.put x.dst v) w→Q (.panic c) a w) :
  ∀ (fuel:Nat) (listed:Array Bool) (a:Act) (w:World),(∀ j y,ops[j]?=some y→j≠i→listed.getD j true=false→(∀ e ∈ y.after,Region.binds md e=true→e.on≠i)→x.apart ops y=true) →
    i ∈ Region.ready md ops listed→Asks P ops S x v a→S w→wpAnyH P md ops Q S fuel (listed.setIfInBounds i true) (a.put x.dst v) w→wpAnyH P md ops Q S (fuel+1) listed a w
 | 0,listed,a,w,hfree,hr,hA,hS,H=>by
   refine ⟨fun h=>(by rw [h] at hr;cases hr),fun j hj=>?_⟩
   by_cases hji:j=i
   ·subst hji;exact hA.op hi hS ⟨hS,H⟩
   ·have h1:=ready_mono hj hji
    rw [H.1] at h1
    cases h1
 | fuel+1,listed,a,w,hfree,hr,hA,hS,H=>by
   refine ⟨fun h=>(by rw [h] at hr;cases hr),fun j hj=>?_⟩
   by_cases hji:j=i
   ·subst hji;exact hA.op hi hS ⟨hS,H⟩
   ·obtain ⟨hun,y,hy,hall⟩:=mem_ready.1 hj
    have hwait:∀ e ∈ y.after,Region.binds md e=true→e.on≠i:=fun e he hb heq=>by
     have h1:=hall e he hb
     have h0:=(mem_ready.1 hr).1
     rw [heq] at h1
     rcases Nat.lt_or_ge i listed.size with h2 | h2
     ·simp [h2] at h0 h1;rw [h0] at h1;cases h1
     ·simp [Array.getElem?_eq_none h2] at h1
    have h2:=wpOp_early hy (hfree j y hy hji hun hwait) (fun cs b=>hsel i x cs b hi) (fun cs b=>hsel j y cs b hy) hQ hA (H.2 j (ready_mono hj hji))
    refine wpOp_mono (fun b w' h3=>⟨h3.2.1,first hi hsel hQ fuel (listed.setIfInBounds j true) b w' (fun k z hk hki hkun hno=>?_) (ready_mono hr (Ne.symm hji)) h3.1 h3.2.1 ?_⟩) h2
    ·refine hfree k z hk hki ?_ hno
     by_cases hjk:j=k
     ·subst hjk;exact hun
     ·rw [getD_set_ne true hjk] at hkun;exact hkun
    ·rw [Array.setIfInBounds_comm _ _ hji]
     exact h3.2.2
theorem take_call {i:Nat} {x:Oper} {v:Value} {fuel:Nat} {listed:Array Bool} {a:Act} {w:World} (hi:ops[i]?=some x)
  (hs:Region.noSelect ops=true) (hf:Region.free md ops listed i=true) (hr:(Region.ready md ops listed).contains i=true)
  (hQ:∀ c a w,Q (.panic c) (a.put x.dst v) w→Q (.panic c) a w) (hA:Asks P ops S x v a) (hS:S w)
  (h:wpAnyH P md ops Q S fuel (listed.setIfInBounds i true) (a.put x.dst v) w):wpAnyH P md ops Q S (fuel+1) listed a w :=
 first hi (Region.noSelect_spec hs) hQ fuel listed a w (Region.free_spec hi hf) (by simpa using hr) hA hS h
end
end Go.Proofs.Ytoahkffdoaphlaa.Lc
