/- Joined texts. Conditions: as each theorem lists them. -/
import Derived.Test.YtccljifichaieaaDoorJUc
import Derived.Test.YtccljifichaieaaDoorJUd
set_option linter.unusedSimpArgs false
set_option linter.unusedVariables false
set_option maxRecDepth 100000
set_option maxHeartbeats 8000000
namespace Go.Proofs.YtccljifichaieaaDoor
open Go Go.RowKit
theorem bits_back (b0 b1 b2 b3 b4 b5 b6:Bool) (n:Nat) (hn:n=0∨n=64∨n=53∨n=15∨n=3∨n=2∨n=18∨n=32∨n=1)
  (h:(bits .andNot .i64 (carI (seven b0 b1 b2 b3 b4 b5 b6) 7) (n:Int) == 0)=true):((b0 && !(n.testBit 0)) || (b1 && !(n.testBit 1)) || (b2 && !(n.testBit 2)) || (b3 && !(n.testBit 3)) || (b4 && !(n.testBit 4)) || (b5 && !(n.testBit 5)) || (b6 && !(n.testBit 6)))=false:=by
 rcases hn with rfl | rfl | rfl | rfl | rfl | rfl | rfl | rfl | rfl
 all_goals
  revert h
  cases b0 <;> cases b1 <;> cases b2 <;> cases b3 <;> cases b4 <;> cases b5 <;> cases b6 <;> first | (intro _;rfl) | (intro h;exact absurd h (by decide))
theorem spR_ok {es:List Int} {m:Nat} (h:rsB es m=true) (hl:es.length=m * 2):SpsOk es m∧1≤m∧m≤8:=by
 unfold rsB at h
 simp only [Bool.and_eq_true,decide_eq_true_eq] at h
 obtain ⟨h1,h2,h3⟩:=h
 refine ⟨⟨hl,?_⟩,h2,h3⟩
 have key:∀ k,k<m→0≤es.getD (2 * k) 0∧es.getD (2 * k) 0≤es.getD (2 * k+1) 0∧es.getD (2 * k+1) 0≤4611686018427387903∧(k=0∨2≤wrap64 (es.getD (2 * (k - 1)) 0 - es.getD (2 * k+1) 0)):=fun k hk=>by
  have:=h1 k hk
  unfold spK at this
  simp only [Bool.and_eq_true,Bool.or_eq_true,decide_eq_true_eq] at this
  exact ⟨this.1.1.1,this.1.2,this.1.1.2,this.2⟩
 intro k hk
 obtain ⟨a1,a2,a3,a4⟩:=key k hk
 refine ⟨a1,a2,a3,fun h0=>?_⟩
 obtain ⟨b1,b2,b3,_⟩:=key (k - 1) (by omega)
 rcases a4 with a4 | a4
 ·omega
 ·rw [IntWalk.wrap64_in _ (by omega)] at a4
  omega
theorem ok_right {f:Fr} (h:rightB f=true) (he:f.spans.length % 2=0) (hd:∀ c ∈ f.data,c<256):OkF f:=by
 obtain ⟨k,id,off,a,b,note,fin,data,spans⟩:=f
 unfold rightB at h
 simp only [Bool.and_eq_true] at h he hd
 obtain ⟨⟨⟨⟨h1,h2⟩,h3⟩,h4⟩,h5⟩:=h
 unfold kn at h1
 simp only [Bool.and_eq_true,decide_eq_true_eq] at h1
 obtain ⟨k1,k2⟩:=h1
 unfold rnB at h2
 simp only [Bool.and_eq_true,decide_eq_true_eq] at h2
 obtain ⟨hm,hbo⟩:=h2
 have wi:wid id≠0:=hm id (by simp)
 have wa:wid a≠0:=hm a (by simp)
 have wo:wid off≠0:=hm off (by simp)
 have wb:wid b≠0:=hm b (by simp)
 obtain ⟨o0,o1⟩:=wid_ok wo
 unfold rdB at h4
 simp only [Bool.and_eq_true,Bool.or_eq_true,decide_eq_true_eq] at h4
 obtain ⟨⟨d1,d2⟩,d3⟩:=h4
 rw [IntWalk.wrap64_in _ (by omega)] at d2
 have hk:k=1∨k=2∨k=3∨k=4∨k=5∨k=6∨k=7∨k=8∨k=9∨k=10∨k=11∨k=12:=by omega
 have hz:=bits_back _ _ _ _ _ _ _ (nm k) (by rcases hk with rfl | rfl | rfl | rfl | rfl | rfl | rfl | rfl | rfl | rfl | rfl | rfl <;> decide) (by unfold carB at h3;exact h3)
 clear h3 hm
 have dg:k=9→data≠[]:=fun e h=>by
  subst e;subst h
  simp at d3
 rcases hk with rfl | rfl | rfl | rfl | rfl | rfl | rfl | rfl | rfl | rfl | rfl | rfl
 all_goals
  simp [nm,Nat.testBit] at hz
 case inr.inl =>
  have h6:rsB spans (spans.length / 2)=true:=by
   have h5:(bits .and .i64 (nm 2:Int) 64 == 0)=true∨rsB spans (spans.length / 2)=true:=by simpa only [Bool.or_eq_true] using h5
   rcases h5 with h | h
   ·exact absurd h (by decide)
   ·exact h
  obtain ⟨s1,s2,s3⟩:=spR_ok h6 (by omega)
  refine ⟨⟨k1,k2⟩,⟨wi,wo,wa,wb⟩,hbo,⟨d1,hd⟩,by simp only;omega,dg,?_,?_,?_,?_,?_,?_,.inl ⟨rfl,_,s2,s3,s1⟩⟩
  all_goals simp_all
 all_goals
  refine ⟨⟨k1,k2⟩,⟨wi,wo,wa,wb⟩,hbo,⟨d1,hd⟩,by simp only;omega,dg,?_,?_,?_,?_,?_,?_,.inr ⟨by simp,?_⟩⟩
  all_goals first
   | (simp_all;done)
   | exact List.eq_nil_of_length_eq_zero (show spans.length=0 by omega)
theorem rright_any (f:Fr) (A:Option Addr) (n c:Nat) (A2:Option Addr) (n2 c2:Nat) (w:World) (h:IsFr w w.heap.size f A n c A2 n2 c2) (hd:∀ c ∈ f.data,c<256) :
  Calls Tryd.prog 51 #[.agg #[.int .i64 f.k,.int .i64 f.id,.int .i64 f.off,.int .i64 f.a,.int .i64 f.b,.int .i64 f.note,.bool f.fin,.slice A n c,.slice A2 n2 c2]] w fun e w'=>e=.returned (.bool (rightB f))∧Below w.heap.size w w':=by
 cases hr:rightB f with
 | true=>exact rright_yes f A n c A2 n2 c2 w h (ok_right hr (by have:=h.2.2.2.1;omega) hd)
 | false =>
   have hno:¬ OkF f:=fun ho=>by have:=right_ok ho;rw [hr] at this;cases this
   obtain ⟨k,id,off,a,b,note,fin,data,spans⟩:=f
   obtain ⟨g1,g2,g3,g4,g5,g6⟩:=h
   simp only at g1 g3 g4 g6 hd
   simp only
   clear hr
   by_cases hk1:k<1
   ·exact rpre_low k id off a b note fin A n c A2 n2 c2 w hk1
   by_cases hk2:12<k
   ·exact rpre_high k id off a b note fin A n c A2 n2 c2 w hk1 hk2
   by_cases wi:wid id=0
   ·exact rpre_0 k id off a b note fin A n c A2 n2 c2 w hk1 hk2 wi
   by_cases wo:wid off=0
   ·exact rpre_1 k id off a b note fin A n c A2 n2 c2 w hk1 hk2 wi wo
   by_cases wa:wid a=0
   ·exact rpre_2 k id off a b note fin A n c A2 n2 c2 w hk1 hk2 wi wo wa
   by_cases wb:wid b=0
   ·exact rpre_3 k id off a b note fin A n c A2 n2 c2 w hk1 hk2 wi wo wa wb
   by_cases hn:120<n
   ·exact rpre_data k id off a b note fin A n c A2 n2 c2 w hk1 hk2 wi wo wa wb hn
   have hn':n≤120:=by omega
   obtain ⟨o0,o1⟩:=wid_ok wo
   have hk:k=1∨k=2∨k=3∨k=4∨k=5∨k=6∨k=7∨k=8∨k=9∨k=10∨k=11∨k=12:=by omega
   clear hk1 hk2
   rcases hk with rfl | rfl | rfl | rfl | rfl | rfl | rfl | rfl | rfl | rfl | rfl | rfl
   ·skip
    refine rno_1 id off a b note fin A n c A2 n2 c2 w wi wo wa wb hn' (Classical.byContradiction fun hc=>?_)
    have z0:id=0:=Classical.byContradiction fun hz=>hc (.inl (by simpa using hz))
    have z1:off=0:=Classical.byContradiction fun hz=>hc (.inr (.inl ⟨z0,by simpa using hz⟩))
    have z2:a=0:=Classical.byContradiction fun hz=>hc (.inr (.inr (.inl ⟨z0,z1,by simpa using hz⟩)))
    have z3:b=0:=Classical.byContradiction fun hz=>hc (.inr (.inr (.inr (.inl ⟨z0,z1,z2,by simpa using hz⟩))))
    have z4:fin=false:=Classical.byContradiction fun hz=>hc (.inr (.inr (.inr (.inr (.inl ⟨z0,z1,z2,z3,by simpa using hz⟩)))))
    have z5:n=0:=Classical.byContradiction fun hz=>hc (.inr (.inr (.inr (.inr (.inr (.inl ⟨z0,z1,z2,z3,z4,by omega⟩))))))
    have z6:n2=0:=Classical.byContradiction fun hz=>hc (.inr (.inr (.inr (.inr (.inr (.inr ⟨z0,z1,z2,z3,z4,z5,by omega⟩))))))
    have hdn:data=[]:=List.eq_nil_of_length_eq_zero (by omega)
    have hsn:spans=[]:=List.eq_nil_of_length_eq_zero (by omega)
    have hoo:0≤b:=(wid_ok wb).1
    exact hno ⟨⟨by simp,by simp⟩,⟨wi,wo,wa,wb⟩,by simp only;omega,⟨by simp only;omega,hd⟩,by simp only;omega,fun h=>absurd h (by simp),by simp [z0],by simp [z2],by simp [z1],by simp [z3],by simp [z4],by simp [hdn],.inr ⟨by simp,hsn⟩⟩
   ·skip
    refine rno_2 id off a b note fin A n c A2 n2 c2 w wi wo wa wb hn' ?_ (Classical.byContradiction fun hc=>?_)
    ·show (_→_)
     rintro ⟨rfl,rfl,rfl,rfl,rfl,hn0⟩ W hW
     by_cases h18:n2<1∨8<n2
     ·exact rspans_few n2 c2 A2 W h18
     ·by_cases hex:∃ q,q<n2∧(∀ k,k<q→spR spans k)∧¬ spR spans q
      ·obtain ⟨q,q1,q2,q3⟩:=hex
       exact rspans_bad spans n2 W.heap.size A2 c2 W q q1 g4 q2 q3 (by omega) (by omega) (g6.below hW (Nat.le_refl _) |>.more hW.size) (Nat.le_refl _) g5
      ·have hall:∀ q,q≤n2→∀ k,k<q→spR spans k:=by
        intro q
        induction q with
        | zero=>intro _ k hk;omega
        | succ q ih =>
          intro hq k hk
          have h1:=ih (by omega)
          by_cases e:k=q
          ·subst e
           exact Classical.byContradiction fun hb=>hex ⟨k,by omega,h1,hb⟩
          ·exact h1 k (by omega)
       have hdn:data=[]:=List.eq_nil_of_length_eq_zero (by omega)
       exact absurd ⟨⟨by simp,by simp⟩,⟨wi,wo,wa,wb⟩,by simp only;omega,⟨by simp only;omega,hd⟩,by simp only;omega,fun h=>absurd h (by simp),by simp,by simp,by simp,by simp,by simp,.inr (.inr hdn),.inl ⟨rfl,n2,by omega,by omega,⟨g4,fun k hk=>hall n2 (Nat.le_refl _) k hk⟩⟩⟩ hno
    ·skip
     have z0:id=0:=Classical.byContradiction fun hz=>hc (.inl (by simpa using hz))
     have z1:off=0:=Classical.byContradiction fun hz=>hc (.inr (.inl ⟨z0,by simpa using hz⟩))
     have z2:a=0:=Classical.byContradiction fun hz=>hc (.inr (.inr (.inl ⟨z0,z1,by simpa using hz⟩)))
     have z3:b=0:=Classical.byContradiction fun hz=>hc (.inr (.inr (.inr (.inl ⟨z0,z1,z2,by simpa using hz⟩))))
     have z4:fin=false:=Classical.byContradiction fun hz=>hc (.inr (.inr (.inr (.inr (.inl ⟨z0,z1,z2,z3,by simpa using hz⟩)))))
     have z5:n=0:=Classical.byContradiction fun hz=>hc (.inr (.inr (.inr (.inr (.inr (.inl ⟨z0,z1,z2,z3,z4,by omega⟩))))))
     exact hc (.inr (.inr (.inr (.inr (.inr (.inr ⟨z0,z1,z2,z3,z4,z5⟩))))))
   ·skip
    refine rno_3 id off a b note fin A n c A2 n2 c2 w wi wo wa wb hn' (Classical.byContradiction fun hc=>?_)
    have z2:a=0:=Classical.byContradiction fun hz=>hc (.inl (by simpa using hz))
    have z3:b=0:=Classical.byContradiction fun hz=>hc (.inr (.inl ⟨z2,by simpa using hz⟩))
    have z6:n2=0:=Classical.byContradiction fun hz=>hc (.inr (.inr (.inl ⟨z2,z3,by omega⟩)))
    have sp:off≤4611686018427387903 - (n:Int):=Classical.byContradiction fun hz=>hc (.inr (.inr (.inr ⟨z2,z3,z6,by omega⟩)))
    have hsn:spans=[]:=List.eq_nil_of_length_eq_zero (by omega)
    have hoo:0≤b:=(wid_ok wb).1
    exact hno ⟨⟨by simp,by simp⟩,⟨wi,wo,wa,wb⟩,by simp only;omega,⟨by simp only;omega,hd⟩,by simp only;omega,fun h=>absurd h (by simp),by simp,by simp [z2],by simp,by simp [z3],by simp,by simp,.inr ⟨by simp,hsn⟩⟩
   ·skip
    refine rno_4 id off a b note fin A n c A2 n2 c2 w wi wo wa wb hn' (Classical.byContradiction fun hc=>?_)
    have z4:fin=false:=Classical.byContradiction fun hz=>hc (.inl (by simpa using hz))
    have z5:n=0:=Classical.byContradiction fun hz=>hc (.inr (.inl ⟨z4,by omega⟩))
    have z6:n2=0:=Classical.byContradiction fun hz=>hc (.inr (.inr (.inl ⟨z4,z5,by omega⟩)))
    have sp:b≤off:=Classical.byContradiction fun hz=>hc (.inr (.inr (.inr ⟨z4,z5,z6,by omega⟩)))
    have hdn:data=[]:=List.eq_nil_of_length_eq_zero (by omega)
    have hsn:spans=[]:=List.eq_nil_of_length_eq_zero (by omega)
    have hoo:0≤b:=(wid_ok wb).1
    exact hno ⟨⟨by simp,by simp⟩,⟨wi,wo,wa,wb⟩,by simp only;omega,⟨by simp only;omega,hd⟩,by simp only;omega,fun h=>absurd h (by simp),by simp,by simp,by simp,by simp,by simp [z4],by simp [hdn],.inr ⟨by simp,hsn⟩⟩
   ·skip
    refine rno_5 id off a b note fin A n c A2 n2 c2 w wi wo wa wb hn' (Classical.byContradiction fun hc=>?_)
    have z1:off=0:=Classical.byContradiction fun hz=>hc (.inl (by simpa using hz))
    have z3:b=0:=Classical.byContradiction fun hz=>hc (.inr (.inl ⟨z1,by simpa using hz⟩))
    have z4:fin=false:=Classical.byContradiction fun hz=>hc (.inr (.inr (.inl ⟨z1,z3,by simpa using hz⟩)))
    have z5:n=0:=Classical.byContradiction fun hz=>hc (.inr (.inr (.inr (.inl ⟨z1,z3,z4,by omega⟩))))
    have z6:n2=0:=Classical.byContradiction fun hz=>hc (.inr (.inr (.inr (.inr ⟨z1,z3,z4,z5,by omega⟩))))
    have hdn:data=[]:=List.eq_nil_of_length_eq_zero (by omega)
    have hsn:spans=[]:=List.eq_nil_of_length_eq_zero (by omega)
    have hoo:0≤b:=(wid_ok wb).1
    exact hno ⟨⟨by simp,by simp⟩,⟨wi,wo,wa,wb⟩,by simp only;omega,⟨by simp only;omega,hd⟩,by simp only;omega,fun h=>absurd h (by simp),by simp,by simp,by simp [z1],by simp [z3],by simp [z4],by simp [hdn],.inr ⟨by simp,hsn⟩⟩
   ·skip
    refine rno_6 id off a b note fin A n c A2 n2 c2 w wi wo wa wb hn' (Classical.byContradiction fun hc=>?_)
    have z0:id=0:=Classical.byContradiction fun hz=>hc (.inl (by simpa using hz))
    have z1:off=0:=Classical.byContradiction fun hz=>hc (.inr (.inl ⟨z0,by simpa using hz⟩))
    have z3:b=0:=Classical.byContradiction fun hz=>hc (.inr (.inr (.inl ⟨z0,z1,by simpa using hz⟩)))
    have z4:fin=false:=Classical.byContradiction fun hz=>hc (.inr (.inr (.inr (.inl ⟨z0,z1,z3,by simpa using hz⟩))))
    have z5:n=0:=Classical.byContradiction fun hz=>hc (.inr (.inr (.inr (.inr (.inl ⟨z0,z1,z3,z4,by omega⟩)))))
    have z6:n2=0:=Classical.byContradiction fun hz=>hc (.inr (.inr (.inr (.inr (.inr ⟨z0,z1,z3,z4,z5,by omega⟩)))))
    have hdn:data=[]:=List.eq_nil_of_length_eq_zero (by omega)
    have hsn:spans=[]:=List.eq_nil_of_length_eq_zero (by omega)
    have hoo:0≤b:=(wid_ok wb).1
    exact hno ⟨⟨by simp,by simp⟩,⟨wi,wo,wa,wb⟩,by simp only;omega,⟨by simp only;omega,hd⟩,by simp only;omega,fun h=>absurd h (by simp),by simp [z0],by simp,by simp [z1],by simp [z3],by simp [z4],by simp [hdn],.inr ⟨by simp,hsn⟩⟩
   ·skip
    refine rno_7 id off a b note fin A n c A2 n2 c2 w wi wo wa wb hn' (Classical.byContradiction fun hc=>?_)
    have z1:off=0:=Classical.byContradiction fun hz=>hc (.inl (by simpa using hz))
    have z3:b=0:=Classical.byContradiction fun hz=>hc (.inr (.inl ⟨z1,by simpa using hz⟩))
    have z4:fin=false:=Classical.byContradiction fun hz=>hc (.inr (.inr (.inl ⟨z1,z3,by simpa using hz⟩)))
    have z5:n=0:=Classical.byContradiction fun hz=>hc (.inr (.inr (.inr (.inl ⟨z1,z3,z4,by omega⟩))))
    have z6:n2=0:=Classical.byContradiction fun hz=>hc (.inr (.inr (.inr (.inr ⟨z1,z3,z4,z5,by omega⟩))))
    have hdn:data=[]:=List.eq_nil_of_length_eq_zero (by omega)
    have hsn:spans=[]:=List.eq_nil_of_length_eq_zero (by omega)
    have hoo:0≤b:=(wid_ok wb).1
    exact hno ⟨⟨by simp,by simp⟩,⟨wi,wo,wa,wb⟩,by simp only;omega,⟨by simp only;omega,hd⟩,by simp only;omega,fun h=>absurd h (by simp),by simp,by simp,by simp [z1],by simp [z3],by simp [z4],by simp [hdn],.inr ⟨by simp,hsn⟩⟩
   ·skip
    refine rno_8 id off a b note fin A n c A2 n2 c2 w wi wo wa wb hn' (Classical.byContradiction fun hc=>?_)
    have z0:id=0:=Classical.byContradiction fun hz=>hc (.inl (by simpa using hz))
    have z1:off=0:=Classical.byContradiction fun hz=>hc (.inr (.inl ⟨z0,by simpa using hz⟩))
    have z3:b=0:=Classical.byContradiction fun hz=>hc (.inr (.inr (.inl ⟨z0,z1,by simpa using hz⟩)))
    have z5:n=0:=Classical.byContradiction fun hz=>hc (.inr (.inr (.inr (.inl ⟨z0,z1,z3,by omega⟩))))
    have z6:n2=0:=Classical.byContradiction fun hz=>hc (.inr (.inr (.inr (.inr ⟨z0,z1,z3,z5,by omega⟩))))
    have hdn:data=[]:=List.eq_nil_of_length_eq_zero (by omega)
    have hsn:spans=[]:=List.eq_nil_of_length_eq_zero (by omega)
    have hoo:0≤b:=(wid_ok wb).1
    exact hno ⟨⟨by simp,by simp⟩,⟨wi,wo,wa,wb⟩,by simp only;omega,⟨by simp only;omega,hd⟩,by simp only;omega,fun h=>absurd h (by simp),by simp [z0],by simp,by simp [z1],by simp [z3],by simp,by simp [hdn],.inr ⟨by simp,hsn⟩⟩
   ·skip
    refine rno_9 id off a b note fin A n c A2 n2 c2 w wi wo wa wb hn' (Classical.byContradiction fun hc=>?_)
    have z0:id=0:=Classical.byContradiction fun hz=>hc (.inl (by simpa using hz))
    have z1:off=0:=Classical.byContradiction fun hz=>hc (.inr (.inl ⟨z0,by simpa using hz⟩))
    have z2:a=0:=Classical.byContradiction fun hz=>hc (.inr (.inr (.inl ⟨z0,z1,by simpa using hz⟩)))
    have z3:b=0:=Classical.byContradiction fun hz=>hc (.inr (.inr (.inr (.inl ⟨z0,z1,z2,by simpa using hz⟩))))
    have z4:fin=false:=Classical.byContradiction fun hz=>hc (.inr (.inr (.inr (.inr (.inl ⟨z0,z1,z2,z3,by simpa using hz⟩)))))
    have z6:n2=0:=Classical.byContradiction fun hz=>hc (.inr (.inr (.inr (.inr (.inr (.inl ⟨z0,z1,z2,z3,z4,by omega⟩))))))
    have sp:n≠0:=fun hz=>hc (.inr (.inr (.inr (.inr (.inr (.inr ⟨z0,z1,z2,z3,z4,z6,hz⟩))))))
    have hsn:spans=[]:=List.eq_nil_of_length_eq_zero (by omega)
    have hoo:0≤b:=(wid_ok wb).1
    exact hno ⟨⟨by simp,by simp⟩,⟨wi,wo,wa,wb⟩,by simp only;omega,⟨by simp only;omega,hd⟩,by simp only;omega,fun _ h=>sp (by have h:data=[]:=h;rw [← g1,h];rfl),by simp [z0],by simp [z2],by simp [z1],by simp [z3],by simp [z4],by simp,.inr ⟨by simp,hsn⟩⟩
   ·skip
    refine rno_10 id off a b note fin A n c A2 n2 c2 w wi wo wa wb hn' (Classical.byContradiction fun hc=>?_)
    have z1:off=0:=Classical.byContradiction fun hz=>hc (.inl (by simpa using hz))
    have z2:a=0:=Classical.byContradiction fun hz=>hc (.inr (.inl ⟨z1,by simpa using hz⟩))
    have z3:b=0:=Classical.byContradiction fun hz=>hc (.inr (.inr (.inl ⟨z1,z2,by simpa using hz⟩)))
    have z4:fin=false:=Classical.byContradiction fun hz=>hc (.inr (.inr (.inr (.inl ⟨z1,z2,z3,by simpa using hz⟩))))
    have z5:n=0:=Classical.byContradiction fun hz=>hc (.inr (.inr (.inr (.inr (.inl ⟨z1,z2,z3,z4,by omega⟩)))))
    have z6:n2=0:=Classical.byContradiction fun hz=>hc (.inr (.inr (.inr (.inr (.inr ⟨z1,z2,z3,z4,z5,by omega⟩)))))
    have hdn:data=[]:=List.eq_nil_of_length_eq_zero (by omega)
    have hsn:spans=[]:=List.eq_nil_of_length_eq_zero (by omega)
    have hoo:0≤b:=(wid_ok wb).1
    exact hno ⟨⟨by simp,by simp⟩,⟨wi,wo,wa,wb⟩,by simp only;omega,⟨by simp only;omega,hd⟩,by simp only;omega,fun h=>absurd h (by simp),by simp,by simp [z2],by simp [z1],by simp [z3],by simp [z4],by simp [hdn],.inr ⟨by simp,hsn⟩⟩
   ·skip
    refine rno_11 id off a b note fin A n c A2 n2 c2 w wi wo wa wb hn' (Classical.byContradiction fun hc=>?_)
    have z1:off=0:=Classical.byContradiction fun hz=>hc (.inl (by simpa using hz))
    have z2:a=0:=Classical.byContradiction fun hz=>hc (.inr (.inl ⟨z1,by simpa using hz⟩))
    have z3:b=0:=Classical.byContradiction fun hz=>hc (.inr (.inr (.inl ⟨z1,z2,by simpa using hz⟩)))
    have z4:fin=false:=Classical.byContradiction fun hz=>hc (.inr (.inr (.inr (.inl ⟨z1,z2,z3,by simpa using hz⟩))))
    have z5:n=0:=Classical.byContradiction fun hz=>hc (.inr (.inr (.inr (.inr (.inl ⟨z1,z2,z3,z4,by omega⟩)))))
    have z6:n2=0:=Classical.byContradiction fun hz=>hc (.inr (.inr (.inr (.inr (.inr ⟨z1,z2,z3,z4,z5,by omega⟩)))))
    have hdn:data=[]:=List.eq_nil_of_length_eq_zero (by omega)
    have hsn:spans=[]:=List.eq_nil_of_length_eq_zero (by omega)
    have hoo:0≤b:=(wid_ok wb).1
    exact hno ⟨⟨by simp,by simp⟩,⟨wi,wo,wa,wb⟩,by simp only;omega,⟨by simp only;omega,hd⟩,by simp only;omega,fun h=>absurd h (by simp),by simp,by simp [z2],by simp [z1],by simp [z3],by simp [z4],by simp [hdn],.inr ⟨by simp,hsn⟩⟩
   ·skip
    refine rno_12 id off a b note fin A n c A2 n2 c2 w wi wo wa wb hn' (Classical.byContradiction fun hc=>?_)
    have z0:id=0:=Classical.byContradiction fun hz=>hc (.inl (by simpa using hz))
    have z1:off=0:=Classical.byContradiction fun hz=>hc (.inr (.inl ⟨z0,by simpa using hz⟩))
    have z3:b=0:=Classical.byContradiction fun hz=>hc (.inr (.inr (.inl ⟨z0,z1,by simpa using hz⟩)))
    have z4:fin=false:=Classical.byContradiction fun hz=>hc (.inr (.inr (.inr (.inl ⟨z0,z1,z3,by simpa using hz⟩))))
    have z5:n=0:=Classical.byContradiction fun hz=>hc (.inr (.inr (.inr (.inr (.inl ⟨z0,z1,z3,z4,by omega⟩)))))
    have z6:n2=0:=Classical.byContradiction fun hz=>hc (.inr (.inr (.inr (.inr (.inr ⟨z0,z1,z3,z4,z5,by omega⟩)))))
    have hdn:data=[]:=List.eq_nil_of_length_eq_zero (by omega)
    have hsn:spans=[]:=List.eq_nil_of_length_eq_zero (by omega)
    have hoo:0≤b:=(wid_ok wb).1
    exact hno ⟨⟨by simp,by simp⟩,⟨wi,wo,wa,wb⟩,by simp only;omega,⟨by simp only;omega,hd⟩,by simp only;omega,fun h=>absurd h (by simp),by simp [z0],by simp,by simp [z1],by simp [z3],by simp [z4],by simp [hdn],.inr ⟨by simp,hsn⟩⟩
end Go.Proofs.YtccljifichaieaaDoor
