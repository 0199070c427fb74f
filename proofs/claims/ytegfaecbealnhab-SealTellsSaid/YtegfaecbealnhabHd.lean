/- Two quiet calls that may come up in either order, in a region under a held condition: one way behind both. Conditions: as the theorem lists them. -/
import Derived.Test.YtegfaecbealnhabProg
import Derived.Deep.RegionHeld3
namespace Go.Proofs.Ytegfaecbealnhab
open Go

theorem two_ways {P : Program} {md : Region.Mode} {ops : Array Oper} {Q : Exit → Act → World → Prop} {S : World → Prop} {i j : Nat} {oi oj : Oper} {vi vj : Value} {fuel : Nat} {listed : Array Bool} {a : Act} {w : World}
    (hr : Region.ready md ops listed = [i, j]) (hr1 : Region.ready md ops (listed.setIfInBounds i true) = [j]) (hr2 : Region.ready md ops (listed.setIfInBounds j true) = [i])
    (hl : (listed.setIfInBounds i true).setIfInBounds j true = (listed.setIfInBounds j true).setIfInBounds i true)
    (hi : ops[i]? = some oi) (hj : ops[j]? = some oj) (hp : (a.put oi.dst vi).put oj.dst vj = (a.put oj.dst vj).put oi.dst vi)
    (h1 : ∀ K : Act → World → Prop, K (a.put oi.dst vi) w → if Region.wanted oi (yielded ops a.tmps) = true then Oper.wp P oi a w K Q else K (a.put oi.dst undef) w)
    (h2 : ∀ K : Act → World → Prop, K ((a.put oi.dst vi).put oj.dst vj) w → if Region.wanted oj (yielded ops (a.put oi.dst vi).tmps) = true then Oper.wp P oj (a.put oi.dst vi) w K Q else K ((a.put oi.dst vi).put oj.dst undef) w)
    (h3 : ∀ K : Act → World → Prop, K (a.put oj.dst vj) w → if Region.wanted oj (yielded ops a.tmps) = true then Oper.wp P oj a w K Q else K (a.put oj.dst undef) w)
    (h4 : ∀ K : Act → World → Prop, K ((a.put oj.dst vj).put oi.dst vi) w → if Region.wanted oi (yielded ops (a.put oj.dst vj).tmps) = true then Oper.wp P oi (a.put oj.dst vj) w K Q else K ((a.put oj.dst vj).put oi.dst undef) w)
    (hS : S w) (h : wpAnyH P md ops Q S fuel ((listed.setIfInBounds i true).setIfInBounds j true) ((a.put oi.dst vi).put oj.dst vj) w) : wpAnyH P md ops Q S (fuel + 1 + 1) listed a w := by
  refine wpAnyH_ready hr (by simp) (AllReadyH.cons hi (fun K hK => h1 K (hK.out _ _ hS fun _ => ?_)) (AllReadyH.cons hj (fun K hK => h3 K (hK.out _ _ hS fun _ => ?_)) AllReadyH.nil))
  · exact wpAnyH_ready hr1 (by simp) (AllReadyH.cons hj (fun K hK => h2 K (hK.out _ _ hS fun _ => h)) AllReadyH.nil)
  · refine wpAnyH_ready hr2 (by simp) (AllReadyH.cons hi (fun K hK => h4 K (hK.out _ _ hS fun _ => ?_)) AllReadyH.nil)
    rw [← hl, ← hp]
    exact h
end Go.Proofs.Ytegfaecbealnhab
