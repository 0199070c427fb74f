/- slices.SortFunc on rows of runs: a contract. Conditions: as each theorem lists them. -/
import Derived.Test.YtoglpjgmnojdjaaS5
import Derived.Test.YtoglpjgmnojdjaaSh2
import Derived.Test.YtoglpjgmnojdjaaM3
import Derived.Laws.OwnMore
set_option linter.unusedSimpArgs false
set_option linter.unusedVariables false
namespace Go.Proofs.Ytoglpjgmnojdjaa
open Go Go.RowKit

def encP (x : Int × Int) : List Value := [.int .i64 x.1, .int .i64 x.2]

set_option maxHeartbeats 1000000 in
theorem cmp_clo (x y : Int × Int) (W : World) : Calls Try.prog 58 #[.agg #[.int .i64 x.1, .int .i64 x.2], .agg #[.int .i64 y.1, .int .i64 y.2]] W fun e w' => e = .returned (.int .i64 (Lib.compareInt x.1 y.1)) ∧ ∃ q os', w' = Sort.grow (W.drewN q) os' := by
  have hcon := fun W' => Try.cmp_Compare_int x.1 y.1 W'
  generalize Lib.compareInt x.1 y.1 = r at hcon ⊢
  go_enter Try.func58, Try.ntmps58
  go_wp2_with (go_at_call 59; refine (hcon _).mono ?_; rintro e w' ⟨rfl, rfl⟩)
  go_ret
  exact ⟨rfl, 0, _, by rw [Sort.alloc_eq_grow, Sort.alloc_eq_grow, Sort.grow_grow]; rfl⟩

theorem lt_cmp (x y : Int × Int) : Go.Proofs.ltOf (fun x y : Int × Int => Lib.compareInt x.1 y.1) x y = decide (x.1 < y.1) := by
  unfold Go.Proofs.ltOf Lib.compareInt
  by_cases h1 : x.1 < y.1
  · simp [h1]
  · by_cases h2 : y.1 < x.1 <;> simp [h1, h2]
theorem swo_cmp : Sort.SWO (Go.Proofs.ltOf fun x y : Int × Int => Lib.compareInt x.1 y.1) where
  irrefl x := by rw [lt_cmp]; simp
  trans x y z h1 h2 := by rw [lt_cmp] at *; simp at *; omega
  ntrans x y z h1 h2 := by rw [lt_cmp] at *; simp at *; omega

theorem flat_pl (rs : List (Int × Int)) : (Sort.flatK encP 2 rs.toArray).toList = ints (pl rs) := by
  refine List.ext_getElem? fun t => ?_
  rcases Nat.lt_or_ge t (rs.length * 2) with h | h
  · have h1 : (Sort.flatK encP 2 rs.toArray).toList[t]? = some ((Sort.flatK encP 2 rs.toArray)[t]!) := by
      rw [Array.getElem?_toList, Array.getElem?_eq_getElem (by simpa using h), getElem!_pos _ t (by simpa using h)]
    rw [h1, Sort.get_flatK _ _ _ _ (by simpa using h)]
    obtain ⟨k, hk⟩ : ∃ k, t = 2 * k ∨ t = 2 * k + 1 := ⟨t / 2, by omega⟩
    have h2 : k < rs.length := by omega
    have h3 := pl_get0 rs k rs[k] (by simp [h2])
    have h4 : rs.toArray[k]! = rs[k] := by simp [h2]
    rw [ints_get _ _ (by rw [pl_len]; omega)]
    rcases hk with rfl | rfl
    · rw [show 2 * k / 2 = k by omega, show 2 * k % 2 = 0 by omega, h4, h3.1]; rfl
    · rw [show (2 * k + 1) / 2 = k by omega, show (2 * k + 1) % 2 = 1 by omega, h4, h3.2]; rfl
  · rw [List.getElem?_eq_none (by simpa using h), List.getElem?_eq_none (by rw [ints_len, pl_len]; omega)]

set_option maxHeartbeats 1000000 in
theorem sort_any (rs : List (Int × Int)) (base : Nat) (A : Option Addr) (c : Nat) (w : World) (hown : w.ownsRow base 57 2 (.slice A rs.length c) rs.length (ints (pl rs))) (hbase : base ≤ w.heap.size) (hm : rs.length ≤ 17592186044416) :
    Calls Try.prog 57 #[.slice A rs.length c, .func (.func 58) #[] #[]] w fun e w' => e = .returned (.tuple #[]) ∧ ∃ rs' : List (Int × Int), rs'.Perm rs ∧ rs'.Pairwise (fun a b => a.1 ≤ b.1) ∧ w'.ownsRow base 57 2 (.slice A rs.length c) rs.length (ints (pl rs')) ∧ w.grownBy w' (Value.slice A rs.length c).ownBlock := by
  rcases Nat.eq_zero_or_pos rs.length with h0 | h0
  · have e0 : rs = [] := List.eq_nil_of_length_eq_zero h0
    subst e0
    refine (Try.slices_SortFunc_none (α := Int × Int) A c _ w).mono ?_
    rintro e w' ⟨rfl, rfl⟩
    exact ⟨rfl, [], List.Perm.refl _, List.Pairwise.nil, hown, ⟨rfl, rfl, rfl, Nat.le_refl _, fun _ _ _ => rfl⟩⟩
  · obtain ⟨g, cap, cur, hv, hg, hh, hnc, hcm, hcs, htake⟩ : ∃ g cap cur, (Value.slice A rs.length c) = .slice (some ⟨g, 0, none⟩) rs.length cap ∧ base ≤ g ∧ w.heap[g]? = some (.cells cur 57 (0, 0)) ∧ rs.length ≤ cap ∧ cap ≤ maxLen ∧ cur.size = cap * 2 ∧ cur.toList.take (rs.length * 2) = ints (pl rs) := by
      rcases hown.2 with ⟨_, e⟩ | h
      · omega
      · exact h
    simp only [Value.slice.injEq, true_and] at hv
    obtain ⟨rfl, rfl⟩ := hv
    have hlt : g < w.heap.size := (Array.getElem?_eq_some_iff.1 hh).1
    have hH : Sort.HoldsK encP 2 w g 0 rs.toArray := fun j hj => by
      rw [Sort.size_flatK] at hj
      have hj' : j < rs.length * 2 := by simpa using hj
      refine ⟨?_, ?_⟩
      · rw [Nat.zero_add, Am.cell_of w g j cur _ (0, 0) hh]
        have e1 : cur[j]? = (cur.toList.take (rs.length * 2))[j]? := by rw [List.getElem?_take, if_pos hj', Array.getElem?_toList]
        rw [e1, htake, ← flat_pl, Array.getElem?_toList, Array.getElem?_eq_getElem (by simpa using hj'), getElem!_pos _ j (by simpa using hj')]
        rfl
      · rw [Nat.zero_add]; exact frozen_of_row w g j cur _ hh
    have eg : ∀ args w, (callFunc 58 args).run Try.prog w = .ok (.enter 58 args) w := enters_of Try.func58 (by kernel_rfl) rfl
    have hlen : rs.length < 4611686018427387904 := by omega
    have := Try.slices_SortFunc 2 Try.isAgg57 Try.sizeOf57 encP (fun _ => rfl) (fun x v hv => by simp [encP] at hv; rcases hv with rfl | rfl <;> rfl) (fun x y => Lib.compareInt x.1 y.1) swo_cmp 58 #[] g 0 c rs.toArray w eg (fun _ _ _ _ x y => cmp_clo x y _) hH hlt (by simpa using hlen)
    rw [show rs.toArray.size = rs.length by simp] at this
    refine this.mono ?_
    rintro e w' ⟨rfl, d', n, os, hp, hs, rfl⟩
    obtain ⟨hsz, _, hperm⟩ := hp
    have hsz' : d'.size = rs.length := by simpa using hsz
    have hperm' : d'.toList.Perm rs := by
      have e1 : (d'.extract 0 rs.length) = d' := by rw [← hsz']; exact Array.extract_size
      have e2 : (rs.toArray.extract 0 rs.length) = rs.toArray := by simp
      rw [e1, e2] at hperm
      simpa using hperm
    refine ⟨rfl, d'.toList, hperm', ?_, ?_, ?_⟩
    · rw [List.pairwise_iff_getElem]
      intro i j hi hj hij
      have := hs i j (Nat.zero_le _) hij (by simpa [hsz'] using hj)
      rw [lt_cmp] at this
      simp at hi hj
      simp [hi, hj] at this
      simpa using this
    · obtain ⟨F, hF⟩ : ∃ F, Sort.flatK encP 2 d' = F := ⟨_, rfl⟩
      have hFs : F.size = rs.length * 2 := by rw [← hF, Sort.size_flatK, hsz']
      have hFl : F.toList = ints (pl d'.toList) := by
        have := flat_pl d'.toList
        rw [Array.toArray_toList, hF] at this
        exact this
      have hh' : (Go.Proofs.sortWorldK encP 2 w g 0 n d' os).heap[g]? = some (.cells (Sort.putCells id 0 F cur) 57 (0, 0)) := by
        show ((w.heap.modify g (Sort.onCells (Sort.putCells id 0 (Sort.flatK encP 2 d')))) ++ os)[g]? = _
        rw [Array.getElem?_append_left (by simpa using hlt), Array.getElem?_modify, if_pos rfl, hh, hF]
        rfl
      refine ⟨by rw [ints_len, pl_len]; simp [hsz']; omega,   .inr ⟨g, c, _, rfl, hg, hh', hnc, hcm, by simp [Sort.putCells, hcs], ?_⟩⟩
      rw [← hFl]
      refine List.ext_getElem? fun t => ?_
      rw [List.getElem?_take]
      split
      · rename_i ht
        have htc : t < cur.size := by omega
        rw [Array.getElem?_toList, Sort.putCells, Array.getElem?_mapIdx, Array.getElem?_eq_getElem htc, Option.map_some, if_pos ⟨Nat.zero_le _, by omega⟩, Array.getElem?_toList, Array.getElem?_eq_getElem (by omega), Nat.sub_zero, getElem!_pos _ t (by omega)]
        rfl
      · rw [List.getElem?_eq_none (by simp; omega)]
    · refine ⟨rfl, rfl, rfl, ?_, fun k hk hne => ?_⟩
      · show w.heap.size ≤ ((w.heap.modify g _) ++ os).size
        simp
      · show ((w.heap.modify g _) ++ os)[k]? = _
        rw [Array.getElem?_append_left (by simp; omega), Array.getElem?_modify, if_neg (fun e => hne (by simp [Value.ownBlock, e]))]
end Go.Proofs.Ytoglpjgmnojdjaa
