/- Open, the program's and the reference's, of whatever bytes: one form for both. Conditions: as each theorem lists them. -/
import Derived.Test.YtegfaecbealnhabR4
namespace Go.Proofs.Ytegfaecbealnhab
open Go Go.RowKit

/-- What Open tells beside its bool. -/
def ansF (key : Nat) (num : Int) (head sealed : List Nat) : List Nat := if openB key num head sealed = true then maskN (stpN key (unN num)) (sealed.take (sealed.length - 8)) else []

/-- A call that answers so. -/
def Ans (key : Nat) (num : Int) (head l : List Nat) (w : World) (e : Ending) (w' : World) : Prop :=
  ∃ v', e = .returned (.tuple #[v', .bool (openB key num head l)]) ∧ IsPart w' w'.heap.size v' (ansF key num head l) ∧ Below w.heap.size w w'

theorem nil_part (W : World) (B : Nat) : IsPart W B (.slice none 0 0) [] := ⟨none, 0, rfl, Rd.nil _ _ _, Nat.le_refl _, by simp, fun c hc => by cases hc⟩

theorem ans_short (key : Nat) (num : Int) (head l : List Nat) (w w' : World) (hn : l.length < 8) (hb : Below w.heap.size w w') : Ans key num head l w (.returned (.tuple #[.slice none 0 0, .bool false])) w' := by
  have h : openB key num head l = false := by unfold openB; rw [decide_eq_false]; omega
  refine ⟨_, by rw [h], ?_, hb⟩
  unfold ansF
  rw [h]
  exact nil_part _ _
theorem ans_long (key : Nat) (num : Int) (head l : List Nat) (w w' : World) (n : Nat) (v' : Value) (hn : l.length = n + 8) (hl : ∀ c ∈ l, c < 256) (hm : l.length ≤ 140737488355328) (h1 : openB key num head l = true → w'.ownsRow w.heap.size 5 1 v' n (bv (maskN (stpN key (unN num)) (l.take n)))) (h2 : openB key num head l = false → v' = .slice none 0 0) (hb : Below w.heap.size w w') :
    Ans key num head l w (.returned (.tuple #[v', .bool (openB key num head l)])) w' := by
  refine ⟨v', rfl, ?_, hb⟩
  unfold ansF
  by_cases h : openB key num head l = true
  · rw [if_pos h, hn, show n + 8 - 8 = n by omega]
    exact IsPart.of_own (h1 h) (by rw [maskN_len, List.length_take]; omega) (maskN_lt _ _ (fun c hc => hl c (List.mem_of_mem_take hc)))
  · rw [if_neg h, h2 (by simpa using h)]
    exact nil_part _ _

theorem open_ans (key : Nat) (num : Int) (head l : List Nat) (vh vs : Value) (B : Nat) (w : World) (hk : key < 2 ^ 64) (hh : IsPart w B vh head) (hs : IsPart w B vs l) (hB : B ≤ w.heap.size) :
    Calls Try.prog 38 #[.int .u64 (key : Int), .int .i64 num, vh, vs] w (Ans key num head l w) := by
  have hs' := hs
  obtain ⟨A, c, rfl, _, _, hm, hl⟩ := hs'
  rcases Nat.lt_or_ge l.length 8 with h | h
  · refine (open_short key num vh l.length A c w h).mono ?_
    rintro e w' ⟨rfl, rfl⟩
    exact ans_short key num head l w w h (Below.refl _ _)
  · refine (open_long key num head l vh _ B w hk hh hs hB (l.length - 8) (by omega)).mono ?_
    rintro e w' ⟨v', rfl, h1, h2, h3⟩
    exact ans_long key num head l w w' (l.length - 8) v' (by omega) hl hm h1 h2 h3
theorem ropen_ans (key : Nat) (num : Int) (head l : List Nat) (vh vs : Value) (B : Nat) (w : World) (hk : key < 2 ^ 64) (hh : IsPart w B vh head) (hs : IsPart w B vs l) (hB : B ≤ w.heap.size) :
    Calls Try.prog 47 #[.int .u64 (key : Int), .int .i64 num, vh, vs] w (Ans key num head l w) := by
  have hs' := hs
  obtain ⟨A, c, rfl, _, _, hm, hl⟩ := hs'
  rcases Nat.lt_or_ge l.length 8 with h | h
  · refine (ropen_short key num vh l.length A c w h).mono ?_
    rintro e w' ⟨rfl, hb⟩
    exact ans_short key num head l w w' h hb
  · refine (ropen_long key num head l vh _ B w hk hh hs hB (l.length - 8) (by omega)).mono ?_
    rintro e w' ⟨v', rfl, h1, h2, h3⟩
    exact ans_long key num head l w w' (l.length - 8) v' (by omega) hl hm h1 h2 h3
end Go.Proofs.Ytegfaecbealnhab
