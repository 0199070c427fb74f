/- Take. Conditions: as each theorem lists them. -/
import Derived.Test.YtnhkenecogjeaaaDoorV4
namespace Go.Proofs.YtnhkenecogjeaaaDoor
open Go Go.RowKit

theorem dec_le {bs : List Nat} {v W : Nat} (h : dec bs = some (v, W)) : 0 < W ∧ W ≤ bs.length ∧ W ≤ 8 := by
  cases bs with
  | nil => cases h
  | cons b0 r =>
    simp only [dec] at h
    split at h
    · cases h
    · rename_i hn
      simp only [Option.some.injEq, Prod.mk.injEq] at h
      have : 0 < lenF b0 ∧ lenF b0 ≤ 8 := by unfold lenF; (repeat' split) <;> omega
      rw [← h.2]
      simp only [List.length_cons]
      omega

theorem dec_lt {bs : List Nat} {v W : Nat} (hb : ∀ c ∈ bs, c < 256) (h : dec bs = some (v, W)) : v ≤ 4611686018427387903 := by
  cases bs with
  | nil => cases h
  | cons b0 r =>
    simp only [dec] at h
    split at h
    · cases h
    · rename_i hn
      simp only [Option.some.injEq, Prod.mk.injEq] at h
      have h1 := valF_lt b0 (r.take (lenF b0 - 1)) (fun c hc => hb c (by simp [List.mem_of_mem_take hc]))
      have h2 : (r.take (lenF b0 - 1)).length ≤ 7 := by
        have : lenF b0 ≤ 8 := by unfold lenF; (repeat' split) <;> omega
        rw [List.length_take]; omega
      have h3 : 256 ^ (r.take (lenF b0 - 1)).length ≤ 256 ^ 7 := Nat.pow_le_pow_right (by decide) h2
      rw [← h.1]
      omega


set_option maxHeartbeats 1000000 in
theorem take_none (bs : List Nat) (B : Nat) (A : Option Addr) (cap : Nat) (w : World) (hx : Rd w B A bs.length (bv bs)) (hb : ∀ c ∈ bs, c < 256) (hn : bs.length ≤ cap) (hm : bs.length ≤ 140737488355328) (hd : dec bs = none) :
    Calls Tryd.prog 46 #[.slice A bs.length cap] w fun e w' => e = .returned (.tuple #[.int .i64 0, .slice none 0 0, .int .i64 3]) ∧ w = w' := by
  have H := read_any bs B A cap w hx hb hn hm
  rw [hd] at H
  have H := Lib.hid H
  clear hx hb hn hd
  go_enter Tryd.func46, Tryd.ntmps46
  go_wp2_with (go_at_call 51; refine H.out.mono ?_; rintro e w' ⟨rfl, rfl⟩)
  go_ret3
  exact ⟨rfl, rfl⟩

set_option maxHeartbeats 1000000 in
theorem take_some (bs : List Nat) (B : Nat) (A : Option Addr) (cap : Nat) (w : World) (hx : Rd w B A bs.length (bv bs)) (hB : B ≤ w.heap.size) (hb : ∀ c ∈ bs, c < 256) (hn : bs.length ≤ cap) (hm : bs.length ≤ 140737488355328) (v W : Nat) (hd : dec bs = some (v, W)) :
    Calls Tryd.prog 46 #[.slice A bs.length cap] w fun e w' => ∃ v', e = .returned (.tuple #[.int .i64 (v : Int), v', .int .i64 0]) ∧ w'.ownsRow w.heap.size 5 1 v' (bs.length - W) (bv (bs.drop W)) ∧ Below w.heap.size w w' := by
  have H := read_any bs B A cap w hx hb hn hm
  rw [hd] at H
  have H := Lib.hid H
  obtain ⟨hW0, hWn, hW8⟩ := dec_le hd
  obtain ⟨b, off, rfl, _, _⟩ := hx.2 (by omega)
  have HF : Hid (∀ A' c', A' = some ⟨b, off, none⟩ ∨ A' = some ⟨b, off + W, none⟩ → (A' = some ⟨b, off, none⟩ → bs.length = W) → Calls Tryd.prog 52 #[.slice A' (bs.length - W) c'] w fun e w' => ∃ v', e = .returned v' ∧ w'.ownsRow w.heap.size 5 1 v' (bs.length - W) (bv (bs.drop W)) ∧ Below w.heap.size w w') := by
    intro A' c' hA' hz
    have hr := hx.tail' W hWn
    rw [bv_drop] at hr
    refine fresh_any A' (bs.length - W) c' (bv (bs.drop W)) B w ?_ hB (ones_bv _) (by omega)
    rcases hA' with rfl | rfl
    · exact ⟨hr.1, fun h => by have := hz rfl; omega⟩
    · exact hr
  have hw0 : ((W : Int) == 0) = false := by simp; omega
  have hwn : (W : Int) ≤ (bs.length : Int) := by omega
  have hwc : (W : Int) ≤ (cap : Int) := by omega
  clear hx hb hd
  by_cases hcap : cap = W
  · have hlen : bs.length = W := by omega
    have he : bs.length - W = 0 := by omega
    have HF' := HF.out (some ⟨b, off, none⟩) 0 (.inl rfl) (fun _ => hlen)
    rw [he] at HF' ⊢
    have HF' := Lib.hid HF'
    clear hlen HF he
    subst hcap
    go_enter Tryd.func46, Tryd.ntmps46
    go_wp2_with (first | (go_at_call 51; refine H.out.mono ?_; rintro e w' ⟨rfl, rfl⟩) | (go_at_call 52; refine HF'.out.mono ?_; rintro e w' ⟨v', rfl, ho, hb'⟩; have HO := Lib.hid (And.intro ho hb'); clear ho hb'))
    go_ret3
    exact ⟨_, rfl, HO.out⟩
  · have hcn : ¬ ((cap : Int) = W) := by omega
    have HF' := Lib.hid (HF.out (some ⟨b, off + W, none⟩) (cap - W) (.inr rfl) (fun e => by simp at e))
    clear HF
    go_enter Tryd.func46, Tryd.ntmps46
    go_wp2_with (first | (go_at_call 51; refine H.out.mono ?_; rintro e w' ⟨rfl, rfl⟩) | (go_at_call 52; refine HF'.out.mono ?_; rintro e w' ⟨v', rfl, ho, hb'⟩; have HO := Lib.hid (And.intro ho hb'); clear ho hb'))
    go_ret3
    exact ⟨_, rfl, HO.out⟩
end Go.Proofs.YtnhkenecogjeaaaDoor
