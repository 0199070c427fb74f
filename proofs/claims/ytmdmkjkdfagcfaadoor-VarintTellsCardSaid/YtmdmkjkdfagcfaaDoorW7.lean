/- Size, Put and Take as the laws call them. Conditions: as each theorem lists them. -/
import Derived.Test.YtmdmkjkdfagcfaaDoorW6
namespace Go.Proofs.YtmdmkjkdfagcfaaDoor
open Go Go.RowKit

theorem own_form {w : World} {base e n : Nat} {v : Value} {xs : List Value} (h : w.ownsRow base e 1 v n xs) : ∃ A c, v = .slice A n c ∧ n ≤ c ∧ c ≤ maxLen ∧ okA A n c ∧ Rd w w.heap.size A n xs := by
  rcases h.2 with ⟨rfl, rfl⟩ | ⟨g, cap, cur, rfl, _, _, hnc, hcm, _⟩
  · exact ⟨none, 0, rfl, Nat.le_refl _, by unfold maxLen; omega, fun _ => .inl ⟨rfl, rfl⟩, Rd.of_own h⟩
  · exact ⟨_, cap, rfl, hnc, hcm, fun _ => .inr ⟨g, 0, rfl⟩, Rd.of_own h⟩

theorem cell_at (w : World) (v : Value) (t : TypeId) (b : Nat) (hb : b = w.heap.size) : (w.alloc (.cells #[v] t)).cell? ⟨b, 0, none⟩ = some v := by
  subst hb
  exact cell_one_new w v t 0 v rfl

theorem rd_one (w : World) (b : Nat) (x : Int) (hc : w.cell? ⟨b, 0, none⟩ = some (.int .i64 x)) : Rd w (b + 1) (some ⟨b, 0, none⟩) 1 (ints [x]) :=
  ⟨rfl, fun _ => ⟨b, 0, rfl, by omega, fun j u hu => by
    match j, hu with
    | 0, hu =>
      simp [ints] at hu
      subst hu
      exact hc⟩⟩

theorem size_one (x : Int) (b : Nat) (w : World) (hc : w.cell? ⟨b, 0, none⟩ = some (.int .i64 x)) (hx : wid x ≠ 0) :
    Calls Tryd.prog 13 #[.slice (some ⟨b, 0, none⟩) 1 1] w fun e w' => e = .returned (.int .i64 (wid x)) ∧ w = w' := by
  have h := size_any [x] (b + 1) (some ⟨b, 0, none⟩) 1 w (fun h => by cases h) (rd_one w b x hc) (by simp)
  rw [if_pos (show allMay [x] from fun n hn => by simp at hn; subst hn; exact hx)] at h
  have e : sumW [x] = wid x := by simp [sumW]
  rw [e] at h
  exact h

theorem put_one (x : Int) (b : Nat) (w : World) (hc : w.cell? ⟨b, 0, none⟩ = some (.int .i64 x)) (ht : Tabs w) (hx : wid x ≠ 0) :
    Calls Tryd.prog 9 #[.slice none 0 0, .slice (some ⟨b, 0, none⟩) 1 1] w fun e w' => ∃ A c, e = .returned (.slice A (wid x) c) ∧ Below w.heap.size w w' := by
  have e : sumW [x] = wid x := by simp [sumW]
  have h8 := wid_le x
  have h := put_ok none 0 0 [] 0 [x] (b + 1) (some ⟨b, 0, none⟩) 1 w ht ⟨rfl, fun h => by omega⟩ (Nat.zero_le _) (fun u hu => by cases hu)
    (rd_one w b x hc) (World.block_lt_of_cell? w _ hc) (fun h => by cases h) (by simp) (fun n hn => by simp at hn; subst hn; exact hx) (by rw [e]; omega)
  rw [e, Nat.zero_add] at h
  refine h.mono ?_
  rintro e w' ⟨v', rfl, ho, hb'⟩
  obtain ⟨A, c, rfl, _⟩ := own_form ho
  exact ⟨A, c, rfl, hb'⟩

theorem take_yes (bs : List Nat) (B : Nat) (A : Option Addr) (cap : Nat) (w : World) (hx : Rd w B A bs.length (bv bs)) (hB : B ≤ w.heap.size) (hb : ∀ c ∈ bs, c < 256) (hn : bs.length ≤ cap) (hm : bs.length ≤ 140737488355328) (v W : Nat) (hd : dec bs = some (v, W)) :
    Calls Tryd.prog 11 #[.slice A bs.length cap] w fun e w' => ∃ A' c', e = .returned (.tuple #[.int .i64 (v : Int), .slice A' (bs.length - W) c', .int .i64 0]) ∧
      Hid (bs.length - W ≤ c' ∧ okA A' (bs.length - W) c' ∧ Rd w' w'.heap.size A' (bs.length - W) (bv (bs.drop W)) ∧ Below w.heap.size w w') := by
  refine (take_some bs B A cap w hx hB hb hn hm v W hd).mono ?_
  rintro e w' ⟨v', rfl, ho, hb'⟩
  obtain ⟨A', c', rfl, h1, _, h2, h3⟩ := own_form ho
  exact ⟨A', c', rfl, h1, h2, h3, hb'⟩

theorem dec_wid {bs : List Nat} {v W : Nat} (hb : ∀ c ∈ bs, c < 256) (h : dec bs = some (v, W)) : wid (v : Int) ≠ 0 ∧ wid (v : Int) ≤ W := by
  have h0 := dec_lt hb h
  cases bs with
  | nil => cases h
  | cons b0 r =>
    simp only [dec] at h
    split at h
    · cases h
    · rename_i hn
      simp only [Option.some.injEq, Prod.mk.injEq] at h
      obtain ⟨hv, hW⟩ := h
      have h1 := valF_lt b0 (r.take (lenF b0 - 1)) (fun c hc => hb c (by simp [List.mem_of_mem_take hc]))
      have hlen : (r.take (lenF b0 - 1)).length = lenF b0 - 1 := by rw [List.length_take]; omega
      rw [hv, hlen] at h1
      rcases lenF_cases b0 (hb b0 (by simp)) with ⟨_, hl⟩ | ⟨_, hl⟩ | ⟨_, hl⟩ | ⟨_, hl⟩
      all_goals
        rw [hl] at h1 hW
        rw [← hW]
        unfold wid
        simp only [Nat.reduceSub, Nat.reducePow, Nat.reduceMul] at h1
        constructor
        · (repeat' split) <;> omega
        · (repeat' split) <;> omega

theorem wid_mono {x y : Int} (hx : wid x ≠ 0) (hy : wid y ≠ 0) (h : x ≤ y) : wid x ≤ wid y := by
  rcases wid_cases x hx with ⟨h1, h2, h3⟩ | ⟨h1, h2, h3⟩ | ⟨h1, h2, h3⟩ | ⟨h1, h2, h3⟩ <;> rcases wid_cases y hy with ⟨k1, k2, k3⟩ | ⟨k1, k2, k3⟩ | ⟨k1, k2, k3⟩ | ⟨k1, k2, k3⟩ <;> omega
theorem Tabs.alloc {w : World} (h : Tabs w) (o : Obj) : Tabs (w.alloc o) := h.below ((Below.refl _ _).alloc (Nat.le_refl _) _) h.lt
theorem wid_may (n : Int) : wid (mayF n) ≠ 0 := by
  have := mayF_in n
  unfold wid
  (repeat' split) <;> omega
end Go.Proofs.YtmdmkjkdfagcfaaDoor
