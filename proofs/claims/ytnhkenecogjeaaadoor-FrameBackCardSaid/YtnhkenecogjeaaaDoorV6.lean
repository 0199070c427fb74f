/- Size, Put and Take as they are called; what is laid is read again. Conditions: as each theorem lists them. -/
import Derived.Test.YtnhkenecogjeaaaDoorV5
namespace Go.Proofs.YtnhkenecogjeaaaDoor
open Go Go.RowKit

theorem rd_one (w : World) (b : Nat) (x : Int) (hc : w.cell? ⟨b, 0, none⟩ = some (.int .i64 x)) : Rd w (b + 1) (some ⟨b, 0, none⟩) 1 (ints [x]) :=
  ⟨rfl, fun _ => ⟨b, 0, rfl, by omega, fun j u hu => by
    match j, hu with
    | 0, hu =>
      simp [ints] at hu
      subst hu
      exact hc⟩⟩

theorem size_one (x : Int) (b : Nat) (w : World) (hc : w.cell? ⟨b, 0, none⟩ = some (.int .i64 x)) (hx : wid x ≠ 0) :
    Calls Tryd.prog 21 #[.slice (some ⟨b, 0, none⟩) 1 1] w fun e w' => e = .returned (.int .i64 (wid x)) ∧ w = w' := by
  have h := size_any [x] (b + 1) (some ⟨b, 0, none⟩) 1 w (fun h => by cases h) (rd_one w b x hc) (by simp)
  rw [if_pos (show allMay [x] from fun n hn => by simp at hn; subst hn; exact hx)] at h
  have e : sumW [x] = wid x := by simp [sumW]
  rw [e] at h
  exact h

theorem put_one (x : Int) (b : Nat) (w : World) (hc : w.cell? ⟨b, 0, none⟩ = some (.int .i64 x)) (ht : Tabs w) (hx : wid x ≠ 0) :
    Calls Tryd.prog 16 #[.slice none 0 0, .slice (some ⟨b, 0, none⟩) 1 1] w fun e w' => ∃ A c, e = .returned (.slice A (wid x) c) ∧ Below w.heap.size w w' := by
  have e : sumW [x] = wid x := by simp [sumW]
  have h8 := wid_le x
  have h := put_ok none 0 0 [] 0 [x] (b + 1) (some ⟨b, 0, none⟩) 1 w ht ⟨rfl, fun h => by omega⟩ (Nat.zero_le _) (fun u hu => by cases hu)
    (rd_one w b x hc) (World.block_lt_of_cell? w _ hc) (fun h => by cases h) (by simp) (fun n hn => by simp at hn; subst hn; exact hx) (by rw [e]; omega)
  rw [e, Nat.zero_add] at h
  refine h.mono ?_
  rintro e w' ⟨v', rfl, ho, hb'⟩
  obtain ⟨A, c, rfl, _⟩ := own_form ho
  exact ⟨A, c, rfl, hb'⟩

theorem take_yes (bs : List Nat) (B : Nat) (A : Option Addr) (cap : Nat) (w : World) (hx : Rd w B A bs.length (bv bs)) (hB : B ≤ w.heap.size) (hb : ∀ c ∈ bs, c < 256) (hn : bs.length ≤ cap) (hm : bs.length ≤ 140737488355328) (v W : Nat) (hd : dec bs = some (v, W)) :
    Calls Tryd.prog 46 #[.slice A bs.length cap] w fun e w' => ∃ A' c', e = .returned (.tuple #[.int .i64 (v : Int), .slice A' (bs.length - W) c', .int .i64 0]) ∧
      Hid (bs.length - W ≤ c' ∧ okA A' (bs.length - W) c' ∧ Rd w' w'.heap.size A' (bs.length - W) (bv (bs.drop W)) ∧ Below w.heap.size w w') := by
  refine (take_some bs B A cap w hx hB hb hn hm v W hd).mono ?_
  rintro e w' ⟨v', rfl, ho, hb'⟩
  obtain ⟨A', c', rfl, h1, _, h2, h3⟩ := own_form ho
  rw [Nat.mul_one] at h3
  exact ⟨A', c', rfl, h1, h2, h3, hb'⟩

theorem dec_wid {bs : List Nat} {v W : Nat} (hb : ∀ c ∈ bs, c < 256) (h : dec bs = some (v, W)) : wid (v : Int) ≠ 0 ∧ wid (v : Int) ≤ W := by
  have h0 := dec_lt hb h
  cases bs with
  | nil => cases h
  | cons b0 r =>
    simp only [dec] at h
    split at h
    · cases h
    · rename_i hn
      simp only [Option.some.injEq, Prod.mk.injEq] at h
      obtain ⟨hv, hW⟩ := h
      have h1 := valF_lt b0 (r.take (lenF b0 - 1)) (fun c hc => hb c (by simp [List.mem_of_mem_take hc]))
      have hlen : (r.take (lenF b0 - 1)).length = lenF b0 - 1 := by rw [List.length_take]; omega
      rw [hv, hlen] at h1
      rcases lenF_cases b0 (hb b0 (by simp)) with ⟨_, hl⟩ | ⟨_, hl⟩ | ⟨_, hl⟩ | ⟨_, hl⟩
      all_goals
        rw [hl] at h1 hW
        rw [← hW]
        unfold wid
        simp only [Nat.reduceSub, Nat.reducePow, Nat.reduceMul] at h1
        constructor
        · (repeat' split) <;> omega
        · (repeat' split) <;> omega

theorem wid_mono {x y : Int} (hx : wid x ≠ 0) (hy : wid y ≠ 0) (h : x ≤ y) : wid x ≤ wid y := by
  rcases wid_cases x hx with ⟨h1, h2, h3⟩ | ⟨h1, h2, h3⟩ | ⟨h1, h2, h3⟩ | ⟨h1, h2, h3⟩ <;> rcases wid_cases y hy with ⟨k1, k2, k3⟩ | ⟨k1, k2, k3⟩ | ⟨k1, k2, k3⟩ | ⟨k1, k2, k3⟩ <;> omega
theorem Tabs.alloc {w : World} (h : Tabs w) (o : Obj) : Tabs (w.alloc o) := h.below ((Below.refl _ _).alloc (Nat.le_refl _) _) h.lt
theorem wid_may (n : Int) : wid (mayF n) ≠ 0 := by
  have := mayF_in n
  unfold wid
  (repeat' split) <;> omega
/-- A number's bytes, the highest first. -/
def encB (n : Int) : List Nat := (List.range (wid n)).map fun j => laidN n / 2 ^ (8 * (wid n - 1 - j)) % 256
theorem encB_len (n : Int) : (encB n).length = wid n := by simp [encB]
theorem encB_lt (n : Int) : ∀ c ∈ encB n, c < 256 := fun c hc => by
  simp only [encB, List.mem_map] at hc
  obtain ⟨j, _, rfl⟩ := hc
  exact Nat.mod_lt _ (by decide)
theorem encV_bv (n : Int) : encV n = bv (encB n) := by
  unfold encV encL bv encB
  rw [List.map_map]
  refine List.map_congr_left fun j _ => ?_
  simp only [Function.comp, byt]
  congr 1

theorem dig (m k : Nat) : m / 2 ^ (k + 8) * 256 + m / 2 ^ k % 256 = m / 2 ^ k := by
  rw [Nat.pow_add, ← Nat.div_div_eq_div_mul]
  exact Nat.div_add_mod' _ _
theorem ldig (m k t : Nat) : (m + t * 256 * 2 ^ k) / 2 ^ k % 256 = m / 2 ^ k % 256 := by
  rw [Nat.add_mul_div_right _ _ (Nat.two_pow_pos k)]; omega

theorem dec_enc1 (m : Nat) (hw : wid (m : Int) = 1) (h1 : 0 ≤ (m : Int)) (h2 : (m : Int) < 64) (r : List Nat) : dec (encB m ++ r) = some (m, 1) := by
  have hL : laidN (m : Int) = m := by simp [laidN, hw]
  have hb : lenF (m % 256) = 1 := by unfold lenF; (repeat' split) <;> omega
  simp only [encB, hw, hL, List.range_succ, List.range_zero, List.nil_append, List.map_cons, List.map_nil, List.cons_append, Nat.sub_self, Nat.mul_zero, Nat.pow_zero, Nat.div_one, dec, hb]
  rw [if_neg (by omega)]
  simp [valF]
  omega

theorem dec_enc2 (m : Nat) (hw : wid (m : Int) = 2) (h1 : 64 ≤ (m : Int)) (h2 : (m : Int) < 16384) (r : List Nat) : dec (encB m ++ r) = some (m, 2) := by
  have hL : laidN (m : Int) = m + 2 ^ 14 := by simp [laidN, hw]
  have hb : lenF ((m + 2 ^ 14) / 2 ^ 8 % 256) = 2 := by unfold lenF; (repeat' split) <;> omega
  simp only [encB, hw, hL, List.range_succ, List.range_zero, List.nil_append, List.map_cons, List.map_nil, List.cons_append, List.append_assoc, Nat.sub_self, Nat.mul_zero, Nat.pow_zero, Nat.div_one, Nat.reduceSub, Nat.reduceMul, dec, hb, List.length_cons]
  rw [if_neg (by omega)]
  simp [valF]
  omega

theorem dec_enc4 (m : Nat) (hw : wid (m : Int) = 4) (h1 : 16384 ≤ (m : Int)) (h2 : (m : Int) < 1073741824) (r : List Nat) : dec (encB m ++ r) = some (m, 4) := by
  have hL : laidN (m : Int) = m + 2 ^ 31 := by simp [laidN, hw]
  have htop : (m + 2 ^ 31) / 2 ^ 24 % 256 = m / 2 ^ 24 + 128 := by omega
  have hb : lenF (m / 2 ^ 24 + 128) = 4 := by unfold lenF; (repeat' split) <;> omega
  have h64 : (m / 2 ^ 24 + 128) % 64 = m / 2 ^ 24 := by omega
  have e : encB (m : Int) = [m / 2 ^ 24 + 128, m / 2 ^ 16 % 256, m / 2 ^ 8 % 256, m / 2 ^ 0 % 256] := by
    have h2 := ldig m 16 (2 ^ 7)
    have h1 := ldig m 8 (2 ^ 15)
    have h0 := ldig m 0 (2 ^ 23)
    have r2 : 2 ^ 7 * 256 * 2 ^ 16 = 2 ^ 31 := by decide
    have r1 : 2 ^ 15 * 256 * 2 ^ 8 = 2 ^ 31 := by decide
    have r0 : 2 ^ 23 * 256 * 2 ^ 0 = 2 ^ 31 := by decide
    rw [r2] at h2
    rw [r1] at h1
    rw [r0] at h0
    have er : List.range 4 = [0, 1, 2, 3] := by decide
    unfold encB
    rw [hw, hL, er]
    show [(m + 2 ^ 31) / 2 ^ 24 % 256, (m + 2 ^ 31) / 2 ^ 16 % 256, (m + 2 ^ 31) / 2 ^ 8 % 256, (m + 2 ^ 31) / 2 ^ 0 % 256] = _
    rw [htop, h2, h1, h0]
  rw [e]
  show dec ((m / 2 ^ 24 + 128) :: ([m / 2 ^ 16 % 256, m / 2 ^ 8 % 256, m / 2 ^ 0 % 256] ++ r)) = _
  simp only [dec, hb]
  rw [if_neg (by simp only [List.length_append, List.length_cons, List.length_nil]; omega)]
  have et : ([m / 2 ^ 16 % 256, m / 2 ^ 8 % 256, m / 2 ^ 0 % 256] ++ r).take (4 - 1) = [m / 2 ^ 16 % 256, m / 2 ^ 8 % 256, m / 2 ^ 0 % 256] := rfl
  rw [et]
  simp only [valF, List.foldl_cons, List.foldl_nil, h64]
  rw [dig m 16, dig m 8, dig m 0, Nat.pow_zero, Nat.div_one]

theorem dec_enc8 (m : Nat) (hw : wid (m : Int) = 8) (h1 : 1073741824 ≤ (m : Int)) (h2 : (m : Int) ≤ 4611686018427387903) (r : List Nat) : dec (encB m ++ r) = some (m, 8) := by
  have hL : laidN (m : Int) = m + 3 * 2 ^ 62 := by simp [laidN, hw]
  have hm62 : m < 2 ^ 62 := by omega
  have htop : (m + 3 * 2 ^ 62) / 2 ^ 56 % 256 = m / 2 ^ 56 + 192 := by omega
  have hb : lenF (m / 2 ^ 56 + 192) = 8 := by unfold lenF; (repeat' split) <;> omega
  have h64 : (m / 2 ^ 56 + 192) % 64 = m / 2 ^ 56 := by omega
  have e : encB (m : Int) = [m / 2 ^ 56 + 192, m / 2 ^ 48 % 256, m / 2 ^ 40 % 256, m / 2 ^ 32 % 256, m / 2 ^ 24 % 256, m / 2 ^ 16 % 256, m / 2 ^ 8 % 256, m / 2 ^ 0 % 256] := by
    have h6 := ldig m 48 (3 * 2 ^ 6)
    have h5 := ldig m 40 (3 * 2 ^ 14)
    have h4 := ldig m 32 (3 * 2 ^ 22)
    have h3 := ldig m 24 (3 * 2 ^ 30)
    have h2 := ldig m 16 (3 * 2 ^ 38)
    have h1 := ldig m 8 (3 * 2 ^ 46)
    have h0 := ldig m 0 (3 * 2 ^ 54)
    have r6 : 3 * 2 ^ 6 * 256 * 2 ^ 48 = 3 * 2 ^ 62 := by decide
    have r5 : 3 * 2 ^ 14 * 256 * 2 ^ 40 = 3 * 2 ^ 62 := by decide
    have r4 : 3 * 2 ^ 22 * 256 * 2 ^ 32 = 3 * 2 ^ 62 := by decide
    have r3 : 3 * 2 ^ 30 * 256 * 2 ^ 24 = 3 * 2 ^ 62 := by decide
    have r2 : 3 * 2 ^ 38 * 256 * 2 ^ 16 = 3 * 2 ^ 62 := by decide
    have r1 : 3 * 2 ^ 46 * 256 * 2 ^ 8 = 3 * 2 ^ 62 := by decide
    have r0 : 3 * 2 ^ 54 * 256 * 2 ^ 0 = 3 * 2 ^ 62 := by decide
    rw [r6] at h6
    rw [r5] at h5
    rw [r4] at h4
    rw [r3] at h3
    rw [r2] at h2
    rw [r1] at h1
    rw [r0] at h0
    have er : List.range 8 = [0, 1, 2, 3, 4, 5, 6, 7] := by decide
    unfold encB
    rw [hw, hL, er]
    show [(m + 3 * 2 ^ 62) / 2 ^ 56 % 256, (m + 3 * 2 ^ 62) / 2 ^ 48 % 256, (m + 3 * 2 ^ 62) / 2 ^ 40 % 256, (m + 3 * 2 ^ 62) / 2 ^ 32 % 256, (m + 3 * 2 ^ 62) / 2 ^ 24 % 256, (m + 3 * 2 ^ 62) / 2 ^ 16 % 256, (m + 3 * 2 ^ 62) / 2 ^ 8 % 256, (m + 3 * 2 ^ 62) / 2 ^ 0 % 256] = _
    rw [htop, h6, h5, h4, h3, h2, h1, h0]
  rw [e]
  show dec ((m / 2 ^ 56 + 192) :: ([m / 2 ^ 48 % 256, m / 2 ^ 40 % 256, m / 2 ^ 32 % 256, m / 2 ^ 24 % 256, m / 2 ^ 16 % 256, m / 2 ^ 8 % 256, m / 2 ^ 0 % 256] ++ r)) = _
  simp only [dec, hb]
  rw [if_neg (by simp only [List.length_append, List.length_cons, List.length_nil]; omega)]
  have et : ([m / 2 ^ 48 % 256, m / 2 ^ 40 % 256, m / 2 ^ 32 % 256, m / 2 ^ 24 % 256, m / 2 ^ 16 % 256, m / 2 ^ 8 % 256, m / 2 ^ 0 % 256] ++ r).take (8 - 1) = [m / 2 ^ 48 % 256, m / 2 ^ 40 % 256, m / 2 ^ 32 % 256, m / 2 ^ 24 % 256, m / 2 ^ 16 % 256, m / 2 ^ 8 % 256, m / 2 ^ 0 % 256] := rfl
  rw [et]
  simp only [valF, List.foldl_cons, List.foldl_nil, h64]
  rw [dig m 48, dig m 40, dig m 32, dig m 24, dig m 16, dig m 8, dig m 0, Nat.pow_zero, Nat.div_one]

theorem dec_enc (n : Int) (h : wid n ≠ 0) (r : List Nat) : dec (encB n ++ r) = some (n.toNat, wid n) := by
  obtain ⟨m, hm⟩ : ∃ m : Nat, n = m := ⟨n.toNat, by have := wid_cases n h; omega⟩
  subst hm
  rcases wid_cases (m : Int) h with ⟨hw, h1, h2⟩ | ⟨hw, h1, h2⟩ | ⟨hw, h1, h2⟩ | ⟨hw, h1, h2⟩
  · rw [hw]; exact dec_enc1 m hw h1 h2 r
  · rw [hw]; exact dec_enc2 m hw h1 h2 r
  · rw [hw]; exact dec_enc4 m hw h1 h2 r
  · rw [hw]; exact dec_enc8 m hw h1 h2 r

def encsB (l : List Int) : List Nat := l.flatMap encB
theorem encs_bv (l : List Int) : encs l = bv (encsB l) := by
  induction l with
  | nil => rfl
  | cons n l ih => simp only [encs, encsB, List.flatMap_cons] at ih ⊢; rw [ih, encV_bv]; simp [bv]
theorem encsB_len (l : List Int) : (encsB l).length = sumW l := by
  have := encs_len l
  rw [encs_bv] at this
  simpa [bv] using this
theorem encsB_lt (l : List Int) : ∀ c ∈ encsB l, c < 256 := fun c hc => by
  simp only [encsB, List.mem_flatMap] at hc
  obtain ⟨n, _, h⟩ := hc
  exact encB_lt n c h

end Go.Proofs.YtnhkenecogjeaaaDoor
