/- The reference's size, Size, and the law's nums. Conditions: as each theorem lists them. -/
import Derived.Test.YtmdmkjkdfagcfaaDoorV3
namespace Go.Proofs.YtmdmkjkdfagcfaaDoor
open Go Go.RowKit

def numt (l : List Int) (k : Nat) : List Int := (l.take k).map numF
theorem numt_snoc (l : List Int) (k : Nat) (h : k < l.length) (x y : Int) (hx : l[k] = x) (hy : numF x = y) : ints (numt l (k + 1)) = ints (numt l k) ++ [.int .i64 y] := by
  unfold numt
  rw [take_snoc' l k h, List.map_append, hx]; simp [hy, ints]
theorem numt_len (l : List Int) (k : Nat) (h : k ≤ l.length) : (numt l k).length = k := by
  unfold numt; rw [List.length_map, List.length_take]; omega
theorem numt_all (l : List Int) (k : Nat) (h : l.length ≤ k) : numt l k = numt l l.length := by
  unfold numt; rw [List.take_of_length_le h, List.take_of_length_le (Nat.le_refl _)]

def NumsP (l : List Int) (w : World) (e : Ending) (w' : World) : Prop := ∃ k A' c', k ≤ 12 ∧ k ≤ l.length ∧ (k = 12 ∨ k = l.length) ∧ e = .returned (.slice A' k c') ∧ w'.ownsRow w.heap.size 3 1 (.slice A' k c') k (ints (numt l k)) ∧ Below w.heap.size w w'

set_option maxHeartbeats 1000000 in
theorem nums_any (l : List Int) (B : Nat) (A : Option Addr) (cap : Nat) (w : World) (hx : Rd w B A l.length (ints l)) (hB : B ≤ w.heap.size) (hlt : ∀ n ∈ l, -9223372036854775808 ≤ n ∧ n ≤ 9223372036854775807) (hreach : l.length * 8 ≤ 140737488351232) :
    Calls Tryd.prog 15 #[.slice A l.length cap] w fun e w' => NumsP l w e w' := by
  have HX := Lib.hid hx
  have HL := Lib.hid hlt
  obtain ⟨i0, hi, hz0, hz1, hz2⟩ := info_parts info3
  have HI3 := Lib.hid (And.intro hi (And.intro hz0 (And.intro hz1 hz2)))
  have hll : (l.length : Int) ≤ 17592186044416 := by omega
  clear hi hz0 hz1 hz2 hx hlt
  go_enter Tryd.func15, Tryd.ntmps15
  go_wp2_with fail
  go_loopw [3, 4] (fun v i wr => ∃ k : Nat, k ≤ l.length ∧ k ≤ 12 ∧ i = .int .i64 k ∧ (∃ Al cl, v = .slice Al k cl) ∧ Hid (wr.ownsRow w.heap.size 3 1 v k (ints (numt l k)) ∧ Below w.heap.size w wr)) (fun _ i _ => 12 - (intOf i).toNat)
  case atStart => exact ⟨0, by omega, by omega, rfl, ⟨_, _, rfl⟩, ⟨rfl, .inl ⟨rfl, rfl⟩⟩, Below.refl _ _⟩
  case round =>
    obtain ⟨k, hk, hk12, rfl, ⟨Al, cl, rfl⟩, HK⟩ := hrel
    by_cases hlt : k < l.length
    · have hltd : decide (k < l.length) = true := by simpa using hlt
      have hlti : (k : Int) < (l.length : Int) := by omega
      by_cases h12 : k < 12
      · have h12i : (k : Int) < 12 := by omega
        obtain ⟨b, off, hA, hbn, hcs⟩ := HX.out.2 (by omega)
        subst hA
        obtain ⟨x, hx⟩ : ∃ x, Hid (l[k] = x) := ⟨l[k], rfl⟩
        have hcell : wr.cell? ⟨b, off + k, none⟩ = some (.int .i64 x) := by
          rw [HK.out.2.cell (p := ⟨b, off + k, none⟩) (Nat.lt_of_lt_of_le hbn hB), hcs k _ (ints_get l k hlt)]
          simp [List.getD, hlt, hx.out]
        have hxb := HL.out _ (List.getElem_mem hlt)
        rw [hx.out] at hxb
        obtain ⟨hx1, hx2⟩ := hxb
        obtain ⟨y, hy⟩ : ∃ y, Hid (numF x = y) := ⟨_, rfl⟩
        have HM : Hid (∀ W, Calls Tryd.prog 26 #[.int .i64 x] W fun e w' => e = .returned (.int .i64 y) ∧ W = w') := fun W => by
          have := num_any x W hx1 hx2
          rwa [hy.out] at this
        have hsn := Lib.hid (numt_snoc l k hlt x y hx.out hy.out)
        clear hcs
        go_wp2_with fail
        refine (HM.out _).mono ?_; rintro e w' ⟨rfl, rfl⟩
        go_wp2_with (at_builtin; refine wpList_append_own _ rfl _ _ 24 rfl w.heap.size 3 i0 (.int .i64 0) 1 8 Tryd.underlying24 HI3.out.1 HI3.out.2.1 HI3.out.2.2.1 HI3.out.2.2.2 rfl (by decide) (.slice Al k cl) k (ints (numt l k)) rfl (HK.out.1.alloc _) ⟨wr.heap.size, 0, none⟩ 1 1 [.int .i64 y] rfl rfl ?c1 ?c2 ?c3 ?c4 ?c5 ?_)
        case c1 => exact cell_one_new _ _ _
        case c2 => simp [Value.oneCell']
        case c3 => unfold maxLen; omega
        case c4 => omega
        case c5 => have := HK.out.2.size; simp only [World.size_alloc]; omega
        intro v1 w1 hown1 hgrow1 _
        have HN : Hid (w1.ownsRow w.heap.size 3 1 v1 (k + 1) (ints (numt l (k + 1))) ∧ Below w.heap.size w w1) := by
          refine ⟨?_, (HK.out.2.alloc HK.out.2.size _).grown hgrow1 (by have := HK.out.2.size; simp only [World.size_alloc]; omega) (fun g hg => (HK.out.1.lt g hg).1)⟩
          rw [hsn.out]; exact hown1
        clear hown1 hgrow1
        obtain ⟨A1, c1, e1, _⟩ := own_form HN.out.1
        subst e1
        go_wp2
        go_roundw
        case rel => exact ⟨k + 1, by omega, by omega, by go_num, ⟨_, _, rfl⟩, HN⟩
        case measure => simp [intOf]; omega
      · have h12i : ¬ (k : Int) < 12 := by omega
        obtain rfl : k = 12 := by omega
        go_wp2
        go_ret
        exact ⟨12, Al, cl, by omega, by omega, .inl rfl, rfl, HK.out.1, HK.out.2⟩
    · have hltd : decide (k < l.length) = false := by simpa using hlt
      have hlti : ¬ (k : Int) < (l.length : Int) := by omega
      go_wp2
      go_ret
      exact ⟨k, Al, cl, by omega, by omega, .inr (by omega), rfl, HK.out.1, HK.out.2⟩

theorem may_t (n : Int) (w : World) (h : wid n ≠ 0) : Calls Tryd.prog 28 #[.int .i64 n] w fun e w' => e = .returned (.bool true) ∧ w = w' := by
  have h2 := may_any n w
  rwa [show mayB n = true by have := wid_cases n h; unfold mayB; simp; omega] at h2
theorem may_f (n : Int) (w : World) (h : wid n = 0) : Calls Tryd.prog 28 #[.int .i64 n] w fun e w' => e = .returned (.bool false) ∧ w = w' := by
  have h2 := may_any n w
  rwa [show mayB n = false by
    unfold wid at h
    split at h
    · rename_i h1; unfold mayB; simp; omega
    · (repeat' split at h) <;> omega] at h2

set_option maxHeartbeats 400000 in
theorem rsize_any (n : Int) (w : World) (h : wid n ≠ 0) :
    Calls Tryd.prog 29 #[.int .i64 n] w fun e w' => e = .returned (.int .i64 ((wid n : Nat) : Int)) ∧ w = w' := by
  have HM := Lib.hid (fun W => may_t n W h)
  rcases wid_cases n h with ⟨hw, h1, h2⟩ | ⟨hw, h1, h2⟩ | ⟨hw, h1, h2⟩ | ⟨hw, h1, h2⟩
  all_goals
    rw [hw]
    clear hw h
    go_enter Tryd.func29, Tryd.ntmps29
    go_wp2_with (go_at_call 28; refine (HM.out _).mono ?_; rintro e w' ⟨rfl, rfl⟩)
    go_ret
    exact ⟨rfl, rfl⟩

set_option maxHeartbeats 1000000 in
theorem rSize_any (l : List Int) (B : Nat) (A : Option Addr) (cap : Nat) (w : World) (hx : Rd w B A l.length (ints l)) (hl : l.length < 1000000000000000) :
    Calls Tryd.prog 17 #[.slice A l.length cap] w fun e w' => e = .returned (.int .i64 (if allMay l then (sumW l : Int) else -1)) ∧ w = w' := by
  have HX := Lib.hid hx
  clear hx
  go_enter Tryd.func17, Tryd.ntmps17
  go_wp2_with fail
  go_loop [3, 4] (fun s i => ∃ k : Nat, k ≤ l.length ∧ i = .int .i64 k ∧ s = .int .i64 (sumW (l.take k)) ∧ Hid (∀ j, j < k → wid (l.getD j 0) ≠ 0)) (fun _ i => l.length - (intOf i).toNat)
  case atStart => exact ⟨0, by omega, rfl, rfl, fun j h => absurd h (by omega)⟩
  case round =>
    obtain ⟨k, hk, rfl, rfl, H⟩ := hrel
    have hs := sumW_le (l.take k)
    have hs2 : (l.take k).length ≤ k := List.length_take_le _ _
    by_cases hlt : k < l.length
    · have hltd : decide (k < l.length) = true := by simpa using hlt
      have hlti : (k : Int) < (l.length : Int) := by omega
      obtain ⟨b, off, hA, hbn, hcs⟩ := HX.out.2 (by omega)
      subst hA
      obtain ⟨x, hx, hcell⟩ : ∃ x, Hid (l[k] = x) ∧ w.cell? ⟨b, off + k, none⟩ = some (.int .i64 x) := ⟨l[k], rfl, by rw [hcs k _ (ints_get l k hlt)]; simp [List.getD, hlt]⟩
      have hxd : Hid (l.getD k 0 = x) := Lib.hid ((show l.getD k 0 = l[k] by simp [List.getD, hlt]).trans hx.out)
      clear hcs
      by_cases hz : wid x = 0
      · have HM := Lib.hid (fun W => may_f x W hz)
        have hno : Hid (¬ allMay l) := fun h => h (l[k]) (List.getElem_mem hlt) (by rw [hx.out]; exact hz)
        clear hz
        go_wp2_with (go_at_call 28; refine (HM.out _).mono ?_; rintro e w' ⟨rfl, rfl⟩)
        go_ret
        exact ⟨by first | rfl | (rw [if_neg hno.out]; rfl), rfl⟩
      · have HM := Lib.hid (fun W => may_t x W hz)
        have HS := Lib.hid (fun W => rsize_any x W hz)
        have hw8 := wid_le x
        have hsn : Hid (sumW (l.take (k + 1)) = sumW (l.take k) + wid x) := by rw [take_snoc' l k hlt, sumW_snoc, hx.out]; exact rfl
        have H2 : Hid (∀ j, j < k + 1 → wid (l.getD j 0) ≠ 0) := fun j hj => by
          rcases Nat.lt_or_ge j k with h1 | h1
          · exact H.out j h1
          · obtain rfl : j = k := by omega
            rw [hxd.out]; exact hz
        clear hz
        go_wp2_with (first | (go_at_call 28; refine (HM.out _).mono ?_; rintro e w' ⟨rfl, rfl⟩) | (go_at_call 29; refine (HS.out _).mono ?_; rintro e w' ⟨rfl, rfl⟩))
        go_round
        case rel => exact ⟨k + 1, by omega, by go_num, by rw [hsn.out]; go_num, H2⟩
        case measure => simp [intOf]; omega
    · have hltd : decide (k < l.length) = false := by simpa using hlt
      have hall : Hid (allMay l) := fun n hn => by
        obtain ⟨j, hj, rfl⟩ := List.mem_iff_getElem.1 hn
        have := H.out j (by omega)
        simpa [List.getD, hj] using this
      have ht : l.take k = l := List.take_of_length_le (by omega)
      rw [ht]
      clear ht
      go_wp2
      go_ret
      exact ⟨by first | rfl | (rw [if_pos hall.out]; rfl), rfl⟩
end Go.Proofs.YtmdmkjkdfagcfaaDoor
