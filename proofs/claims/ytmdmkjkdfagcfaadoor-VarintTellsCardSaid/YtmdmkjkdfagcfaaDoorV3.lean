/- Few; Takes of what is there; slices of slices as equations. Conditions: as each theorem lists them. -/
import Derived.Test.YtmdmkjkdfagcfaaDoorV2
namespace Go.Proofs.YtmdmkjkdfagcfaaDoor
open Go Go.RowKit

set_option maxHeartbeats 1000000 in
theorem few_any (bs : List Nat) (B : Nat) (A : Option Addr) (cap n : Nat) (w : World) (hx : Rd w B A bs.length (bv bs)) (hB : B ≤ w.heap.size) (hn : bs.length ≤ cap) (hm : bs.length ≤ 140737488355328) :
    Calls Tryd.prog 14 #[.slice A bs.length cap, .int .i64 (n : Int)] w fun e w' => ∃ v', e = .returned v' ∧ w'.ownsRow w.heap.size 5 1 v' (bs.take n).length (bv (bs.take n)) ∧ Below w.heap.size w w' := by
  have HX := Lib.hid hx
  obtain ⟨i0, hi, hz0, hz1, hz2⟩ := info_parts info5
  have HI := Lib.hid (And.intro hi (And.intro hz0 (And.intro hz1 hz2)))
  clear hx hi hz0 hz1 hz2
  by_cases hl : n < bs.length
  · have hli : (n : Int) < (bs.length : Int) := by omega
    have hlen : (bs.take n).length = n := by rw [List.length_take]; omega
    obtain ⟨b, off, hA, _, _⟩ := HX.out.2 (by omega)
    subst hA
    have HH : Hid (Rd w B (some ⟨b, off, none⟩) n (bv (bs.take n))) := by
      have := HX.out.head n (by omega)
      rw [show (bv bs).take n = bv (bs.take n) by simp [bv]] at this
      exact this
    have HL := Lib.hid hlen
    rw [hlen]
    clear hlen
    have hnc : (n : Int) ≤ (cap : Int) := by omega
    go_enter Tryd.func14, Tryd.ntmps14
    go_wp2_with (at_builtin; refine wpList_app _ rfl _ _ 22 rfl w.heap.size 5 i0 (.int .u8 0) 1 Tryd.underlying22 HI.out.1 HI.out.2.1 HI.out.2.2.1 HI.out.2.2.2 rfl (.slice (some ⟨w.heap.size, 0, none⟩) 0 0) 0 [] rfl (own_new w #[] 5 0 w.heap.size w.heap.size rfl rfl (by unfold maxLen; omega) (Nat.le_refl _)) B (some ⟨b, off, none⟩) n cap (bv (bs.take n)) rfl (HH.out.below ((Below.refl _ _).alloc (Nat.le_refl _) _) hB) (ones_bv _) (by unfold maxLen; omega) (by omega) (by simp) ?_)
    intro v1 w1 hown1 hgrow1
    have HB1 : Hid (Below w.heap.size w w1) := ((Below.refl _ _).alloc (Nat.le_refl _) _).grown hgrow1 (by simp) (fun j hj => by simp [Value.ownBlock] at hj; omega)
    try simp only [Nat.zero_add, List.nil_append] at hown1
    have HO := Lib.hid hown1
    clear hown1 hgrow1
    go_wp2
    go_ret
    exact ⟨_, rfl, HO.out, HB1.out⟩
  · have hli : ¬ (n : Int) < (bs.length : Int) := by omega
    have hd : decide (n < bs.length) = false := by simpa using hl
    have ht : bs.take n = bs := List.take_of_length_le (by omega)
    rw [ht]
    clear ht
    go_enter Tryd.func14, Tryd.ntmps14
    go_wp2_with (at_builtin; refine wpList_app _ rfl _ _ 22 rfl w.heap.size 5 i0 (.int .u8 0) 1 Tryd.underlying22 HI.out.1 HI.out.2.1 HI.out.2.2.1 HI.out.2.2.2 rfl (.slice (some ⟨w.heap.size, 0, none⟩) 0 0) 0 [] rfl (own_new w #[] 5 0 w.heap.size w.heap.size rfl rfl (by unfold maxLen; omega) (Nat.le_refl _)) B A bs.length cap (bv bs) rfl (HX.out.below ((Below.refl _ _).alloc (Nat.le_refl _) _) hB) (ones_bv _) (by unfold maxLen; omega) (by omega) (by simp) ?_)
    intro v1 w1 hown1 hgrow1
    have HB1 : Hid (Below w.heap.size w w1) := ((Below.refl _ _).alloc (Nat.le_refl _) _).grown hgrow1 (by simp) (fun j hj => by simp [Value.ownBlock] at hj; omega)
    try simp only [Nat.zero_add, List.nil_append] at hown1
    have HO := Lib.hid hown1
    clear hown1 hgrow1
    go_wp2
    go_ret
    exact ⟨_, rfl, HO.out, HB1.out⟩

theorem takes_yes (bs : List Nat) (A : Option Addr) (cap : Nat) (count : Nat) (l r : List Nat) (w : World) (hd : decs count bs = some (l, r)) (hc8 : count * 8 ≤ 140737488355328) (hx : Rd w w.heap.size A bs.length (bv bs)) (hb : ∀ c ∈ bs, c < 256) (hn : bs.length ≤ cap) (hm : bs.length ≤ 140737488355328) :
    Calls Tryd.prog 10 #[.slice A bs.length cap, .int .i64 (count : Int)] w fun e w' => ∃ v v', e = .returned (.tuple #[v, v', .int .i64 0]) ∧ w'.ownsRow w.heap.size 3 1 v l.length (l.map fun x : Nat => Value.int .i64 (x : Int)) ∧ w'.ownsRow w.heap.size 5 1 v' r.length (bv r) ∧ Below w.heap.size w w' := by
  rcases Nat.eq_zero_or_pos count with h0 | h0
  · subst h0
    simp only [decs, Option.some.injEq, Prod.mk.injEq] at hd
    obtain ⟨rfl, rfl⟩ := hd
    refine (takes_zero bs A cap ((0 : Nat) : Int) w (by simp) hx hm).mono ?_
    rintro e w' ⟨v', rfl, h1, h2⟩
    exact ⟨_, v', rfl, ⟨rfl, .inl ⟨rfl, rfl⟩⟩, h1, h2⟩
  · have := decs_len count bs l r hd
    refine (takes_any bs A cap count w h0 (by omega) hc8 hx hb hn hm).mono ?_
    rintro e w' (⟨h, _⟩ | ⟨l', r', v, v', h, rfl, h1, h2, h3⟩)
    · rw [hd] at h; cases h
    · rw [hd] at h
      simp only [Option.some.injEq, Prod.mk.injEq] at h
      obtain ⟨rfl, rfl⟩ := h
      exact ⟨v, v', rfl, h1, h2, h3⟩
end Go.Proofs.YtmdmkjkdfagcfaaDoor
