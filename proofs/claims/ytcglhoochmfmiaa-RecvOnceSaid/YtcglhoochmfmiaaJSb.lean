/- below, upTo, Has, First, All of package spans (laid by ak/port2.py). Conditions: as each theorem lists them. -/
import Derived.Test.YtcglhoochmfmiaaJSa
import Derived.Test.YtcglhoochmfmiaaJSh
set_option linter.unusedSimpArgs false
set_option linter.unusedVariables false

namespace Go.Proofs.Ytcglhoochmfmiaa.Sp
open Go Go.RowKit

theorem bs_any (es : List Int) (B : Nat) (A : Option Addr) (c : Nat) (x : Int) (w : World) (hx : Rd w B A es.length (ints es)) (hs : es.Pairwise (· < ·)) (hm : es.length * 8 ≤ 140737488355328) :
    Calls Try.prog 115 #[.slice A es.length c, .int .i64 x] w fun e w' => e = .returned (.tuple #[.int .i64 ((lo es x : Nat) : Int), .bool (es.contains x)]) ∧ ∃ q, w' = w.drewN q := by
  rcases Nat.eq_zero_or_pos es.length with h0 | h0
  · have e0 : es = [] := List.eq_nil_of_length_eq_zero h0
    subst e0
    refine (Try.slices_BinarySearch_int_empty A c x w).mono ?_
    rintro e w' ⟨rfl, rfl⟩
    exact ⟨rfl, 0, rfl⟩
  · obtain ⟨b, off, rfl, _, hc⟩ := hx.2 h0
    have := Try.slices_BinarySearch_int b off es.length c es x w (Nat.le_refl _) (by omega) (fun j hj => hc j _ (ints_get es j hj)) (by rw [List.take_length]; exact hs.imp fun h => Int.le_of_lt h)
    rw [List.take_length] at this
    exact this

/-- A set in a variable at block p. -/
def SetAt (w : World) (B p o : Nat) (es : List Int) (A : Option Addr) (c : Nat) : Prop :=
  Ok es ∧ es.length * 8 ≤ 140737488355328 ∧ es.length ≤ c ∧ okA A es.length c ∧ Rd w B A es.length (ints es) ∧ B ≤ w.heap.size ∧ w.cell? ⟨p, o, none⟩ = some (.slice A es.length c)

set_option maxHeartbeats 1000000 in
theorem below_any (es : List Int) (B p o : Nat) (A : Option Addr) (c : Nat) (x : Int) (w : World) (h : SetAt w B p o es A c) :
    Calls Try.prog 105 #[.pointer (some ⟨p, o, none⟩), .int .i64 x] w fun e w' => e = .returned (.int .i64 ((lo es x : Nat) : Int)) ∧ ∃ q, w' = w.drewN q := by
  obtain ⟨h1, h2, h3, h4, h5, h6, hp⟩ := h
  have H := Lib.hid (bs_any es B A c x w h5 h1.1 h2)
  clear h1 h2 h3 h4 h5 h6
  go_enter Try.func105, Try.ntmps105
  go_wp2_with (go_at_call 115; refine H.out.mono ?_; rintro e w' ⟨rfl, q, rfl⟩)
  go_ret
  exact ⟨rfl, _, rfl⟩

set_option maxHeartbeats 1000000 in
theorem upto_any (es : List Int) (B p o : Nat) (A : Option Addr) (c : Nat) (x : Int) (w : World) (h : SetAt w B p o es A c) :
    Calls Try.prog 103 #[.pointer (some ⟨p, o, none⟩), .int .i64 x] w fun e w' => e = .returned (.int .i64 ((up es x : Nat) : Int)) ∧ ∃ q, w' = w.drewN q := by
  obtain ⟨h1, h2, h3, h4, h5, h6, hp⟩ := h
  have H := bs_any es B A c x w h5 h1.1 h2
  have hu := up_contains es x h1.1
  have hl := lo_le_len es x
  have hlb : (lo es x : Nat) ≤ 17592186044416 := by omega
  clear h1 h2 h3 h4 h5 h6 hl
  cases hc : es.contains x with
  | true =>
    rw [hc] at H hu
    have HU : Hid (((up es x : Nat) : Int) = (lo es x : Int) + 1) := by show _ = _; rw [hu]; simp
    have H := Lib.hid H
    clear hu hc
    go_enter Try.func103, Try.ntmps103
    go_wp2_with (go_at_call 115; refine H.out.mono ?_; rintro e w' ⟨rfl, q, rfl⟩)
    go_ret
    exact ⟨ret_int HU.out.symm, _, rfl⟩
  | false =>
    rw [hc] at H hu
    have HU : Hid (((up es x : Nat) : Int) = (lo es x : Int)) := by show _ = _; rw [hu]; simp
    have H := Lib.hid H
    clear hu hc
    go_enter Try.func103, Try.ntmps103
    go_wp2_with (go_at_call 115; refine H.out.mono ?_; rintro e w' ⟨rfl, q, rfl⟩)
    go_ret
    exact ⟨ret_int HU.out.symm, _, rfl⟩

set_option maxHeartbeats 1000000 in
theorem has_any (es : List Int) (B p o : Nat) (A : Option Addr) (c : Nat) (x : Int) (w : World) (h : SetAt w B p o es A c) :
    Calls Try.prog 55 #[.pointer (some ⟨p, o, none⟩), .int .i64 x] w fun e w' => e = .returned (.bool (mem es x)) ∧ ∃ q, w' = w.drewN q := by
  have H := Lib.hid (upto_any es B p o A c x w h)
  have hu := up_le_len es x
  have hb : up es x ≤ 9223372036854775807 := by have := h.2.1; omega
  obtain ⟨k, hk⟩ : ∃ k, Hid (up es x = k) := ⟨_, rfl⟩
  rw [hk.out] at hb
  have HO := Lib.hid (fun W => odd_any k W hb)
  have HM : Hid (mem es x = oddB k) := by show _ = _; unfold mem; rw [hk.out]
  rw [hk.out] at H
  rw [HM.out]
  obtain ⟨bb, hbb⟩ : ∃ bb, Hid (oddB k = bb) := ⟨_, rfl⟩
  rw [hbb.out] at HO ⊢
  clear h hu hb
  go_enter Try.func55, Try.ntmps55
  go_wp2_with (first | (go_at_call 103; refine H.out.mono ?_; rintro e w' ⟨rfl, q, rfl⟩) | (go_at_call 102; refine (HO.out _).mono ?_; rintro e w' ⟨rfl, rfl⟩))
  go_ret
  exact ⟨rfl, _, rfl⟩

set_option maxHeartbeats 1000000 in
theorem first_any (es : List Int) (B p o : Nat) (A : Option Addr) (c : Nat) (x : Int) (w : World) (h : SetAt w B p o es A c) :
    Calls Try.prog 112 #[.pointer (some ⟨p, o, none⟩), .int .i64 x] w fun e w' => e = .returned (.int .i64 (firstF es (max x 0))) ∧ ∃ q, w' = w.drewN q := by
  have H := Lib.hid (upto_any es B p o A c (max x 0) w h)
  have hu := up_le_len es (max x 0)
  have hb : up es (max x 0) ≤ 9223372036854775807 := by have := h.2.1; omega
  obtain ⟨k, hk⟩ : ∃ k, Hid (up es (max x 0) = k) := ⟨_, rfl⟩
  have HF : Hid (firstF es (max x 0) = if oddB k = true then es.getD k 0 else (max x 0)) := by show _ = _; unfold firstF; rw [hk.out]
  rw [hk.out] at hb H
  have HO := Lib.hid (fun W => odd_any k W hb)
  have hlt : oddB k = true → k < es.length := fun ho => by have := up_lt_of_odd h.1 (max x 0) (by rw [hk.out]; exact ho); rwa [hk.out] at this
  have hp := h.2.2.2.2.2.2
  have hrd := h.2.2.2.2.1
  have hc := h.2.2.1
  rw [HF.out]
  cases hbb : oddB k with
  | true =>
    have hk2 := hlt hbb
    obtain ⟨b, off, rfl, hbB, hcs⟩ := hrd.2 (by omega)
    obtain ⟨z, hz⟩ : ∃ z, Hid (es.getD k 0 = z) := ⟨_, rfl⟩
    have hcell : w.cell? ⟨b, off + k, none⟩ = some (.int .i64 z) := by rw [hcs k _ (ints_get es k hk2), hz.out]
    rw [hbb] at HO
    rw [if_pos rfl, hz.out]
    clear hcs hlt h hrd hu hb hbb
    go_enter Try.func112, Try.ntmps112
    go_wp2_with (first | (go_at_call 103; refine H.out.mono ?_; rintro e w' ⟨rfl, q, rfl⟩) | (go_at_call 102; refine (HO.out _).mono ?_; rintro e w' ⟨rfl, rfl⟩))
    go_ret
    exact ⟨rfl, _, rfl⟩
  | false =>
    rw [hbb] at HO
    rw [if_neg (by decide)]
    clear hlt h hrd hu hb hbb
    go_enter Try.func112, Try.ntmps112
    go_wp2_with (first | (go_at_call 103; refine H.out.mono ?_; rintro e w' ⟨rfl, q, rfl⟩) | (go_at_call 102; refine (HO.out _).mono ?_; rintro e w' ⟨rfl, rfl⟩))
    go_ret
    exact ⟨rfl, _, rfl⟩

set_option maxHeartbeats 1000000 in
theorem all_any (es : List Int) (B p o : Nat) (A : Option Addr) (c : Nat) (f t : Int) (w : World) (h : SetAt w B p o es A c) :
    Calls Try.prog 82 #[.pointer (some ⟨p, o, none⟩), .int .i64 f, .int .i64 t] w fun e w' => e = .returned (.bool (allF es f t)) ∧ ∃ q, w' = w.drewN q := by
  have cf := clamp_in f
  obtain ⟨f', hf⟩ : ∃ x, Hid (clamp f = x) := ⟨_, rfl⟩
  obtain ⟨t', ht⟩ : ∃ x, Hid (clamp t = x) := ⟨_, rfl⟩
  rw [hf.out] at cf
  have W1 : Hid (∀ W, Calls Try.prog 104 #[.int .i64 f] W fun e w' => e = .returned (.int .i64 f') ∧ W = w') := fun W => by have := within_any f W; rwa [hf.out] at this
  have W2 : Hid (∀ W, Calls Try.prog 104 #[.int .i64 t] W fun e w' => e = .returned (.int .i64 t') ∧ W = w') := fun W => by have := within_any t W; rwa [ht.out] at this
  have H := first_any es B p o A c f' w h
  rw [show max f' 0 = f' by omega] at H
  have H := Lib.hid H
  obtain ⟨z, hz⟩ : ∃ z, Hid (firstF es f' = z) := ⟨_, rfl⟩
  rw [hz.out] at H
  have HA : Hid (allF es f t = decide (t' ≤ z)) := by show _ = _; unfold allF; rw [hf.out, ht.out, hz.out]
  rw [HA.out]
  clear h
  go_enter Try.func82, Try.ntmps82
  go_wp2_with fail
  refine (W1.out _).mono ?_; rintro e w' ⟨rfl, rfl⟩
  go_wp2_with fail
  refine (W2.out _).mono ?_; rintro e w' ⟨rfl, rfl⟩
  go_wp2_with (go_at_call 112; refine H.out.mono ?_; rintro e w' ⟨rfl, q, rfl⟩)
  go_ret
  exact ⟨rfl, _, rfl⟩
end Go.Proofs.Ytcglhoochmfmiaa.Sp
