/- below, upTo, Has, First, All of package spans (laid by ak/port2.py). Conditions: as each theorem lists them. -/
import Derived.Test.YtebfjphmlggacaaJSa
import Derived.Test.YtebfjphmlggacaaJSh
set_option linter.unusedSimpArgs false
set_option linter.unusedVariables false

namespace Go.Proofs.Ytebfjphmlggacaa.Sp
open Go Go.RowKit

theorem bs_any (es : List Int) (B : Nat) (A : Option Addr) (c : Nat) (x : Int) (w : World) (hx : Rd w B A es.length (ints es)) (hs : es.Pairwise (· < ·)) (hm : es.length * 8 ≤ 140737488355328) :
    Calls Try.prog 74 #[.slice A es.length c, .int .i64 x] w fun e w' => e = .returned (.tuple #[.int .i64 ((lo es x : Nat) : Int), .bool (es.contains x)]) ∧ ∃ q, w' = w.drewN q := by
  rcases Nat.eq_zero_or_pos es.length with h0 | h0
  · have e0 : es = [] := List.eq_nil_of_length_eq_zero h0
    subst e0
    refine (Try.slices_BinarySearch_int_empty A c x w).mono ?_
    rintro e w' ⟨rfl, rfl⟩
    exact ⟨rfl, 0, rfl⟩
  · obtain ⟨b, off, rfl, _, hc⟩ := hx.2 h0
    have := Try.slices_BinarySearch_int b off es.length c es x w (Nat.le_refl _) (by omega) (fun j hj => hc j _ (ints_get es j hj)) (by rw [List.take_length]; exact hs.imp fun h => Int.le_of_lt h)
    rw [List.take_length] at this
    exact this

/-- A set in a variable at block p. -/
def SetAt (w : World) (B p o : Nat) (es : List Int) (A : Option Addr) (c : Nat) : Prop :=
  Ok es ∧ es.length * 8 ≤ 140737488355328 ∧ es.length ≤ c ∧ okA A es.length c ∧ Rd w B A es.length (ints es) ∧ B ≤ w.heap.size ∧ w.cell? ⟨p, o, none⟩ = some (.slice A es.length c)

set_option maxHeartbeats 1000000 in
theorem below_any (es : List Int) (B p o : Nat) (A : Option Addr) (c : Nat) (x : Int) (w : World) (h : SetAt w B p o es A c) :
    Calls Try.prog 68 #[.pointer (some ⟨p, o, none⟩), .int .i64 x] w fun e w' => e = .returned (.int .i64 ((lo es x : Nat) : Int)) ∧ ∃ q, w' = w.drewN q := by
  obtain ⟨h1, h2, h3, h4, h5, h6, hp⟩ := h
  have H := Lib.hid (bs_any es B A c x w h5 h1.1 h2)
  clear h1 h2 h3 h4 h5 h6
  go_enter Try.func68, Try.ntmps68
  go_wp2_with (go_at_call 74; refine H.out.mono ?_; rintro e w' ⟨rfl, q, rfl⟩)
  go_ret
  exact ⟨rfl, _, rfl⟩

set_option maxHeartbeats 1000000 in
theorem upto_any (es : List Int) (B p o : Nat) (A : Option Addr) (c : Nat) (x : Int) (w : World) (h : SetAt w B p o es A c) :
    Calls Try.prog 69 #[.pointer (some ⟨p, o, none⟩), .int .i64 x] w fun e w' => e = .returned (.int .i64 ((up es x : Nat) : Int)) ∧ ∃ q, w' = w.drewN q := by
  obtain ⟨h1, h2, h3, h4, h5, h6, hp⟩ := h
  have H := bs_any es B A c x w h5 h1.1 h2
  have hu := up_contains es x h1.1
  have hl := lo_le_len es x
  have hlb : (lo es x : Nat) ≤ 17592186044416 := by omega
  clear h1 h2 h3 h4 h5 h6 hl
  cases hc : es.contains x with
  | true =>
    rw [hc] at H hu
    have HU : Hid (((up es x : Nat) : Int) = (lo es x : Int) + 1) := by show _ = _; rw [hu]; simp
    have H := Lib.hid H
    clear hu hc
    go_enter Try.func69, Try.ntmps69
    go_wp2_with (go_at_call 74; refine H.out.mono ?_; rintro e w' ⟨rfl, q, rfl⟩)
    go_ret
    exact ⟨ret_int HU.out.symm, _, rfl⟩
  | false =>
    rw [hc] at H hu
    have HU : Hid (((up es x : Nat) : Int) = (lo es x : Int)) := by show _ = _; rw [hu]; simp
    have H := Lib.hid H
    clear hu hc
    go_enter Try.func69, Try.ntmps69
    go_wp2_with (go_at_call 74; refine H.out.mono ?_; rintro e w' ⟨rfl, q, rfl⟩)
    go_ret
    exact ⟨ret_int HU.out.symm, _, rfl⟩

end Go.Proofs.Ytebfjphmlggacaa.Sp
