/- known() of chapter 9. Conditions: as each theorem lists them. -/
import Derived.Test.YtgejakbenldebaaLm
set_option linter.unusedSimpArgs false
set_option linter.unusedVariables false
namespace Go.Proofs.Ytgejakbenldebaa.Ld
open Go Go.RowKit Go.Proofs.Ytgejakbenldebaa Go.Proofs.Ytgejakbenldebaa.Sp

/-- A row of packets reads the same behind the ledger's calls. -/
theorem rd_moved {w : World} {lo p base n c : Nat} {A : Option Addr} {xs : List Value} (ho : w.ownsRow base 41 4 (.slice A n c) n xs) (hp : p < base) : ∀ W, Moved lo p w W → Rd W W.heap.size A (n * 4) xs := fun W hm => by
  obtain ⟨_, _, e, _, _, _, h⟩ := own_form (own_moved ho hm hp (by decide))
  simp only [Value.slice.injEq, true_and] at e
  obtain ⟨rfl, rfl⟩ := e
  exact h
theorem sentL_bare (f m : Nat) (a : Int) : ∀ k ∈ sentL f m a, k.fa = none ∧ k.fn = 0 ∧ k.fc = 0 := fun k hk => (sentL_mem hk).2.2.2.2
theorem Led.at_ok {w : World} {lo p o : Nat} {T : TypeId} {cur : Array Value} {ks : List Pk} {next behind : Nat} (_ : Led w lo p o T cur ks next behind) : True := trivial

/-- The first cell of a row that is known. -/
theorem own_first {w : World} {base n c : Nat} {A : Option Addr} {k : Pk} {r : List Pk} (h : w.ownsRow base 41 4 (.slice A n c) n (pks (k :: r))) (hn : 0 < n) : ∃ b off, A = some ⟨b, off, none⟩ ∧ w.cell? ⟨b, off, none⟩ = some (.int .i64 (k.num : Int)) ∧ n ≤ c := by
  obtain ⟨_, _, e, hc, _, _, hr⟩ := own_form h
  simp only [Value.slice.injEq, true_and] at e
  obtain ⟨rfl, rfl⟩ := e
  obtain ⟨b, off, e, _, hcs⟩ := hr.2 (by omega)
  exact ⟨b, off, e, hcs 0 _ rfl, hc⟩

set_option maxRecDepth 100000 in
set_option maxHeartbeats 4000000 in
theorem known_any (w : World) : Calls Try.prog 15 #[] w fun e w' => e = .returned (.bool true) ∧ Below w.heap.size w w' := by
  go_enter Try.func15, Try.ntmps15
  go_wp2_with fail
  obtain ⟨w1, hw1⟩ : ∃ x, w.alloc (.cells #[.slice none 0 0, .int .i64 0, .int .i64 0, .int .i64 0] 25) = x := ⟨_, rfl⟩
  have hl1 := led_new w
  rw [hw1] at hl1 ⊢
  have hb1 : Below w.heap.size w w1 := by rw [← hw1]; exact (Below.refl _ _).alloc (Nat.le_refl _) _
  clear hw1
  obtain ⟨p, hp⟩ : ∃ x, Hid (w.heap.size = x) := ⟨_, rfl⟩
  rw [hp.out] at hl1 hb1 ⊢
  refine (sent_any 0 4 4 1 w1 (by omega) (by omega)).mono ?_
  rintro e w2 ⟨A2, c2, rfl, ho2, hb2⟩
  obtain ⟨cur, hcur⟩ : ∃ x, #[Value.slice none 0 0, Value.int .i64 0, Value.int .i64 0, Value.int .i64 0] = x := ⟨_, rfl⟩
  rw [hcur] at hl1
  have hl2 := hl1.keep hb2
  have hP := put_led w2 p p 0 _ cur [] 0 0 hl2 (sentL 0 4 1) (sentL_bare _ _ _) (by rw [sentL_len]; omega) A2 c2 (by
    rw [sentL_len]
    obtain ⟨_, _, e, hc, _⟩ := own_form ho2
    simp only [Value.slice.injEq, true_and] at e
    omega) (by rw [sentL_len]; exact rd_moved ho2 hl1.lt.2)
  rw [sentL_len, put_sentL] at hP
  have HP := Lib.hid hP
  have HB2 : Hid (Below p w w2) := hb1.trans (hb2.mono (by have := hl1.lt.2; omega))
  clear hP hl2 ho2 hb2 hb1 hl1 hcur
  go_wp2_with fail
  refine (HP.out).mono ?_
  rintro e w3 ⟨rfl, cur3, hl3, hs3, hm3⟩
  have HL3 := Lib.hid hl3
  have HB3 : Hid (Below p w w3) := HB2.out.trans hm3.below
  clear hl3 hs3 hm3 HP
  have hb4 : Below w3.heap.size w3 (w3.alloc (.cells #[.int .i64 3, .int .i64 3] 47)) := (Below.refl _ _).alloc (Nat.le_refl _) _
  have hA := ack_led (w3.alloc (.cells #[.int .i64 3, .int .i64 3] 47)) p p 0 _ cur3 _ _ 0 (HL3.out.keep hb4) (by simp [sentL]) [(3, 3)] (by simp) (some ⟨w3.heap.size, 0, none⟩) 1 (by simp) (rd_new _ _ _ _ _ _ _ rfl (by simp) rfl rfl)
  have HA := Lib.hid hA
  have HB4 : Hid (Below p w (w3.alloc (.cells #[.int .i64 3, .int .i64 3] 47))) := HB3.out.trans (hb4.mono (Nat.le_of_lt HL3.out.lt.2))
  have hpl := HL3.out.lt.2
  clear hA hb4
  go_wp2_with fail
  refine (HA.out).mono ?_
  intro e w5 hAP
  rcases hAP with ⟨⟨r, hr, h⟩, _⟩ | ⟨_, A5, n5, c5, cur5, rfl, hn5, ho5, hl5, hs5, hm5⟩
  · simp only [List.mem_cons, List.not_mem_nil, or_false] at hr
    subst hr
    exact absurd h (by decide)
  · have e1 : (([] ++ sentL 0 4 1).filter fun k : Pk => ranB [(3, 3)] k.num) = [⟨3, 1, true, none, 0, 0⟩] := by rfl
    have e2 : (([] ++ sentL 0 4 1).filter fun k : Pk => !ranB [(3, 3)] k.num) = [⟨0, 1, true, none, 0, 0⟩, ⟨1, 1, true, none, 0, 0⟩, ⟨2, 1, true, none, 0, 0⟩] := by rfl
    have e3 : behF 0 [(3, 3)] = 4 := by rfl
    rw [e1] at hn5 ho5
    rw [e2, e3] at hl5
    simp only [List.length_cons, List.length_nil, Nat.zero_add] at hn5
    subst hn5
    have hL := lose_led hl5 (by decide) 1 9 (fun k hk => by
      simp only [List.mem_cons, List.not_mem_nil, or_false] at hk
      rcases hk with rfl | rfl | rfl <;> decide) (by decide) (by decide)
    have HL := Lib.hid hL
    have HO5 := Lib.hid ho5
    have HB5 : Hid (Below p w w5) := HB4.out.trans hm5.below
    have HP5 : Hid (p < w5.heap.size) := hl5.lt.2
    have HPQ : Hid (p < (w3.alloc (.cells #[.int .i64 3, .int .i64 3] 47)).heap.size) := by show _ < _; simp only [World.size_alloc]; omega
    clear hL ho5 hl5 hs5 hm5 HA e1 e2 e3 HB4
    go_wp2_with fail
    refine (HL.out).mono ?_
    rintro e w6 ⟨v6, rfl, A6, c6, cur6, rfl, ho6, hl6, hs6, hm6⟩
    have e1 : ([⟨0, 1, true, none, 0, 0⟩, ⟨1, 1, true, none, 0, 0⟩, ⟨2, 1, true, none, 0, 0⟩] : List Pk).filter (selB 0 (((4 : Nat) : Int) - 1) (oldB 4 1 9)) = [⟨0, 1, true, none, 0, 0⟩] := by rfl
    rw [e1] at ho6 ⊢
    obtain ⟨b6, off6, rfl, d6, hc6⟩ := own_first ho6 (by decide)
    obtain ⟨b5, off5, rfl, d5, hc5⟩ := own_first (own_moved HO5.out hm6 HPQ.out (by decide)) (by decide)
    have HN := Lib.hid (next_led hl6)
    have HK := Lib.hid (acked_led hl6 (by decide))
    have HB6 : Hid (Below p w w6) := HB5.out.trans hm6.below
    clear ho6 hl6 hs6 hm6 e1 HL HO5
    simp only [List.length_cons, List.length_nil, Nat.zero_add] at hc6 ⊢
    go_wp2_with fail
    refine (HN.out).mono ?_
    rintro e w' ⟨rfl, hw'⟩
    have hw' := hw'.symm
    subst hw'
    go_wp2_with fail
    refine (HK.out).mono ?_
    rintro e w' ⟨rfl, hw'⟩
    have hw' := hw'.symm
    subst hw'
    go_wp2_with fail
    go_ret
    exact ⟨rfl, by rw [hp.out]; exact HB6.out⟩
end Go.Proofs.Ytgejakbenldebaa.Ld
