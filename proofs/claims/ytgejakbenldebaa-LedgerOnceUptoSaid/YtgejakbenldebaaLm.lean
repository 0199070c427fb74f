/- The laws' sent; a new ledger; known() of chapter 9. Conditions: as each theorem lists them. -/
import Derived.Test.YtgejakbenldebaaLk
import Derived.Test.YtgejakbenldebaaLi
import Derived.Test.YtgejakbenldebaaH1
set_option linter.unusedSimpArgs false
set_option linter.unusedVariables false
namespace Go.Proofs.Ytgejakbenldebaa.Ld
open Go Go.RowKit Go.Proofs.Ytgejakbenldebaa Go.Proofs.Ytgejakbenldebaa.Sp

/-- Packets of numbers from f on, m of them, all at the same time. -/
def sentL (f m : Nat) (a : Int) : List Pk := (List.range m).map fun i => ⟨f + i, a, true, none, 0, 0⟩
theorem sentL_succ (f m : Nat) (a : Int) : sentL f (m + 1) a = sentL f m a ++ [⟨f + m, a, true, none, 0, 0⟩] := by simp [sentL, List.range_succ]
theorem sentL_len (f m : Nat) (a : Int) : (sentL f m a).length = m := by simp [sentL]
theorem sentL_mem {f m : Nat} {a : Int} {k : Pk} (h : k ∈ sentL f m a) : f ≤ k.num ∧ k.num < f + m ∧ k.at' = a ∧ k.el = true ∧ k.fa = none ∧ k.fn = 0 ∧ k.fc = 0 := by
  simp only [sentL, List.mem_map, List.mem_range] at h
  obtain ⟨i, hi, rfl⟩ := h
  exact ⟨by show f ≤ f + i; omega, by show f + i < f + m; omega, rfl, rfl, rfl, rfl, rfl⟩
theorem put_sentL (ks : List Pk) (f m : Nat) (a : Int) : putF (ks, f) (sentL f m a) = (ks ++ sentL f m a, f + m) := by
  induction m with
  | zero => simp [sentL, putF]
  | succ m ih =>
    rw [sentL_succ, putF_snoc, ih]
    unfold putStep
    rw [if_pos rfl]
    simp [List.append_assoc, Nat.add_assoc]

set_option maxHeartbeats 2000000 in
theorem sent_any (f m : Nat) (t a : Int) (w : World) (ht : t = (f : Int) + (m : Int)) (hm : (f : Int) + (m : Int) ≤ 1099511627776) :
    Calls Try.prog 12 #[.int .i64 (f : Int), .int .i64 t, .int .i64 a] w fun e w' => ∃ A c, e = .returned (.slice A m c) ∧ w'.ownsRow w.heap.size 41 4 (.slice A m c) m (pks (sentL f m a)) ∧ Below w.heap.size w w' := by
  obtain ⟨i0, hi, hz0, hz1, hz2⟩ := info_parts infoS
  have HI := Lib.hid (And.intro hi (And.intro hz0 (And.intro hz1 hz2)))
  have HT := Lib.hid ht
  have HM := Lib.hid hm
  have htI : t ≤ 1099511627776 := by omega
  clear hi hz0 hz1 hz2 ht hm
  go_enter Try.func12, Try.ntmps12
  go_wp2_with fail
  go_loopw [7, 8] (fun v i wr => ∃ j : Nat, j ≤ m ∧ i = .int .i64 ((f + j : Nat) : Int) ∧ (∃ A3 c3, v = .slice A3 j c3) ∧ Hid (wr.ownsRow w.heap.size 41 4 v j (pks (sentL f j a)) ∧ Below w.heap.size w wr)) (fun _ i _ => f + m - (intOf i).toNat)
  case atStart => exact ⟨0, Nat.zero_le _, rfl, ⟨_, _, rfl⟩, own_nil _ _ _ _, Below.refl _ _⟩
  case round =>
    obtain ⟨j, hj, rfl, ⟨A3, c3, rfl⟩, HK⟩ := hrel
    obtain ⟨N, hN⟩ : ∃ N : Nat, Hid (f + j = N) := ⟨_, rfl⟩
    rw [hN.out]
    by_cases hlt : j < m
    · have hltI : (N : Int) < t := by have := HT.out; have := hN.out; omega
      have hNI : (N : Int) ≤ 1099511627776 := by omega
      have hsz : w.heap.size ≤ wr.heap.size := HK.out.2.size
      have hd1 : Hid (Rd (wr.alloc (.cells #[.int .i64 (N : Int), .int .i64 a, .bool true, .slice none 0 0] 41)) (wr.heap.size + 1) (some ⟨wr.heap.size, 0, none⟩) (1 * 4) (pks [⟨N, a, true, none, 0, 0⟩])) := rd_new _ _ _ _ _ _ _ rfl (by omega) rfl rfl
      have hjm : j + 1 ≤ 1099511627776 := by have := HM.out; omega
      have hd2 : Hid (j + 1 ≤ maxLen) := by show _ ≤ _; unfold maxLen; omega
      have hd3 : Hid ((j + 1) * 48 ≤ 140737488355328) := by show _ ≤ _; omega
      have hd4 : Hid (w.heap.size ≤ (wr.alloc (.cells #[.int .i64 (N : Int), .int .i64 a, .bool true, .slice none 0 0] 41)).heap.size) := by show _ ≤ _; simp only [World.size_alloc]; omega
      have HSZ := Lib.hid hsz
      clear hsz
      go_wp2_with (at_builtin; refine wpList_app _ rfl (.tmp 15) (.tmp 19) 30 rfl w.heap.size 41 i0 (.agg #[.int .i64 0, .int .i64 0, .bool false, .slice none 0 0]) 4 48 Try.underlying30 HI.out.1 HI.out.2.1 HI.out.2.2.1 HI.out.2.2.2 rfl (by decide) (.slice A3 j c3) j (pks (sentL f j a)) rfl (HK.out.1.alloc _) (wr.heap.size + 1) (some ⟨wr.heap.size, 0, none⟩) 1 _ (pks [⟨N, a, true, none, 0, 0⟩]) rfl hd1.out (ones_pks _) hd2.out hd3.out hd4.out ?_)
      intro v5 w5 ho5 hg5
      obtain ⟨A5, c5, e5, _⟩ := own_form ho5
      subst e5
      have HN' : Hid (w5.ownsRow w.heap.size 41 4 (.slice A5 (j + 1) c5) (j + 1) (pks (sentL f (j + 1) a)) ∧ Below w.heap.size w w5) := by
        refine ⟨?_, HK.out.2.trans ((((Below.refl _ _).alloc HSZ.out _)).grown hg5 hd4.out (fun g hg => (HK.out.1.lt g hg).1))⟩
        rw [sentL_succ, pks_app, hN.out]
        exact ho5
      clear ho5 hg5
      have hN1 : (N : Int) + 1 = ((f + (j + 1) : Nat) : Int) := by have := hN.out; omega
      have HN1 := Lib.hid hN1
      have hmeas : f + m - (N + 1) < f + m - N := by have := hN.out; omega
      clear hN1
      go_wp2_with fail
      refine ⟨⟨j + 1, by omega, by rw [HN1.out], ⟨_, _, rfl⟩, HN'⟩, ?_⟩
      simp [intOf]; omega
    · have hltI : ¬ (N : Int) < t := by have := HT.out; have := hN.out; omega
      obtain rfl : j = m := by omega
      go_wp2_with fail
      go_ret
      exact ⟨A3, c3, rfl, HK.out⟩

/-- A new ledger. -/
theorem led_new (w : World) : Led (w.alloc (.cells #[.slice none 0 0, .int .i64 0, .int .i64 0, .int .i64 0] 25)) w.heap.size w.heap.size 0 25 #[.slice none 0 0, .int .i64 0, .int .i64 0, .int .i64 0] [] 0 0 :=
  ⟨[], ⟨Nat.le_refl _, by simp, Nat.le_refl _, ⟨by decide, by decide⟩, heap_alloc_new _ _, ⟨none, 0, rfl, Nat.le_refl _, by unfold maxLen; omega, .inl ⟨rfl, rfl⟩⟩, rfl, rfl, rfl, Nat.le_refl _, (fun i k h => by simp at h), Nat.le_refl _⟩, rfl⟩
end Go.Proofs.Ytgejakbenldebaa.Ld
