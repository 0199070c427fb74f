/- The ledger's Take and Lose: contracts. Conditions: as each theorem lists them. -/
import Derived.Test.YtebfjphmlggacaaJLe
import Derived.Test.YtebfjphmlggacaaJLf
import Derived.Deep.RegionHeld3
set_option linter.unusedSimpArgs false
set_option linter.unusedVariables false

namespace Go.Proofs.Ytebfjphmlggacaa.Ld
open Go Go.RowKit Go.Proofs.Ytebfjphmlggacaa Go.Proofs.Ytebfjphmlggacaa.Sp

/-- The ledger as its callers know it: what is out, what is next, what is behind the greatest acknowledged one. -/
structure Led (w : World) (lo p o : Nat) (T : TypeId) (cur : Array Value) (ks : List Pk) (next behind : Nat) : Prop where
  led : ∃ os, LedIn w lo w.heap.size p o T cur os (els ks) next behind ∧ outs os = ks
section
variable {w w' : World} {lo p o : Nat} {T : TypeId} {cur : Array Value} {ks : List Pk} {next behind : Nat}
theorem Led.keep (h : Led w lo p o T cur ks next behind) (hb : Below w.heap.size w w') : Led w' lo p o T cur ks next behind := by
  obtain ⟨os, h1, h2⟩ := h.led
  exact ⟨os, (h1.keep hb).more hb.size (Nat.le_refl _), h2⟩
theorem Led.lt (h : Led w lo p o T cur ks next behind) : lo ≤ p ∧ p < w.heap.size := by
  obtain ⟨os, h1, h2⟩ := h.led
  exact ⟨h1.hlo, h1.hhi⟩
theorem Led.blk (h : Led w lo p o T cur ks next behind) : w.heap[p]? = some (.cells cur T (0, 0)) := by
  obtain ⟨os, h1, h2⟩ := h.led
  exact h1.hp
/-- What is out has numbers below the next one, rising. -/
theorem outs_rising : ∀ (os : List (Option Pk)) (q : Nat), (∀ i k, os[i]? = some (some k) → k.num = q + i) → (outs os).Pairwise (fun a b => a.num < b.num) ∧ ∀ k ∈ outs os, q ≤ k.num ∧ k.num < q + os.length
  | [], q, _ => ⟨List.Pairwise.nil, fun k hk => by simp [outs] at hk⟩
  | u :: r, q, h => by
    obtain ⟨h1, h2⟩ := outs_rising r (q + 1) (fun i k hk => by
      have := h (i + 1) k (by simpa using hk)
      omega)
    cases u with
    | none =>
      have e : outs (none :: r) = outs r := rfl
      rw [e]
      refine ⟨h1, fun k hk => ?_⟩
      have := h2 k hk
      simp only [List.length_cons]
      omega
    | some x =>
      have e : outs (some x :: r) = x :: outs r := rfl
      have hx := h 0 x rfl
      rw [e]
      refine ⟨List.pairwise_cons.2 ⟨fun b hb => by have := h2 b hb; omega, h1⟩, fun k hk => ?_⟩
      simp only [List.length_cons]
      rcases List.mem_cons.1 hk with rfl | hk
      · omega
      · have := h2 k hk; omega
theorem Led.rising (h : Led w lo p o T cur ks next behind) : ks.Pairwise (fun a b => a.num < b.num) ∧ ∀ k ∈ ks, k.num < next := by
  obtain ⟨os, h1, h2⟩ := h.led
  have hl := h1.len
  have := outs_rising os (next - os.length) (fun i k hk => by have := h1.nums i k hk; omega)
  rw [h2] at this
  exact ⟨this.1, fun k hk => by have := (this.2 k hk).2; omega⟩
theorem Led.behind_le (h : Led w lo p o T cur ks next behind) : behind ≤ next := by
  obtain ⟨os, h1, h2⟩ := h.led
  exact h1.beh

/-- The same, its blocks below hi. -/
def LedH (w : World) (lo hi p o : Nat) (T : TypeId) (cur : Array Value) (ks : List Pk) (next behind : Nat) : Prop :=
  ∃ os, LedIn w lo hi p o T cur os (els ks) next behind ∧ outs os = ks
theorem Led.h (h : Led w lo p o T cur ks next behind) : LedH w lo w.heap.size p o T cur ks next behind := h.led
theorem LedH.l {hi : Nat} (h : LedH w lo hi p o T cur ks next behind) : Led w lo p o T cur ks next behind := by
  obtain ⟨os, h1, h2⟩ := h
  exact ⟨os, h1.more h1.hsz (Nat.le_refl _), h2⟩
theorem LedH.keep {hi : Nat} (h : LedH w lo hi p o T cur ks next behind) (hb : Below hi w w') : LedH w' lo hi p o T cur ks next behind := by
  obtain ⟨os, h1, h2⟩ := h
  exact ⟨os, h1.keep hb, h2⟩
theorem LedH.lt {hi : Nat} (h : LedH w lo hi p o T cur ks next behind) : lo ≤ p ∧ p < hi ∧ hi ≤ w.heap.size := by
  obtain ⟨os, h1, h2⟩ := h
  exact ⟨h1.hlo, h1.hhi, h1.hsz⟩
theorem Led.len (h : Led w lo p o T cur ks next behind) : ks.length ≤ next := by
  obtain ⟨os, h1, h2⟩ := h.led
  have := h1.len
  rw [← h2]
  exact Nat.le_trans (List.length_filterMap_le _ _) this

/-- A call that takes some away, and tells them. -/
def GoneP (w : World) (lo p o : Nat) (T : TypeId) (cur : Array Value) (ks : List Pk) (next behind : Nat) (s : Pk → Bool) (v : Value) (w' : World) : Prop :=
  ∃ A c cur', v = .slice A (ks.filter s).length c ∧ w'.ownsRow w.heap.size 63 4 (.slice A (ks.filter s).length c) (ks.filter s).length (pks (ks.filter s)) ∧
    Led w' lo p o T cur' (ks.filter fun k => !s k) next behind ∧ CurSame o cur cur' ∧ Moved lo p w w'
theorem GoneP.of {os : List (Option Pk)} {s : Pk → Bool} {e : Ending} (h : LeaveP w lo w.heap.size p o T cur os next behind s e w') (ho : outs os = ks) : ∃ v, e = .returned v ∧ GoneP w lo p o T cur ks next behind s v w' := by
  obtain ⟨A, c, cur', os', rfl, h1, h2, h3, h4, h5⟩ := h
  rw [ho] at h1 h2 h3
  exact ⟨_, rfl, A, c, cur', by rw [ho], h1, ⟨os', h2.more h5.below.size (Nat.le_refl _), h3⟩, h4, h5⟩

theorem next_led (h : Led w lo p o T cur ks next behind) :
    Calls Try.prog 14 #[.pointer (some ⟨p, o, none⟩)] w fun e w' => e = .returned (.int .i64 (next : Int)) ∧ w' = w := by
  obtain ⟨os, h1, h2⟩ := h.led
  exact (next_any h1).mono fun _ _ h => ⟨h.1, h.2.symm⟩
theorem flight_led (h : Led w lo p o T cur ks next behind) :
    Calls Try.prog 19 #[.pointer (some ⟨p, o, none⟩)] w fun e w' => e = .returned (.int .i64 (els ks : Int)) ∧ w' = w := by
  obtain ⟨os, h1, h2⟩ := h.led
  exact (flight_any h1).mono fun _ _ h => ⟨h.1, h.2.symm⟩
theorem acked_led (h : Led w lo p o T cur ks next behind) (hn : next ≤ 1800000000000) :
    Calls Try.prog 13 #[.pointer (some ⟨p, o, none⟩)] w fun e w' => e = .returned (.int .i64 ((behind : Int) - 1)) ∧ w' = w := by
  obtain ⟨os, h1, h2⟩ := h.led
  exact (acked_any h1 (by omega)).mono fun _ _ h => ⟨h.1, h.2.symm⟩
theorem leave_led (h : Led w lo p o T cur ks next behind) (hn : next ≤ 1800000000000) (f : Nat) (t : Int) (ht : t ≤ next) (ht0 : -1 ≤ t) (hf : f ≤ 4611686018427387904) :
    Calls Try.prog 43 #[.pointer (some ⟨p, o, none⟩), .int .i64 (f : Int), .int .i64 t, .func (.func 44) #[] #[]] w fun e w' => ∃ v, e = .returned v ∧ GoneP w lo p o T cur ks next behind (selB f t fun _ => true) v w' := by
  obtain ⟨os, h1, h2⟩ := h.led
  refine (leave_all w lo w.heap.size p o T cur os _ next behind h1 (by rw [h2]) hn f t ht ht0 hf).mono ?_
  exact fun e w' h => GoneP.of h h2

theorem leave_ledh {hi : Nat} (h : LedH w lo hi p o T cur ks next behind) (hn : next ≤ 1800000000000) (f : Nat) (t : Int) (ht : t ≤ next) (ht0 : -1 ≤ t) (hf : f ≤ 4611686018427387904) :
    Calls Try.prog 43 #[.pointer (some ⟨p, o, none⟩), .int .i64 (f : Int), .int .i64 t, .func (.func 44) #[] #[]] w fun e w' => ∃ A c cur', e = .returned (.slice A (ks.filter (selB f t fun _ => true)).length c) ∧ w'.ownsRow w.heap.size 63 4 (.slice A (ks.filter (selB f t fun _ => true)).length c) (ks.filter (selB f t fun _ => true)).length (pks (ks.filter (selB f t fun _ => true))) ∧
      LedH w' lo hi p o T cur' (ks.filter fun k => !selB f t (fun _ => true) k) next behind ∧ CurSame o cur cur' ∧ Moved lo p w w' := by
  obtain ⟨os, h1, h2⟩ := h
  refine (leave_all w lo hi p o T cur os _ next behind h1 (by rw [h2]) hn f t ht ht0 hf).mono ?_
  rintro e w' ⟨A, c, cur', os', rfl, h3, h4, h5, h6, h7⟩
  rw [h2] at h3 h4 h5
  exact ⟨A, c, cur', by rw [h2], h3, ⟨os', h4, h5⟩, h6, h7⟩

theorem sel_all (h : Led w lo p o T cur ks next behind) : ks.filter (selB 0 next fun _ => true) = ks ∧ (ks.filter fun k => !selB 0 next (fun _ => true) k) = [] := by
  have := h.rising.2
  constructor
  · rw [List.filter_eq_self]
    intro k hk
    have := this k hk
    simp [selB, this]
  · rw [List.filter_eq_nil_iff]
    intro k hk
    have := this k hk
    simp [selB, this]
theorem take_led (h : Led w lo p o T cur ks next behind) (hn : next ≤ 1800000000000) :
    Calls Try.prog 36 #[.pointer (some ⟨p, o, none⟩)] w fun e w' => ∃ v, e = .returned v ∧ GoneP w lo p o T cur ks next behind (selB 0 next fun _ => true) v w' := by
  have HL := Lib.hid (leave_led h hn 0 next (Int.le_refl _) (by omega) (by omega))
  have hc : w.cell? ⟨p, o + 1, none⟩ = some (.int .i64 (next : Int)) := by
    obtain ⟨os, h1, h2⟩ := h.led
    exact h1.cell.1
  clear h
  go_enter Try.func36, Try.ntmps36
  go_wp2_with fail
  refine (HL.out).mono ?_
  rintro e w1 ⟨v, rfl, A, c, cur', rfl, h2⟩
  go_wp2_with fail
  go_ret
  exact ⟨_, rfl, A, c, cur', rfl, h2⟩

set_option maxHeartbeats 2000000 in
theorem lose_led (h : Led w lo p o T cur ks next behind) (hn : next ≤ 1800000000000) (n l : Int) (hat : ∀ k ∈ ks, -9223372036854775808 ≤ k.at' ∧ k.at' ≤ 9223372036854775807) (hnn : -9223372036854775808 ≤ n ∧ n ≤ 9223372036854775807) (hll : -9223372036854775808 ≤ l ∧ l ≤ 9223372036854775807) :
    Calls Try.prog 29 #[.pointer (some ⟨p, o, none⟩), .int .i64 n, .int .i64 l] w fun e w' => ∃ v, e = .returned v ∧ GoneP w lo p o T cur ks next behind (selB 0 ((behind : Int) - 1) (oldB behind n l)) v w' := by
  have H := Lib.hid h
  have hmf : ∀ (fn : Fn) (first cap : Array Value) (w : World), (Instr.makeFunc fn first cap).run Try.prog w = .ok (.func fn first cap) w := fun _ _ _ _ => rfl
  clear h
  go_enter Try.func29, Try.ntmps29
  go_wp2_with fail
  obtain ⟨w3, hw3⟩ : ∃ x, (((w.alloc (Obj.cells #[Value.pointer (some ⟨p, o, none⟩)] 74)).alloc (Obj.cells #[Value.int IntKind.i64 n] 3)).alloc (Obj.cells #[Value.int IntKind.i64 l] 3)) = x := ⟨_, rfl⟩
  rw [hw3]
  have HZ3 : Hid (w3.heap.size = w.heap.size + 3) := by show _ = _; rw [← hw3]; simp
  have HB3 : Hid (Below w.heap.size w w3) := by
    rw [← hw3]
    exact (((Below.refl _ _).alloc (Nat.le_refl _) _).alloc (by simp) _).alloc (by simp; omega) _
  have HC3 : Hid (w3.heap[w.heap.size]? = some (.cells #[.pointer (some ⟨p, o, none⟩)] 74 (0, 0)) ∧ w3.heap[w.heap.size + 1]? = some (.cells #[.int .i64 n] 3 (0, 0)) ∧ w3.heap[w.heap.size + 2]? = some (.cells #[.int .i64 l] 3 (0, 0))) := by
    rw [← hw3]
    refine ⟨?_, ?_, ?_⟩
    · rw [Below.heap_alloc _ _ _ (by simp; omega), Below.heap_alloc _ _ _ (by simp)]; exact heap_alloc_new _ _
    · rw [Below.heap_alloc _ _ _ (by simp)]
      have := heap_alloc_new (w.alloc (Obj.cells #[Value.pointer (some ⟨p, o, none⟩)] 74)) (Obj.cells #[Value.int IntKind.i64 n] 3)
      simpa using this
    · have := heap_alloc_new ((w.alloc (Obj.cells #[Value.pointer (some ⟨p, o, none⟩)] 74)).alloc (Obj.cells #[Value.int IntKind.i64 n] 3)) (Obj.cells #[Value.int IntKind.i64 l] 3)
      simpa using this
  clear hw3
  have HL3 := Lib.hid (H.out.keep HB3.out)
  have HS : Hid (∀ W, Below w3.heap.size w3 W → W.cell? ⟨w.heap.size, 0, none⟩ = some (.pointer (some ⟨p, o, none⟩))) := fun W hW => (hW.cell (p := ⟨w.heap.size, 0, none⟩) (by have := HZ3.out; show w.heap.size < _; omega)).trans (cell_of_one HC3.out.1)
  have HAK : Hid (∀ W, Below w3.heap.size w3 W → Calls Try.prog 13 #[.pointer (some ⟨p, o, none⟩)] W fun e w' => e = .returned (.int .i64 ((behind : Int) - 1)) ∧ w' = W) := fun W hW => acked_led (HL3.out.keep hW) hn
  have HLV : Hid (∀ W, Below w3.heap.size w3 W → Calls Try.prog 43 #[.pointer (some ⟨p, o, none⟩), .int .i64 0, .int .i64 ((behind : Int) - 1), .func (.func 49) #[] #[.pointer (some ⟨w.heap.size, 0, none⟩), .pointer (some ⟨w.heap.size + 1, 0, none⟩), .pointer (some ⟨w.heap.size + 1 + 1, 0, none⟩)]] W fun e w' => ∃ v, e = .returned v ∧ GoneP W lo p o T cur ks next behind (selB 0 ((behind : Int) - 1) (oldB behind n l)) v w') := fun W hW => by
    obtain ⟨os, h1, h2⟩ := (HL3.out.keep hW).led
    have hz := HZ3.out
    have hlt := H.out.lt.2
    have hb := H.out.behind_le
    have e := fun b (hb : b < w3.heap.size) => hW.block b hb
    refine (leave_old W lo W.heap.size p o T cur os _ next behind h1 (by rw [h2]) hn 0 ((behind : Int) - 1) (by omega) (by omega) (by omega) w.heap.size (w.heap.size + 1) (w.heap.size + 2) n l ((e _ (by omega)).trans HC3.out.1) ((e _ (by omega)).trans HC3.out.2.1) ((e _ (by omega)).trans HC3.out.2.2) ⟨by omega, by omega, by omega⟩ (by rw [h2]; exact hat) hnn hll).mono ?_
    exact fun e w' h => GoneP.of h h2
  clear hat
  refine wp_region_held_drew (S := fun W => W.cell? ⟨w.heap.size, 0, none⟩ = some (.pointer (some ⟨p, o, none⟩))) (by kernel_rfl) ?_ (fun hHeld => ?_)
  · exact HS.out _ ((Below.refl _ _).drew)
  refine wpAnyH_take (i := 0) (v := ?_) rfl (by kernel_rfl) (by kernel_rfl) (by kernel_rfl) (fun _ _ _ h => h) (Or.inl ⟨by rfl, ?_⟩) (by assumption) ?_
  rotate_left
  · intro w hSw; (try dsimp only at hSw); go_simp; try with_reducible rfl
  go_simp
  refine wpAnyH_take (i := 1) (v := ?_) rfl (by kernel_rfl) (by kernel_rfl) (by kernel_rfl) (fun _ _ _ h => h) (Or.inl ⟨by rfl, ?_⟩) (by assumption) ?_
  rotate_left
  · intro w hSw; (try dsimp only at hSw); go_simp; try with_reducible rfl
  go_simp
  refine wpAnyH_take (i := 3) (v := ?_) rfl (by kernel_rfl) (by kernel_rfl) (by kernel_rfl) (fun _ _ _ h => h) (Or.inl ⟨by rfl, ?_⟩) (by assumption) ?_
  rotate_left
  · intro w hSw; (try dsimp only at hSw); go_simp; try with_reducible rfl
  go_simp
  refine wpAnyH_ready (rs := [2]) (by kernel_rfl) (by simp) ?_
  refine AllReadyH.cons rfl (fun K hK => ?_) AllReadyH.nil
  go_simp
  refine (HAK.out _ ((Below.refl _ _).drew)).mono ?_
  rintro e w' ⟨rfl, hw'⟩
  subst hw'
  refine hK.out _ _ ?_ (fun hHeld => ?_)
  · exact HS.out _ ((Below.refl _ _).drew)
  clear hK K
  go_simp
  refine wpAnyH_ready (rs := [4]) (by kernel_rfl) (by simp) ?_
  refine AllReadyH.cons rfl (fun K hK => ?_) AllReadyH.nil
  go_simp
  refine (HLV.out _ ((Below.refl _ _).drew)).mono ?_
  rintro e w9 ⟨v9, rfl, A9, c9, cur9, rfl, hg9⟩
  have HG9 := Lib.hid hg9
  clear hg9
  have HS9 : Hid (w9.cell? ⟨w.heap.size, 0, none⟩ = some (.pointer (some ⟨p, o, none⟩))) := (cell_of_one ((HG9.out.2.2.2.kept w.heap.size (by have := HB3.out.size; have := HZ3.out; show _ < w3.heap.size; omega) (fun e => by have := H.out.lt.2; omega) (fun row e => by
    have := HC3.out.1
    rw [show (w3.drew).heap = w3.heap from rfl, this] at e; simp at e)).trans HC3.out.1))
  refine hK.out _ _ ?_ (fun hHeld => ?_)
  · exact HS9.out
  clear hK K
  go_simp
  refine wpAnyH_take (i := 5) (v := ?_) rfl (by kernel_rfl) (by kernel_rfl) (by kernel_rfl) (fun _ _ _ h => h) (Or.inl ⟨by rfl, ?_⟩) (by assumption) ?_
  rotate_left
  · intro w hSw; (try dsimp only at hSw); go_simp; try with_reducible rfl
  go_simp
  refine wpAnyH_done (by kernel_rfl) ?_ _
  go_wp2_with fail
  go_ret
  obtain ⟨h1, h2, h3, h4⟩ := HG9.out
  exact ⟨_, rfl, A9, c9, cur9, rfl, own_base h1 (by have := HB3.out.size; exact this), h2, h3, (Moved.of HB3.out.drew (Nat.le_trans H.out.lt.1 (Nat.le_of_lt H.out.lt.2))).trans h4⟩
end
end Go.Proofs.Ytebfjphmlggacaa.Ld
