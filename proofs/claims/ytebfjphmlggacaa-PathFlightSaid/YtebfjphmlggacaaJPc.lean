/- The path: a new one, Send, Open: contracts. Conditions: as each theorem lists them. -/
import Derived.Test.YtebfjphmlggacaaJPb
import Derived.Test.YtebfjphmlggacaaJLw
import Derived.Deep.RegionHeld3
set_option linter.unusedSimpArgs false
set_option linter.unusedVariables false

namespace Go.Proofs.Ytebfjphmlggacaa.Pa
open Go Go.RowKit Go.Proofs.Ytebfjphmlggacaa Go.Proofs.Ytebfjphmlggacaa.Sp Go.Proofs.Ytebfjphmlggacaa.Ld

theorem path_made (w : World) (lo : Nat) (hlo : lo ≤ w.heap.size) : PathIn (w.alloc (.cells #[.int .i64 0, .int .i64 0, .int .i64 0, .bool false, .slice none 0 0, .int .i64 0, .int .i64 0, .int .i64 0, .int .i64 4, .int .i64 32, .int .i64 0, .int .i64 0] 43)) lo w.heap.size Rtt.r0 [] 0 0 ⟨4, 32, 0, 0⟩ := by
  have hh := heap_alloc_new w (.cells #[.int .i64 0, .int .i64 0, .int .i64 0, .bool false, .slice none 0 0, .int .i64 0, .int .i64 0, .int .i64 0, .int .i64 4, .int .i64 32, .int .i64 0, .int .i64 0] 43)
  refine ⟨⟨_, ⟨hh, rfl, rfl, rfl, rfl⟩, ⟨[], ⟨hlo, by simp, Nat.le_refl _, ⟨by decide, by decide⟩, hh, ⟨none, 0, rfl, by simp, by unfold maxLen; omega, .inl ⟨rfl, rfl⟩⟩, rfl, rfl, rfl, Nat.le_refl _, fun i k hk => by simp at hk, Nat.le_refl _⟩, rfl⟩, ⟨hh, rfl, rfl, rfl, rfl⟩⟩, Rtt.good0, ⟨by decide, by decide, by decide, by decide, by decide, by decide⟩, fun x hx => by cases hx⟩

set_option maxRecDepth 100000 in
theorem new_path (w : World) :
    Calls Try.prog 6 #[] w fun e w' => ∃ p, e = .returned (.pointer (some ⟨p, 0, none⟩)) ∧ PathIn w' w.heap.size p Rtt.r0 [] 0 0 ⟨4, 32, 0, 0⟩ ∧ Below w.heap.size w w' := by
  go_enter Try.func6, Try.ntmps6
  go_wp2_with fail
  refine (Cg.new_any _).mono ?_; rintro e w1 ⟨rfl, hb1⟩
  go_wp2_with fail
  go_ret
  exact ⟨_, rfl, path_made w1 _ hb1.size, hb1.alloc hb1.size _⟩

section
variable {w : World} {lo p : Nat} {s : Rtt.RS} {kq : List (Pk × List Fq)} {next behind : Nat} {wd : Cg.Win}
set_option maxRecDepth 100000 in
theorem open_path (h : PathIn w lo p s kq next behind wd) :
    Calls Try.prog 12 #[.pointer (some ⟨p, 0, none⟩)] w fun e w' => e = .returned (.bool (decide ((els (kq.map (·.1)) : Int) < wd.size))) ∧ ∃ q, w' = w.drewN q := by
  obtain ⟨cur, h1, h2, h3⟩ := h.cur
  have HF : Hid (∀ m, Calls Try.prog 19 #[.pointer (some ⟨p, 4, none⟩)] (w.drewN m) fun e w' => e = .returned (.int .i64 (els (kq.map (·.1)) : Int)) ∧ w' = w.drewN m) := fun m => flight_led (h2.keep ⟨rfl, rfl, rfl, Nat.le_refl _, fun _ _ => rfl⟩)
  have HT : Hid (∀ m n, Calls Try.prog 32 #[.pointer (some ⟨p, 8, none⟩), .int .i64 n] (w.drewN m) fun e w' => e = .returned (.bool (decide (n < wd.size))) ∧ w' = w.drewN m) := fun m n => Cg.fits_any _ p 8 _ cur wd (h3.drewN m) n
  clear h h1 h2 h3
  go_enter Try.func12, Try.ntmps12
  go_wp2_with fail
  go_quiet ((first | (go_at_call 19; exact Calls.quiet_of_same (HF.out _)) | (go_at_call 32; exact Calls.quiet_of_same (HT.out _ _))))
  go_wp2_with fail
  go_ret
  exact ⟨rfl, nq, rfl⟩

/-- What Send leaves: a packet more, its frames copied. -/
def SendP (w : World) (lo p : Nat) (s : Rtt.RS) (kq : List (Pk × List Fq)) (next behind : Nat) (wd : Cg.Win) (now : Int) (qs : List Fq) (w' : World) : Prop :=
  ∃ k' qs', k'.num = next ∧ k'.at' = now ∧ k'.el = elicF qs ∧ qs'.length = qs.length ∧ (∀ (i : Nat) (q q' : Fq), qs[i]? = some q → qs'[i]? = some q' → FqSame q q') ∧ PathIn w' lo p s (kq ++ [(k', qs')]) (next + 1) behind wd ∧ Moved lo p w w'

set_option maxRecDepth 100000 in
set_option maxHeartbeats 4000000 in
theorem send_path (h : PathIn w lo p s kq next behind wd) (now : Int) (hnow : -9223372036854775808 ≤ now ∧ now ≤ 9223372036854775807) (fa : Option Addr) (fn fc : Nat) (qs : List Fq) (hql : qs.length = fn) (hfx : Rd w w.heap.size fa (fn * 9) (fqs qs)) (hfq : ∀ q ∈ qs, FqOk w q) (hfn : fn ≤ 1048576) (hfc : fn ≤ fc) (hn : next < 1800000000000) :
    Calls Try.prog 8 #[.pointer (some ⟨p, 0, none⟩), .int .i64 now, .slice fa fn fc] w fun e w' => e = .returned (.int .i64 (next : Int)) ∧ SendP w lo p s kq next behind wd now qs w' := by
  obtain ⟨cur, h1, h2, h3⟩ := h.cur
  have HP := Lib.hid h
  have H1 := Lib.hid h1
  have H2 := Lib.hid h2
  have HNX : Hid (∀ W, Below w.heap.size w W → Calls Try.prog 14 #[.pointer (some ⟨p, 4, none⟩)] W fun e w' => e = .returned (.int .i64 (next : Int)) ∧ w' = W) := fun W hb => next_led (h2.keep hb)
  have HEL : Hid (∀ W, Below w.heap.size w W → Calls Try.prog 22 #[.slice fa fn fc] W fun e w' => e = .returned (.bool (elicF qs)) ∧ Below W.heap.size W w') := fun W hb => elicits_any qs fn fc fa W hql ((hfx.below hb (Nat.le_refl _)).more hb.size) hfc hfn
  have HFX := Lib.hid hfx
  have HFQ := Lib.hid hfq
  have HQL := Lib.hid hql
  have HFN := Lib.hid hfn
  have HNOW := Lib.hid hnow
  have hnI : (next : Int) < 1800000000000 := by omega
  clear h h1 h2 h3 hfx hfq hql hfn hnow
  go_enter Try.func8, Try.ntmps8
  go_wp2_with fail
  refine (HNX.out _ (Below.refl _ _)).mono ?_; rintro e w1 ⟨rfl, hw1⟩
  have hw1 := hw1
  subst hw1
  go_wp2_with fail
  refine wp_region_held_drew (S := (fun _ => True)) (by kernel_rfl) ?_ (fun hHeld => ?_)
  · exact trivial
  refine wpAnyH_take (i := 0) (v := ?_) rfl (by kernel_rfl) (by kernel_rfl) (by kernel_rfl) (fun _ _ _ h => h) (Or.inl ⟨by rfl, ?_⟩) (by assumption) ?_
  rotate_left
  · intro w hSw; (try dsimp only at hSw); go_simp; try with_reducible rfl
  go_simp
  refine wpAnyH_take (i := 1) (v := ?_) rfl (by kernel_rfl) (by kernel_rfl) (by kernel_rfl) (fun _ _ _ h => h) (Or.inl ⟨by rfl, ?_⟩) (by assumption) ?_
  rotate_left
  · intro w hSw; (try dsimp only at hSw); go_simp; try with_reducible rfl
  go_simp
  refine wpAnyH_take (i := 2) (v := ?_) rfl (by kernel_rfl) (by kernel_rfl) (by kernel_rfl) (fun _ _ _ h => h) (Or.inl ⟨by rfl, ?_⟩) (by assumption) ?_
  rotate_left
  · intro w hSw; (try dsimp only at hSw); go_simp; try with_reducible rfl
  go_simp
  refine wpAnyH_take (i := 3) (v := ?_) rfl (by kernel_rfl) (by kernel_rfl) (by kernel_rfl) (fun _ _ _ h => h) (Or.inl ⟨by rfl, ?_⟩) (by assumption) ?_
  rotate_left
  · intro w hSw; (try dsimp only at hSw); go_simp; try with_reducible rfl
  go_simp
  refine wpAnyH_take (i := 4) (v := ?_) rfl (by kernel_rfl) (by kernel_rfl) (by kernel_rfl) (fun _ _ _ h => h) (Or.inl ⟨by rfl, ?_⟩) (by assumption) ?_
  rotate_left
  · intro w hSw; (try dsimp only at hSw); go_simp; try with_reducible rfl
  go_simp
  refine wpAnyH_take (i := 5) (v := ?_) rfl (by kernel_rfl) (by kernel_rfl) (by kernel_rfl) (fun _ _ _ h => h) (Or.inl ⟨by rfl, ?_⟩) (by assumption) ?_
  rotate_left
  · intro w hSw; (try dsimp only at hSw); go_simp; try with_reducible rfl
  go_simp
  refine wpAnyH_take (i := 7) (v := ?_) rfl (by kernel_rfl) (by kernel_rfl) (by kernel_rfl) (fun _ _ _ h => h) (Or.inl ⟨by rfl, ?_⟩) (by assumption) ?_
  rotate_left
  · intro w hSw; (try dsimp only at hSw); go_simp; try with_reducible rfl
  go_simp
  refine wpAnyH_ready (rs := [6]) (by kernel_rfl) (by simp) ?_
  refine AllReadyH.cons rfl (fun K hK => ?_) AllReadyH.nil
  go_simp
  refine (HEL.out _ ((Below.refl _ _).drew)).mono ?_
  rintro e w2 ⟨rfl, hb2⟩
  refine hK.out _ _ ?_ (fun hHeld => ?_)
  · exact trivial
  clear hK K
  go_simp
  refine wpAnyH_take (i := 8) (v := ?_) rfl (by kernel_rfl) (by kernel_rfl) (by kernel_rfl) (fun _ _ _ h => h) (Or.inl ⟨by rfl, ?_⟩) (by assumption) ?_
  rotate_left
  · intro w hSw; (try dsimp only at hSw); go_simp; try with_reducible rfl
  go_simp
  refine wpAnyH_ready (rs := [9]) (by kernel_rfl) (by simp) ?_
  refine AllReadyH.cons rfl (fun K hK => ?_) AllReadyH.nil
  go_simp
  refine hK.out _ _ ?_ (fun hHeld => ?_)
  · exact trivial
  clear hK K
  go_simp
  refine wpAnyH_ready (rs := [10]) (by kernel_rfl) (by simp) ?_
  refine AllReadyH.cons rfl (fun K hK => ?_) AllReadyH.nil
  go_simp
  have hb2' : Below w1.heap.size w1 w2 := (Below.refl w1.heap.size w1).drew.trans hb2
  obtain ⟨w3, hw3⟩ : ∃ x, w2.alloc (.cells #[.int .i64 (next : Int), .int .i64 now, .bool (elicF qs), .slice fa fn fc] 63) = x := ⟨_, rfl⟩
  have hb3 : Below w1.heap.size w1 w3 := hw3 ▸ hb2'.alloc hb2'.size _
  have hrd : Rd w3 w3.heap.size (some ⟨w2.heap.size, 0, none⟩) (1 * 4) (pks [⟨next, now, elicF qs, fa, fn, fc⟩]) := by
    rw [← hw3]
    exact rd_new _ _ _ _ _ _ _ rfl (by simp) rfl rfl
  have HPU := Lib.hid (put1_led w3 lo p 4 _ cur _ next behind (H2.out.keep hb3) now (elicF qs) fa fn fc qs HQL.out ((HFX.out.below hb3 (Nat.le_refl _)).more hb3.size) (fun q hq => (HFQ.out q hq).below hb3) HFN.out (by omega) (some ⟨w2.heap.size, 0, none⟩) 1 (Nat.le_refl _) hrd)
  have HB3 := Lib.hid hb3
  rw [hw3]
  clear hrd hb3 hb2' hw3 hb2 HEL
  refine HPU.out.mono ?_
  rintro e w4 ⟨rfl, cur', k', qs', e1, e2, e3, e4, e5, ho, hq, hl, hs, hm⟩
  replace e4 : k'.fn = fn := e4
  replace e5 : qs'.length = fn := e5
  have HS : Hid (SendP w1 lo p s kq next behind wd now qs w4) := by
    have hlt := HP.out.lt
    have hlo : lo ≤ w3.heap.size := Nat.le_trans (Nat.le_of_lt (Nat.lt_of_le_of_lt hlt.1 hlt.2)) HB3.out.size
    have hm' : Moved lo p w1 w4 := (Moved.of HB3.out (Nat.le_of_lt (Nat.lt_of_le_of_lt hlt.1 hlt.2))).trans hm
    have hlen : qs'.length = qs.length := by rw [e5]; exact HQL.out.symm
    refine ⟨k', qs', e1, e2, e3, hlen, fun i q q' h1 h2 => (hq i q q' h1 h2).1, HP.out.led H1.out hl hs hm' (by simp) (fun x hx => ?_), hm'⟩
    rcases List.mem_append.1 hx with hx | hx
    · exact .inl hx
    · right
      obtain rfl : x = (k', qs') := by simpa using hx
      refine ⟨by rw [e4, e5], by have := HFN.out; show k'.fn ≤ _; omega, by rw [e2]; exact HNOW.out, own_base ho hlo, fun q' hq' => ?_⟩
      obtain ⟨i, hi, e⟩ := List.mem_iff_getElem.1 hq'
      have h2 : qs'[i]? = some q' := by rw [List.getElem?_eq_getElem hi, e]
      have hi' : i < qs'.length := hi
      obtain ⟨q0, hq0⟩ : ∃ q0, qs[i]? = some q0 := ⟨_, List.getElem?_eq_getElem (by omega)⟩
      obtain ⟨_, f2⟩ := hq i q0 q' hq0 h2
      exact ⟨own_base f2.1 hlo, own_base f2.2 hlo⟩
  clear e1 e2 e3 e4 e5 ho hq hl hs hm HPU
  refine hK.out _ _ ?_ (fun hHeld => ?_)
  · exact trivial
  clear hK K
  go_simp
  refine wpAnyH_done (by kernel_rfl) ?_ _
  go_wp2_with fail
  go_ret
  exact ⟨rfl, HS.out⟩

end
end Go.Proofs.Ytebfjphmlggacaa.Pa
