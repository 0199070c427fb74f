/- Close, Open. Conditions: as each theorem lists them. -/
import Derived.Test.YtegfaecbealnhabL4
namespace Go.Proofs.Ytegfaecbealnhab
open Go Go.RowKit

theorem parts_two {w : World} {B : Nat} {v u : Value} {a b : List Nat} (T : TypeId) (hv : IsPart w B v a) (hu : IsPart w B u b) (hB : B ≤ w.heap.size) : Parts (w.alloc (.cells #[v, u] T)) (w.heap.size + 1) (some ⟨w.heap.size, 0, none⟩) [a, b] := by
  have hb : Below w.heap.size w (w.alloc (.cells #[v, u] T)) := (Below.refl _ _).alloc (Nat.le_refl _) _
  refine ⟨[v, u], rd_new _ _ _ _ _ _ _ rfl (by omega) rfl rfl, fun j hj => ?_⟩
  simp only [List.length_cons, List.length_nil] at hj
  have : j = 0 ∨ j = 1 := by omega
  rcases this with rfl | rfl
  · exact ⟨v, rfl, (hv.below hb hB).more (by omega)⟩
  · exact ⟨u, rfl, (hu.below hb hB).more (by omega)⟩

theorem IsPart.of_own {w : World} {base n : Nat} {v : Value} {l : List Nat} (h : w.ownsRow base 5 1 v n (bv l)) (hn : l.length ≤ 140737488355328) (hl : ∀ c ∈ l, c < 256) : IsPart w w.heap.size v l := by
  have e : n = l.length := by have := h.1; simpa [bv] using this.symm
  subst e
  obtain ⟨A, c, rfl, h1, _, _, h2⟩ := own_form h
  rw [Nat.mul_one] at h2
  exact ⟨A, c, rfl, h2, h1, hn, hl⟩

def closeF (key : Nat) (num : Int) (head body : List Nat) : List Nat :=
  maskN (stpN key (unN num)) body ++ eightN (tagN (stpN key (unN num)) [head, maskN (stpN key (unN num)) body])
theorem closeF_len (key : Nat) (num : Int) (head body : List Nat) : (closeF key num head body).length = body.length + 8 := by
  simp [closeF, maskN_len, eightN]
theorem closeF_lt (key : Nat) (num : Int) (head body : List Nat) (hb : ∀ c ∈ body, c < 256) : ∀ c ∈ closeF key num head body, c < 256 := fun c hc => by
  rw [closeF, List.mem_append] at hc
  rcases hc with h | h
  · exact maskN_lt _ _ hb c h
  · exact eightN_lt _ c h

set_option maxRecDepth 100000 in
set_option maxHeartbeats 2000000 in
theorem close_any (key : Nat) (num : Int) (head body : List Nat) (vh vb : Value) (B : Nat) (w : World) (hk : key < 2 ^ 64) (hh : IsPart w B vh head) (hb : IsPart w B vb body) (hB : B ≤ w.heap.size) (hm : body.length ≤ 140737488355320) :
    Calls Try.prog 37 #[.int .u64 (key : Int), .int .i64 num, vh, vb] w fun e w' => ∃ v', e = .returned v' ∧ w'.ownsRow w.heap.size 5 1 v' (body.length + 8) (bv (closeF key num head body)) ∧ Below w.heap.size w w' := by
  have HH := Lib.hid hh
  have HBw := Lib.hid hB
  obtain ⟨Ah, ch, rfl, _, _, _, _⟩ := hh
  obtain ⟨Ab, cb, rfl, hrb, hcb, hmb, hlb⟩ := hb
  have M := Lib.hid (mask_any key num body B Ab cb w hk hrb hB hlb hcb hmb)
  have N := Lib.hid (fun W => numbered_any key num W hk)
  have hh2 := stpN_lt key (unN num)
  unfold closeF
  obtain ⟨h, hhh⟩ : ∃ h, Hid (stpN key (unN num) = h) := ⟨_, rfl⟩
  rw [hhh.out] at M N hh2 ⊢
  have HM := Lib.hid (maskN_lt h body hlb)
  have HML := Lib.hid (maskN_len h body)
  obtain ⟨m, hmm⟩ : ∃ m, Hid (maskN h body = m) := ⟨_, rfl⟩
  rw [hmm.out] at M HM HML ⊢
  have HH2 := Lib.hid hh2
  have hT := tagN_lt [head, m] h HH2.out
  obtain ⟨t, htt⟩ : ∃ t, Hid (tagN h [head, m] = t) := ⟨_, rfl⟩
  rw [htt.out] at hT ⊢
  have HT := Lib.hid hT
  clear hk hrb hB hlb hh2 hT
  go_enter Try.func37, Try.ntmps37
  go_wp2_with fail
  refine M.out.mono ?_; rintro e w1 ⟨v1, rfl, ho1, hb1⟩
  have HP1 := Lib.hid (IsPart.of_own ho1 (by rw [HML.out]; exact hmb) HM.out)
  obtain ⟨A1, c1, e1, _⟩ := own_form ho1
  subst e1
  have H1 := Lib.hid (And.intro ho1 hb1)
  clear ho1 hb1
  go_wp2_with fail
  refine (N.out _).mono ?_; rintro e w' ⟨rfl, rfl⟩
  have HW : Hid (B ≤ w1.heap.size) := Nat.le_trans HBw.out H1.out.2.size
  have HPs := parts_two 53 ((HH.out.below H1.out.2 HBw.out).more HW.out) HP1.out (Nat.le_refl _)
  have T := tag_any h [head, m] _ _ 2 _ HH2.out HPs (Nat.le_refl _) (by simp)
  rw [htt.out] at T
  have T := Lib.hid T
  clear HPs
  go_wp2_with fail
  refine T.out.mono ?_; rintro e w' ⟨rfl, rfl⟩
  have L := Lib.hid (lay_any (.slice A1 body.length c1) body.length m t w.heap.size _ (H1.out.1.alloc (.cells #[.slice Ah head.length ch, .slice A1 body.length c1] 53)) (by have := H1.out.2.size; simp only [World.size_alloc]; omega) HT.out hm)
  go_wp2_with fail
  refine L.out.mono ?_; rintro e w3 ⟨v3, rfl, ho3, hb3⟩
  have H3 := Lib.hid (And.intro ho3 ((H1.out.2.alloc H1.out.2.size _).trans hb3))
  clear ho3 hb3
  go_wp2
  go_ret
  exact ⟨_, rfl, H3.out⟩

theorem Rd.slice_tail {w : World} {B n : Nat} {A : Option Addr} {xs : List Value} (h : Rd w B A n xs) (c p : Nat) (hp : p ≤ n) (hn : n ≤ c) : Rd w B (if (c : Int) = (p : Int) then A else A.map (·.add p)) (n - p) (xs.drop p) := by
  have := h.tail c p hp hn
  unfold tailA at this
  by_cases e : c = p
  · rw [if_pos e] at this; rw [if_pos (by omega)]; exact this
  · rw [if_neg e] at this; rw [if_neg (by omega)]; exact this

/-- What Open answers. -/
def openB (key : Nat) (num : Int) (head sealed : List Nat) : Bool :=
  decide (8 ≤ sealed.length ∧ readN (sealed.drop (sealed.length - 8)) = tagN (stpN key (unN num)) [head, sealed.take (sealed.length - 8)])

set_option maxRecDepth 100000 in
set_option maxHeartbeats 2000000 in
theorem open_short (key : Nat) (num : Int) (vh : Value) (n : Nat) (A : Option Addr) (c : Nat) (w : World) (hn : n < 8) :
    Calls Try.prog 38 #[.int .u64 (key : Int), .int .i64 num, vh, .slice A n c] w fun e w' => e = .returned (.tuple #[.slice none 0 0, .bool false]) ∧ w = w' := by
  have h1 : (n : Int) < 8 := by omega
  go_enter Try.func38, Try.ntmps38
  go_wp2
  go_ret2
  exact ⟨rfl, rfl⟩

set_option maxRecDepth 100000 in
set_option maxHeartbeats 2000000 in
theorem open_long (key : Nat) (num : Int) (head sealed : List Nat) (vh vs : Value) (B : Nat) (w : World) (hk : key < 2 ^ 64) (hh : IsPart w B vh head) (hb : IsPart w B vs sealed) (hB : B ≤ w.heap.size) (n : Nat) (hn : sealed.length = n + 8) :
    Calls Try.prog 38 #[.int .u64 (key : Int), .int .i64 num, vh, vs] w fun e w' => ∃ v', e = .returned (.tuple #[v', .bool (openB key num head sealed)]) ∧ (openB key num head sealed = true → w'.ownsRow w.heap.size 5 1 v' n (bv (maskN (stpN key (unN num)) (sealed.take n)))) ∧ (openB key num head sealed = false → v' = .slice none 0 0) ∧ Below w.heap.size w w' := by
  have HH := Lib.hid hh
  have HBw := Lib.hid hB
  obtain ⟨Ah, ch, rfl, _, _, _, _⟩ := hh
  obtain ⟨Ab, cb, rfl, hrb, hcb, hmb, hlb⟩ := hb
  rw [hn] at hrb hcb hmb ⊢
  obtain ⟨b, off, hA, _, _⟩ := hrb.2 (by omega)
  subst hA
  have hr1 := hrb.head n (by omega)
  have hr2 := hrb.tail cb n (by omega) hcb
  rw [bv_take] at hr1
  rw [bv_drop, show n + 8 - n = 8 by omega] at hr2
  have hl1 : (sealed.take n).length = n := by rw [List.length_take]; omega
  have hl2 : (sealed.drop n).length = 8 := by rw [List.length_drop]; omega
  have b1 : ∀ c ∈ sealed.take n, c < 256 := fun c hc => hlb c (List.mem_of_mem_take hc)
  have b2 : ∀ c ∈ sealed.drop n, c < 256 := fun c hc => hlb c (List.mem_of_mem_drop hc)
  have HO : Hid (openB key num head sealed = decide (readN (sealed.drop n) = tagN (stpN key (unN num)) [head, sealed.take n])) := by
    show _ = _
    unfold openB
    rw [hn, show n + 8 - 8 = n by omega]
    simp
  rw [HO.out]
  obtain ⟨a, haa⟩ : ∃ a, Hid (sealed.take n = a) := ⟨_, rfl⟩
  obtain ⟨z, hzz⟩ : ∃ z, Hid (sealed.drop n = z) := ⟨_, rfl⟩
  rw [haa.out] at hr1 hl1 b1 ⊢
  rw [hzz.out] at hr2 hl2 b2 ⊢
  clear hrb hlb
  have ht : tailA (some ⟨b, off, none⟩) cb n = some ⟨b, off + n, none⟩ := by unfold tailA; rw [if_neg (by omega)]; simp [Addr.add_lit]
  rw [ht] at hr2
  clear ht
  have R := read_any z B (some ⟨b, off + n, none⟩) (cb - n) w (by rw [hl2]; exact hr2) b2 (by omega) (by omega)
  have N := Lib.hid (fun W => numbered_any key num W hk)
  have hq := stpN_lt key (unN num)
  have HPa : Hid (IsPart w B (.slice (some ⟨b, off, none⟩) n cb) a) := ⟨_, _, by rw [hl1], by rw [hl1]; exact hr1, by omega, by omega, b1⟩
  have M := Lib.hid (fun (W : World) (h1 : Rd W B (some ⟨b, off, none⟩) a.length (bv a)) (h2 : B ≤ W.heap.size) => mask_any key num a B (some ⟨b, off, none⟩) cb W hk h1 h2 b1 (by omega) (by omega))
  obtain ⟨q, hqq⟩ : ∃ q, Hid (stpN key (unN num) = q) := ⟨_, rfl⟩
  rw [hqq.out] at N hq M HO ⊢
  have T := Lib.hid (fun (W : World) (h : IsPart W B (.slice Ah head.length ch) head ∧ IsPart W B (.slice (some ⟨b, off, none⟩) n cb) a ∧ B ≤ W.heap.size) => tag_any q [head, a] _ _ 2 _ hq (parts_two 53 h.1 h.2.1 h.2.2) (Nat.le_refl _) (by simp))
  obtain ⟨t, htt⟩ : ∃ t, Hid (tagN q [head, a] = t) := ⟨_, rfl⟩
  obtain ⟨r, hrr⟩ : ∃ r, Hid (readN z = r) := ⟨_, rfl⟩
  rw [htt.out] at T ⊢
  rw [hrr.out, hl2] at R
  rw [hrr.out] at ⊢
  have T1 := Lib.hid (T.out w ⟨HH.out, HPa.out, HBw.out⟩)
  have R := Lib.hid R
  have HRA := Lib.hid hr1
  have HL1 := Lib.hid hl1
  have hnc : (n : Int) ≤ (cb : Int) := by omega
  have hnc2 : ¬ (cb : Int) = (n : Int) := by omega
  have hnc3 : ¬ cb = n := by omega
  have hn8 : (n : Int) + 8 ≤ (cb : Int) := by omega
  clear hr1 hr2 hl1 hl2 b1 b2 hk hn hB hq
  by_cases hE : r = t
  · subst hE
    rw [decide_eq_true rfl]
    go_enter Try.func38, Try.ntmps38
    go_wp2_with fail
    refine R.out.mono ?_; rintro e w' ⟨rfl, rfl⟩
    go_wp2_with fail
    refine (N.out _).mono ?_; rintro e w' ⟨rfl, rfl⟩
    go_wp2_with fail
    refine T1.out.mono ?_; rintro e w' ⟨rfl, rfl⟩
    have M1 := M.out (w.alloc (.cells #[.slice Ah head.length ch, .slice (some ⟨b, off, none⟩) n cb] 53)) (by rw [HL1.out]; exact HRA.out.alloc HBw.out _) (by have := HBw.out; simp only [World.size_alloc]; omega)
    rw [HL1.out] at M1
    have M1 := Lib.hid M1
    go_wp2_with fail
    refine M1.out.mono ?_; rintro e w3 ⟨v3, rfl, ho3, hb3⟩
    have H3 := Lib.hid (And.intro (own_base ho3 (show w.heap.size ≤ _ by simp)) (((Below.refl _ _).alloc (Nat.le_refl _) _).trans (hb3.mono (by simp))))
    clear ho3 hb3
    go_wp2
    go_ret2
    exact ⟨_, rfl, fun _ => H3.out.1, fun h => (by cases h), H3.out.2⟩
  · have e1 : ((r : Int) == (t : Int)) = false := by simp; omega
    have e2 : ((r : Int) != (t : Int)) = true := by simp; omega
    have e3 : ¬ (r : Int) = (t : Int) := by omega
    rw [decide_eq_false hE]
    go_enter Try.func38, Try.ntmps38
    go_wp2_with fail
    refine R.out.mono ?_; rintro e w' ⟨rfl, rfl⟩
    go_wp2_with fail
    refine (N.out _).mono ?_; rintro e w' ⟨rfl, rfl⟩
    go_wp2_with fail
    refine T1.out.mono ?_; rintro e w' ⟨rfl, rfl⟩
    go_wp2
    go_ret2
    exact ⟨_, rfl, fun h => (by cases h), fun _ => rfl, (Below.refl _ _).alloc (Nat.le_refl _) _⟩
end Go.Proofs.Ytegfaecbealnhab
