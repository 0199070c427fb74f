/- The hand's Runs: a contract. Conditions: as the theorem lists them. -/
import Derived.Test.YtnhkenecogjeaaaDoorF5
namespace Go.Proofs.YtnhkenecogjeaaaDoor
open Go Go.RowKit

theorem infoI2 : (Tryd.prog.info? 22).map (fun i => (i.zero, i.size, i.bytes)) = some (some (.agg #[.int .i64 0, .int .i64 0]), 2, 16) := by kernel_rfl

/-- Runs of an Ack, right so far: first and last, one behind the other. -/
def SpsOk (es : List Int) (m : Nat) : Prop :=
  es.length = m * 2 ∧ ∀ k, k < m → 0 ≤ es.getD (2 * k) 0 ∧ es.getD (2 * k) 0 ≤ es.getD (2 * k + 1) 0 ∧ es.getD (2 * k + 1) 0 ≤ 4611686018427387903 ∧ (0 < k → es.getD (2 * k + 1) 0 + 2 ≤ es.getD (2 * (k - 1)) 0)

theorem getD_app_left (l r : List Int) (j : Nat) (h : j < l.length) : (l ++ r).getD j 0 = l.getD j 0 := by simp [List.getD, List.getElem?_append_left h]
theorem getD_app_right (l r : List Int) (j : Nat) : (l ++ r).getD (l.length + j) 0 = r.getD j 0 := by
  simp only [List.getD]
  rw [List.getElem?_append_right (by omega), Nat.add_sub_cancel_left]

theorem SpsOk.snoc {es : List Int} {m : Nat} (h : SpsOk es m) (x y : Int) (h0 : 0 ≤ x) (hxy : x ≤ y) (hy : y ≤ 4611686018427387903) (hg : 0 < m → y + 2 ≤ es.getD (2 * (m - 1)) 0) : SpsOk (es ++ [x, y]) (m + 1) := by
  obtain ⟨hl, hk⟩ := h
  refine ⟨by simp [hl]; omega, fun k hkm => ?_⟩
  rcases Nat.lt_or_ge k m with h1 | h1
  · rw [getD_app_left _ _ _ (by omega), getD_app_left _ _ _ (by omega), getD_app_left _ _ _ (by omega)]
    exact hk k h1
  · obtain rfl : k = m := by omega
    have e0 := getD_app_right es [x, y] 0
    have e1 := getD_app_right es [x, y] 1
    rw [show es.length + 0 = 2 * k by omega] at e0
    rw [show es.length + 1 = 2 * k + 1 by omega] at e1
    rw [e0, e1]
    refine ⟨h0, hxy, hy, fun hm => ?_⟩
    rw [getD_app_left _ _ _ (by omega)]
    exact hg hm

/-- What Runs has made behind k numbers. -/
def RunsW (w wr : World) (k : Nat) (low : Int) (v : Value) : Prop :=
  ∃ es, SpsOk es k ∧ 1099511627776 - 340 * (k : Int) ≤ low ∧ low ≤ 1099511627776 ∧ (0 < k → es.getD (2 * (k - 1)) 0 = low) ∧ wr.ownsRow w.heap.size 22 2 v k (ints es) ∧ Below w.heap.size w wr

theorem low_snoc (es : List Int) (k : Nat) (hl : es.length = k * 2) (x y : Int) : (es ++ [x, y]).getD (2 * (k + 1 - 1)) 0 = x := by
  have e0 := getD_app_right es [x, y] 0
  rw [show es.length + 0 = 2 * (k + 1 - 1) by omega] at e0
  rw [e0]; rfl

def RunsP (w : World) (e : Ending) (w' : World) : Prop :=
  ∃ A m c es, e = .returned (.slice A m c) ∧ 1 ≤ m ∧ m ≤ 8 ∧ SpsOk es m ∧ w'.ownsRow w.heap.size 22 2 (.slice A m c) m (ints es) ∧ Below w.heap.size w w'

set_option maxHeartbeats 2000000 in
theorem runs_any (l : List Int) (B : Nat) (A : Option Addr) (c : Nat) (w : World) (hx : Rd w B A l.length (ints l)) (hB : B ≤ w.heap.size) (hlt : ∀ n ∈ l, -9223372036854775808 ≤ n ∧ n ≤ 9223372036854775807) (hm : l.length ≤ 17592186044416) (hc : l.length ≤ c) :
    Calls Tryd.prog 41 #[.slice A l.length c] w (RunsP w) := by
  have HX := Lib.hid hx
  have HLT := Lib.hid hlt
  obtain ⟨N, hN⟩ : ∃ N, Hid (l.length = N) := ⟨_, rfl⟩
  rw [hN.out] at hm hc HX ⊢
  have hmi : (N : Int) ≤ 17592186044416 := by omega
  have hci : (N : Int) ≤ (c : Int) := by omega
  obtain ⟨i0, hi, hz0, hz1, hz2⟩ := info_parts infoI2
  have HI := Lib.hid (And.intro hi (And.intro hz0 (And.intro hz1 hz2)))
  clear hx hlt hi hz0 hz1 hz2
  go_enter Tryd.func41, Tryd.ntmps41
  go_wp2_with fail
  go_loopw [3, 4, 5] (fun v low i wr => ∃ (k : Nat) (lo : Int), k ≤ 8 ∧ k ≤ N ∧ i = .int .i64 k ∧ low = .int .i64 lo ∧ (∃ A' c', v = .slice A' k c') ∧ Hid (RunsW w wr k lo v)) (fun _ _ i _ => N - (intOf i).toNat)
  case atStart => exact ⟨0, _, by omega, by omega, rfl, rfl, ⟨_, _, rfl⟩, [], ⟨rfl, fun k h => by omega⟩, by omega, by omega, fun h => by omega, own_nil _ _ _ _, Below.refl _ _⟩
  case round =>
    obtain ⟨k, lo, hk8, hkN, rfl, rfl, ⟨A', c', rfl⟩, HK⟩ := hrel
    by_cases hlt : k < N
    · have hlti : (k : Int) < (N : Int) := by omega
      by_cases h8 : k < 8
      · have h8i : decide ((k : Int) < 8) = true := decide_eq_true (by omega)
        obtain ⟨b, off, hA, hbn, hcs⟩ := HX.out.2 (by omega)
        subst hA
        obtain ⟨x, hxk⟩ : ∃ x, Hid (l.getD k 0 = x) := ⟨_, rfl⟩
        have hbx := HLT.out x (by rw [← hxk.out]; have := hN.out; simp [List.getD, show k < l.length by omega])
        obtain ⟨es, hes⟩ := HK.out
        have HES := Lib.hid hes
        have hcx : wr.cell? ⟨b, off + k, none⟩ = some (.int .i64 x) := by
          rw [HES.out.2.2.2.2.2.cell (p := ⟨b, off + k, none⟩) (show b < w.heap.size by omega), hcs k _ (ints_get l k (by have := hN.out; omega)), hxk.out]
        have hlo1 := HES.out.2.1
        have hlo2 := HES.out.2.2.1
        have hp0 := Int.emod_nonneg x (show (300 : Int) ≠ 0 by decide)
        have hp1 := Int.emod_lt_of_pos x (show (0 : Int) < 300 by decide)
        have hq0 := Int.emod_nonneg (x.tdiv 300) (show (40 : Int) ≠ 0 by decide)
        have hq1 := Int.emod_lt_of_pos (x.tdiv 300) (show (0 : Int) < 40 by decide)
        have hd300 : wrap64 (x.tdiv 300) = x.tdiv 300 := IntWalk.wrap64_in _ (by
          have e : x.tdiv 300 = if 0 ≤ x then x / 300 else -(-x / 300) := by
            split
            · exact Int.tdiv_eq_ediv_of_nonneg (by assumption)
            · rw [← Int.neg_neg x, Int.neg_tdiv, Int.tdiv_eq_ediv_of_nonneg (by omega), Int.neg_neg]
          rw [e]; split <;> omega)
        have HD3 := Lib.hid hd300
        have HP1 := Lib.hid (fun W => pick_any x 300 W (by decide) (by decide))
        have HP2 := Lib.hid (fun W => pick_any (x.tdiv 300) 40 W (by decide) (by decide))
        obtain ⟨p, hp⟩ : ∃ p, Hid (x % 300 = p) := ⟨_, rfl⟩
        obtain ⟨q, hq⟩ : ∃ q, Hid (x.tdiv 300 % 40 = q) := ⟨_, rfl⟩
        rw [hp.out] at hp0 hp1 HP1
        rw [hq.out] at hq0 hq1 HP2
        clear hcs hes HK
        go_wp2_with fail
        refine (HP1.out _).mono ?_
        rintro e w' ⟨rfl, rfl⟩
        go_wp2_with fail
        refine (HP2.out _).mono ?_
        rintro e w' ⟨rfl, rfl⟩
        have hb2 : Hid (w.heap.size ≤ (wr.alloc (.cells #[.int .i64 (lo - 2 - p - q), .int .i64 (lo - 2 - p)] 22)).heap.size) := by have := HES.out.2.2.2.2.2.size; show _ ≤ _; simp only [World.size_alloc]; omega
        go_wp2_with (at_builtin; refine wpList_app _ rfl (.tmp 34) (.tmp 38) 23 rfl w.heap.size 22 i0 (.agg #[.int .i64 0, .int .i64 0]) 2 16 Tryd.underlying23 HI.out.1 HI.out.2.1 HI.out.2.2.1 HI.out.2.2.2 rfl (by decide) (.slice A' k c') k (ints es) rfl (HES.out.2.2.2.2.1.alloc _) (wr.heap.size + 1) (some ⟨wr.heap.size, 0, none⟩) 1 1 (ints [lo - 2 - p - q, lo - 2 - p]) rfl (rd_new _ _ _ _ _ _ _ rfl (by omega) rfl rfl) (ones_ints _) (by unfold maxLen; omega) (by omega) hb2.out ?_)
        intro v1 w1 hown1 hgrow1
        obtain ⟨A1, c1, e1, _⟩ := own_form hown1
        subst e1
        rw [← ints_app] at hown1
        have HN : Hid (RunsW w w1 (k + 1) (lo - 2 - p - q) (.slice A1 (k + 1) c1)) := by
          refine ⟨es ++ [lo - 2 - p - q, lo - 2 - p], HES.out.1.snoc _ _ (by omega) (by omega) (by omega) (fun h => by rw [HES.out.2.2.2.1 h]; omega), by omega, by omega, fun _ => low_snoc es k HES.out.1.1 _ _, hown1, (HES.out.2.2.2.2.2.alloc HES.out.2.2.2.2.2.size _).grown hgrow1 hb2.out (fun g hg => (HES.out.2.2.2.2.1.lt g hg).1)⟩
        clear hown1 hgrow1
        go_wp2_with fail
        go_roundw
        case rel => exact ⟨k + 1, _, by omega, by omega, by go_num, rfl, ⟨_, _, rfl⟩, HN⟩
        case measure => simp [intOf]; omega
      · have h8i : decide ((k : Int) < 8) = false := decide_eq_false (by omega)
        have hk0 : ((k : Int) == 0) = false := by simp; omega
        obtain ⟨es, hes⟩ := HK.out
        have HE : Hid (RunsP w (.returned (.slice A' k c')) wr) := ⟨A', k, c', es, rfl, by omega, hk8, hes.1, hes.2.2.2.2.1, hes.2.2.2.2.2⟩
        clear hes HK
        go_wp2_with fail
        go_ret
        exact HE.out
    · have hlti : ¬ (k : Int) < (N : Int) := by omega
      obtain rfl : k = N := by omega
      obtain ⟨es, hes⟩ := HK.out
      by_cases h0 : k = 0
      · have hk0 : ((k : Int) == 0) = true := by subst h0; rfl
        have HBW := Lib.hid hes.2.2.2.2.2
        have HE : Hid (RunsP w (.returned (.slice (some ⟨wr.heap.size, 0, none⟩) 1 1)) (wr.alloc (.cells #[.int .i64 3, .int .i64 3] 22))) :=
          ⟨_, 1, 1, [3, 3], rfl, by omega, by omega, ⟨rfl, fun j hj => by obtain rfl : j = 0 := by omega
                                                                          exact ⟨by decide, by decide, by decide, fun h => by omega⟩⟩, own_new wr #[.int .i64 3, .int .i64 3] _ 2 1 _ _ rfl rfl (by unfold maxLen; omega) HBW.out.size, HBW.out.alloc HBW.out.size _⟩
        clear hes HK h0
        go_wp2_with fail
        go_ret
        exact HE.out
      · have hk0 : ((k : Int) == 0) = false := by simp; omega
        have HE : Hid (RunsP w (.returned (.slice A' k c')) wr) := ⟨A', k, c', es, rfl, by omega, hk8, hes.1, hes.2.2.2.2.1, hes.2.2.2.2.2⟩
        clear hes HK
        go_wp2_with fail
        go_ret
        exact HE.out
end Go.Proofs.YtnhkenecogjeaaaDoor
