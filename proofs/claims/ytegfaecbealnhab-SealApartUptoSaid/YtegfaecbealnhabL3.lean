/- read, Mask. Conditions: as each theorem lists them. -/
import Derived.Test.YtegfaecbealnhabL2
namespace Go.Proofs.Ytegfaecbealnhab
open Go Go.RowKit

theorem readN_lt (l : List Nat) (h : ∀ c ∈ l, c < 256) : readN l < 2 ^ 64 := by
  rcases List.eq_nil_or_concat l with rfl | ⟨l', c, rfl⟩
  · decide
  · rw [List.concat_eq_append, readN_snoc]
    have := h c (by simp)
    omega
theorem read_form (t c : Nat) (ht : t < 2 ^ 64) (hc : c < 256) : bits .or .u64 (IntKind.u64.wrap ((t : Int) * 256)) (c : Int) = ((t * 256 % 2 ^ 64 + c : Nat) : Int) := by
  have e1 : IntKind.u64.wrap ((t : Int) * 256) = ((t * 256 % 2 ^ 64 : Nat) : Int) := by rw [wrap_u64']; omega
  rw [e1, u64_or_nat _ _ (by omega) (lt64 hc), nat_join 8 _ _ (by omega) (by omega)]

set_option maxHeartbeats 1000000 in
theorem read_any (l : List Nat) (B : Nat) (A : Option Addr) (cap : Nat) (w : World) (hx : Rd w B A l.length (bv l)) (hb : ∀ c ∈ l, c < 256) (hn : l.length ≤ cap) (hm : l.length ≤ 140737488355328) :
    Calls Try.prog 60 #[.slice A l.length cap] w fun e w' => e = .returned (.int .u64 (readN l : Int)) ∧ w = w' := by
  have HX := Lib.hid hx
  have HB := Lib.hid hb
  clear hx hb
  go_enter Try.func60, Try.ntmps60
  go_wp2
  go_loop [3, 8] (fun v i => ∃ k : Nat, k ≤ l.length ∧ i = .int .i64 k ∧ v = .int .u64 (readN (l.take k) : Int)) (fun _ i => l.length - (intOf i).toNat)
  case atStart => exact ⟨0, Nat.zero_le _, rfl, rfl⟩
  case round =>
    obtain ⟨k, hk, rfl, rfl⟩ := hrel
    by_cases hlt : k < l.length
    · have hlti : (k : Int) < (l.length : Int) := by omega
      obtain ⟨b, off, hA, hbn, hcs⟩ := HX.out.2 (by omega)
      have hcell : w.cell? ⟨b, off + k, none⟩ = some (.int .u8 ((l.getD k 0 : Nat) : Int)) := hcs k _ (bv_get l k hlt)
      have hx := getD_lt HB.out k
      have hS : Hid (readN (l.take (k + 1)) = readN (l.take k) * 256 % 2 ^ 64 + l.getD k 0) := by show _ = _; rw [take_snoc l k hlt, readN_snoc]
      have ht := readN_lt (l.take k) (fun c hc => HB.out c (List.mem_of_mem_take hc))
      obtain ⟨x, hxx⟩ : ∃ x, Hid (l.getD k 0 = x) := ⟨_, rfl⟩
      obtain ⟨t, htt⟩ : ∃ t, Hid (readN (l.take k) = t) := ⟨_, rfl⟩
      rw [hxx.out] at hcell hx hS
      rw [htt.out] at ht hS ⊢
      have HF := Lib.hid (read_form t x ht hx)
      subst hA
      clear hcs ht
      go_wp2
      go_round
      case rel => exact ⟨k + 1, by omega, by go_num, by rw [HF.out, hS.out]⟩
      case measure => simp [intOf]; omega
    · obtain rfl : k = l.length := by omega
      have e : l.take l.length = l := List.take_length
      rw [e]
      clear e
      go_wp2
      go_ret
      exact ⟨rfl, rfl⟩

/-- Byte i of a mask. -/
def mb (h i c : Nat) : Nat := c ^^^ (stpN h i / 2 ^ 32 % 256)
def maskN (h : Nat) (l : List Nat) : List Nat := l.mapIdx fun i c => mb h i c
theorem mb_lt {h i c : Nat} (hc : c < 256) : mb h i c < 256 := Nat.xor_lt_two_pow (n := 8) hc (Nat.mod_lt _ (by decide))
theorem maskN_len (h : Nat) (l : List Nat) : (maskN h l).length = l.length := by simp [maskN]
theorem maskN_get (h : Nat) (l : List Nat) (k : Nat) (hk : k < l.length) : (maskN h l).getD k 0 = mb h k (l.getD k 0) := by simp [maskN, List.getD, hk]
theorem maskN_lt (h : Nat) (l : List Nat) (hl : ∀ c ∈ l, c < 256) : ∀ c ∈ maskN h l, c < 256 := fun c hc => by
  obtain ⟨k, hk, rfl⟩ := List.mem_iff_getElem.1 hc
  rw [maskN_len] at hk
  have := maskN_get h l k hk
  simp only [List.getD, List.getElem?_eq_getElem (show k < (maskN h l).length by rw [maskN_len]; exact hk), Option.getD_some] at this
  rw [this]
  exact mb_lt (getD_lt hl k)
theorem mask_twice (h : Nat) (l : List Nat) : maskN h (maskN h l) = l := by
  refine List.ext_getElem (by rw [maskN_len, maskN_len]) fun k h1 h2 => ?_
  simp [maskN, mb, Nat.xor_assoc]
theorem mask_app (h : Nat) (a b : List Nat) : (maskN h (a ++ b)).take a.length = maskN h a := by
  refine List.ext_getElem (by simp [maskN_len]) fun k h1 h2 => ?_
  rw [maskN_len] at h2
  simp [maskN, List.getElem_append_left, h2]

theorem mask_form (t x : Nat) (hx : x < 256) (ht : t < 2 ^ 64) : bits .xor .u8 (x : Int) ((t : Int) / 4294967296 % 256) = ((x ^^^ (t / 2 ^ 32 % 256) : Nat) : Int) := by
  have e1 : (t : Int) / 4294967296 % 256 = ((t / 2 ^ 32 % 256 : Nat) : Int) := by omega
  rw [e1, u8_xor_nat _ _ hx (by omega)]

/-- What a mask's row holds once k bytes are laid. -/
def laidN (h : Nat) (l : List Nat) (k : Nat) : List Nat := (maskN h l).take k ++ List.replicate (l.length - k) 0
theorem laidN_len (h : Nat) (l : List Nat) (k : Nat) (hk : k ≤ l.length) : (laidN h l k).length = l.length := by
  simp [laidN, maskN_len]; omega
theorem laidN_all (h : Nat) (l : List Nat) : laidN h l l.length = maskN h l := by
  simp only [laidN, Nat.sub_self, List.replicate_zero, List.append_nil]
  exact List.take_of_length_le (by rw [maskN_len]; exact Nat.le_refl _)
theorem laidN_set (h : Nat) (l : List Nat) (k : Nat) (hk : k < l.length) : (laidN h l k).set k (mb h k (l.getD k 0)) = laidN h l (k + 1) := by
  have e1 : ((maskN h l).take k).length = k := by rw [List.length_take, maskN_len]; omega
  unfold laidN
  rw [List.set_append_right _ _ (by omega), e1, Nat.sub_self, takeD_snoc (maskN h l) k 0 (by rw [maskN_len]; exact hk), maskN_get h l k hk,
    show l.length - k = (l.length - (k + 1)) + 1 by omega, List.replicate_succ, List.set_cons_zero, List.append_assoc]
  rfl
theorem made_zero (n : Nat) : (madeCells #[Value.int .u8 0] n).toList = bv (List.replicate n 0) := by
  refine List.ext_getElem (by simp [madeCells, bv]) fun k h1 h2 => ?_
  simp [madeCells, bv, Nat.mod_one]

set_option maxRecDepth 100000 in
set_option maxHeartbeats 2000000 in
theorem mask_any (key : Nat) (num : Int) (l : List Nat) (B : Nat) (A : Option Addr) (cap : Nat) (w : World) (hk : key < 2 ^ 64) (hx : Rd w B A l.length (bv l)) (hB : B ≤ w.heap.size) (hb : ∀ c ∈ l, c < 256) (hn : l.length ≤ cap) (hm : l.length ≤ 140737488355328) :
    Calls Try.prog 42 #[.int .u64 (key : Int), .int .i64 num, .slice A l.length cap] w fun e w' => ∃ v', e = .returned v' ∧ w'.ownsRow w.heap.size 5 1 v' l.length (bv (maskN (stpN key (unN num)) l)) ∧ Below w.heap.size w w' := by
  have HX := Lib.hid hx
  have HB := Lib.hid hb
  have HBw := Lib.hid hB
  have N := Lib.hid (numbered_any key num w hk)
  have hh := stpN_lt key (unN num)
  obtain ⟨h, hhh⟩ : ∃ h, Hid (stpN key (unN num) = h) := ⟨_, rfl⟩
  rw [hhh.out] at hh N ⊢
  obtain ⟨i0, hi, hz0, hz1, hz2⟩ := info_parts infoB
  have HI := Lib.hid (And.intro hi (And.intro hz0 (And.intro hz1 hz2)))
  have HM : Hid (i0.bytes * l.length ≤ 281474976710656) := by show _ ≤ _; rw [hz2]; omega
  have HM2 : Hid (l.length ≤ maxLen) := by show _ ≤ _; unfold maxLen; omega
  have hlm : (l.length : Int) ≤ 140737488355328 := by omega
  clear hx hb hk hi hz0 hz1 hz2 hB
  go_enter Try.func42, Try.ntmps42
  go_wp2_with fail
  refine N.out.mono ?_; rintro e w' ⟨rfl, rfl⟩
  go_wp2_with (refine wpList_make_full _ rfl _ _ 53 rfl w.heap.size 5 i0 (.int .u8 0) 1 Try.underlying53 HI.out.1 HI.out.2.1 HI.out.2.2.1 .i64 .i64 (l.length : Int) (l.length : Int) l.length rfl rfl rfl rfl HM.out HM2.out (Nat.le_refl _) ?_)
  intro w1 hown hgrow
  rw [made_zero] at hown
  obtain ⟨g, hg⟩ : ∃ g, Hid (w.heap.size = g) := ⟨_, rfl⟩
  have HS : Hid (w1.ownsRow w.heap.size 5 1 (.slice (some ⟨g, 0, none⟩) l.length l.length) l.length (bv (laidN h l 0)) ∧ Below w.heap.size w w1) := by
    refine ⟨?_, (Below.refl _ _).grown hgrow (Nat.le_refl _) (fun j hj => by cases hj)⟩
    rw [← hg.out]
    simpa [laidN] using hown
  clear hown hgrow
  have hgw : g < w1.heap.size := by
    rcases HS.out.1.2 with ⟨h', _⟩ | ⟨g', cap', cur, h', _, hh, _⟩
    · cases h'
    · simp only [Value.slice.injEq, Option.some.injEq, Addr.mk.injEq, and_true] at h'
      obtain ⟨⟨rfl, _⟩, _⟩ := h'
      exact (Array.getElem?_eq_some_iff.1 hh).1
  rw [hg.out]
  go_wp2
  go_loopw [19] (fun i wr => ∃ k : Nat, k ≤ l.length ∧ i = .int .i64 k ∧ Hid (wr.ownsRow w.heap.size 5 1 (.slice (some ⟨g, 0, none⟩) l.length l.length) l.length (bv (laidN h l k)) ∧ Below w.heap.size w wr)) (fun i _ => l.length - (intOf i).toNat)
  case atStart => exact ⟨0, Nat.zero_le _, rfl, HS⟩
  case round =>
    obtain ⟨k, hk, rfl, HK⟩ := hrel
    by_cases hlt : k < l.length
    · have hlti : (k : Int) < (l.length : Int) := by omega
      obtain ⟨b, off, hA, hbn, hcs⟩ := HX.out.2 (by omega)
      have hcell : wr.cell? ⟨b, off + k, none⟩ = some (.int .u8 ((l.getD k 0 : Nat) : Int)) := by
        rw [HK.out.2.cell (p := ⟨b, off + k, none⟩) (Nat.lt_of_lt_of_le hbn HBw.out)]
        exact hcs k _ (bv_get l k hlt)
      have hx := getD_lt HB.out k
      have hc2 : ∃ u, wr.cell? ⟨g, k, none⟩ = some u := by
        rw [HK.out.1.cellAt k (by omega)]
        exact ⟨_, bv_get _ k (by rw [laidN_len _ _ _ hk]; exact hlt)⟩
      obtain ⟨u, hcu⟩ := hc2
      have hfz := HK.out.1.frozenAt k
      have ST := Lib.hid (step_any h k wr hh (by omega))
      have hst := stpN_lt h k
      have HNX : Hid ((wr.setCell ⟨g, k, none⟩ (.int .u8 ((mb h k (l.getD k 0) : Nat) : Int))).ownsRow w.heap.size 5 1 (.slice (some ⟨g, 0, none⟩) l.length l.length) l.length (bv (laidN h l (k + 1))) ∧ Below w.heap.size w (wr.setCell ⟨g, k, none⟩ (.int .u8 ((mb h k (l.getD k 0) : Nat) : Int)))) := by
        refine ⟨?_, HK.out.2.setCell (by rw [hg.out]; exact Nat.le_refl _) _⟩
        have := (HK.out.1.stored k (.int .u8 ((mb h k (l.getD k 0) : Nat) : Int))).1
        rw [← laidN_set h l k hlt]
        simpa [bv, List.map_set] using this
      obtain ⟨x, hxx⟩ : ∃ x, Hid (l.getD k 0 = x) := ⟨_, rfl⟩
      obtain ⟨t, htt⟩ : ∃ t, Hid (stpN h k = t) := ⟨_, rfl⟩
      have HF := mask_form t x (by rw [← hxx.out]; exact hx) (by rw [← htt.out]; exact hst)
      have HMB : Hid (mb h k x = x ^^^ (t / 2 ^ 32 % 256)) := by show _ = _; rw [← htt.out]; rfl
      rw [← HMB.out] at HF
      have HF := Lib.hid HF
      rw [hxx.out] at hcell hx HNX
      rw [htt.out] at ST
      subst hA
      clear hcs hst HMB
      go_wp2_with fail
      refine ST.out.mono ?_; rintro e w' ⟨rfl, rfl⟩
      go_wp2
      go_roundw
      case rel => exact ⟨k + 1, by omega, by go_num, by first | exact HNX | (rw [HF.out]; exact HNX)⟩
      case measure => simp [intOf]; omega
    · obtain rfl : k = l.length := by omega
      rw [laidN_all] at HK
      go_wp2
      go_ret
      exact ⟨_, rfl, HK.out⟩
end Go.Proofs.Ytegfaecbealnhab
