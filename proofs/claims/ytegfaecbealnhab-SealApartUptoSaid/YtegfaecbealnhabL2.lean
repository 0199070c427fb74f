/- Tag, read. Conditions: as each theorem lists them. -/
import Derived.Test.YtegfaecbealnhabL1
namespace Go.Proofs.Ytegfaecbealnhab
open Go Go.RowKit

/-- A value that reads as these bytes. -/
def IsPart (w : World) (B : Nat) (v : Value) (l : List Nat) : Prop :=
  ∃ A c, v = .slice A l.length c ∧ Rd w B A l.length (bv l) ∧ l.length ≤ c ∧ l.length ≤ 140737488355328 ∧ ∀ c ∈ l, c < 256
theorem IsPart.below {w w' : World} {B B' : Nat} {v : Value} {l : List Nat} (h : IsPart w B v l) (hb : Below B' w w') (hB : B ≤ B') : IsPart w' B v l := by
  obtain ⟨A, c, h1, h2, h3⟩ := h
  exact ⟨A, c, h1, h2.below hb hB, h3⟩
theorem IsPart.more {w : World} {B B' : Nat} {v : Value} {l : List Nat} (h : IsPart w B v l) (hB : B ≤ B') : IsPart w B' v l := by
  obtain ⟨A, c, h1, h2, h3⟩ := h
  exact ⟨A, c, h1, h2.more hB, h3⟩
/-- A row of them. -/
def Parts (w : World) (B : Nat) (A : Option Addr) (ps : List (List Nat)) : Prop :=
  ∃ vs, Rd w B A ps.length vs ∧ ∀ j, j < ps.length → ∃ v, vs[j]? = some v ∧ IsPart w B v (ps.getD j [])
theorem Parts.below {w w' : World} {B B' : Nat} {A : Option Addr} {ps : List (List Nat)} (h : Parts w B A ps) (hb : Below B' w w') (hB : B ≤ B') : Parts w' B A ps := by
  obtain ⟨vs, h1, h2⟩ := h
  refine ⟨vs, h1.below hb hB, fun j hj => ?_⟩
  obtain ⟨v, h3, h4⟩ := h2 j hj
  exact ⟨v, h3, h4.below hb hB⟩

theorem tagN_snoc (h : Nat) (ps : List (List Nat)) (p : List Nat) : tagN h (ps ++ [p]) = partN (tagN h ps) p := by unfold tagN; rw [List.foldl_append, List.foldl_cons, List.foldl_nil]
theorem takeD_snoc {α : Type} (l : List α) (k : Nat) (d : α) (h : k < l.length) : l.take (k + 1) = l.take k ++ [l.getD k d] := by
  rw [List.take_succ_eq_append_getElem h]
  simp [List.getD, h]
theorem len_form (n : Nat) (h : n ≤ 140737488355328) : IntKind.u64.wrap (256 + (n : Int)) = ((256 + n : Nat) : Int) := by rw [wrap_u64']; omega

set_option maxRecDepth 100000 in
set_option maxHeartbeats 1000000 in
theorem tag_any (key : Nat) (ps : List (List Nat)) (B : Nat) (A : Option Addr) (cap : Nat) (w : World) (hk : key < 2 ^ 64) (hp : Parts w B A ps) (hn : ps.length ≤ cap) (hm : ps.length ≤ 140737488355328) :
    Calls Try.prog 41 #[.int .u64 (key : Int), .slice A ps.length cap] w fun e w' => e = .returned (.int .u64 (tagN key ps : Int)) ∧ w = w' := by
  have HP := Lib.hid hp
  have HK := Lib.hid hk
  clear hp hk
  go_enter Try.func41, Try.ntmps41
  go_wp2
  go_loop [5, 13] (fun v i => ∃ k : Nat, k ≤ ps.length ∧ i = .int .i64 k ∧ v = .int .u64 (tagN key (ps.take k) : Int)) (fun _ i => ps.length - (intOf i).toNat)
  case atStart => exact ⟨0, Nat.zero_le _, rfl, rfl⟩
  case round =>
    obtain ⟨k, hk, rfl, rfl⟩ := hrel
    by_cases hlt : k < ps.length
    · have hlti : (k : Int) < (ps.length : Int) := by omega
      obtain ⟨vs, hrd, hvs⟩ := HP.out
      obtain ⟨b, off, hA, hbn, hcs⟩ := hrd.2 (by omega)
      obtain ⟨v, hv, Ap, cp, rfl, hrp, hcp, hmp, hbp⟩ := hvs k hlt
      have hcell : w.cell? ⟨b, off + k, none⟩ = some (.slice Ap (ps.getD k []).length cp) := hcs k _ hv
      have HT := Lib.hid (takeD_snoc ps k [] hlt)
      obtain ⟨l, hl⟩ : ∃ l, Hid (ps.getD k [] = l) := ⟨_, rfl⟩
      have HS : Hid (tagN key (ps.take (k + 1)) = partN (tagN key (ps.take k)) l) := by show _ = _; rw [HT.out, tagN_snoc, hl.out]
      have hh := tagN_lt (ps.take k) key HK.out
      obtain ⟨h0, hh0⟩ : ∃ h, Hid (tagN key (ps.take k) = h) := ⟨_, rfl⟩
      rw [hl.out] at hrp hcp hmp hbp hcell
      rw [hh0.out] at HS hh ⊢
      have HB := Lib.hid hbp
      have HR := Lib.hid hrp
      have HH := Lib.hid hh
      subst hA
      clear hcs hvs hrd hbp hrp hv hh
      have hlc : (l.length : Int) ≤ 140737488355328 := by omega
      go_wp2
      go_loop [5, 19] (fun v i => ∃ j : Nat, j ≤ l.length ∧ i = .int .i64 j ∧ v = .int .u64 (byN h0 (l.take j) : Int)) (fun _ i => l.length - (intOf i).toNat)
      case atStart => exact ⟨0, Nat.zero_le _, rfl, rfl⟩
      case round =>
        obtain ⟨j, hj, rfl, rfl⟩ := hrel
        have hh := byN_lt (l.take j) h0 HH.out
        by_cases hltj : j < l.length
        · have hltji : (j : Int) < (l.length : Int) := by omega
          obtain ⟨b2, off2, hA2, hbn2, hcs2⟩ := HR.out.2 (by omega)
          have hcell2 : w.cell? ⟨b2, off2 + j, none⟩ = some (.int .u8 ((l.getD j 0 : Nat) : Int)) := hcs2 j _ (bv_get l j hltj)
          have hx := getD_lt HB.out j
          have HS2 : Hid (byN h0 (l.take (j + 1)) = stpN (byN h0 (l.take j)) (l.getD j 0)) := by show _ = _; rw [take_snoc l j hltj, byN_snoc]
          obtain ⟨x, hxx⟩ : ∃ x, Hid (l.getD j 0 = x) := ⟨_, rfl⟩
          obtain ⟨h1, hh1⟩ : ∃ h, Hid (byN h0 (l.take j) = h) := ⟨_, rfl⟩
          rw [hxx.out] at hcell2 hx HS2
          rw [hh1.out] at hh HS2 ⊢
          have ST := Lib.hid (step_any h1 x w hh (lt64 hx))
          subst hA2
          clear hcs2 hh
          go_wp2_with fail
          refine ST.out.mono ?_; rintro e w' ⟨rfl, rfl⟩
          go_wp2
          go_round
          case rel => exact ⟨j + 1, by omega, by go_num, by rw [HS2.out]⟩
          case measure => simp [intOf]; omega
        · obtain rfl : j = l.length := by omega
          have e : l.take l.length = l := List.take_length
          rw [e] at hh ⊢
          clear e
          obtain ⟨h1, hh1⟩ : ∃ h, Hid (byN h0 l = h) := ⟨_, rfl⟩
          have ST := step_any h1 (256 + l.length) w (by rw [← hh1.out]; exact hh) (by omega)
          rw [show ((256 + l.length : Nat) : Int) = 256 + (l.length : Int) by omega] at ST
          have ST := Lib.hid ST
          have HS3 : Hid (stpN h1 (256 + l.length) = tagN key (ps.take (k + 1))) := by show _ = _; rw [HS.out]; unfold partN; rw [hh1.out]
          rw [hh1.out]
          clear hh
          go_wp2_with fail
          refine ST.out.mono ?_; rintro e w' ⟨rfl, rfl⟩
          go_wp2
          go_round
          case rel => exact ⟨k + 1, by omega, by go_num, by rw [← HS3.out]⟩
          case measure => simp [intOf]; omega
    · obtain rfl : k = ps.length := by omega
      have e : ps.take ps.length = ps := List.take_length
      rw [e]
      clear e
      go_wp2
      go_ret
      exact ⟨rfl, rfl⟩

/-- Eight bytes, and less, as a number, the highest first. -/
def readN (l : List Nat) : Nat := l.foldl (fun t c => t * 256 % 2 ^ 64 + c) 0
theorem readN_snoc (l : List Nat) (c : Nat) : readN (l ++ [c]) = readN l * 256 % 2 ^ 64 + c := by unfold readN; rw [List.foldl_append, List.foldl_cons, List.foldl_nil]
end Go.Proofs.Ytegfaecbealnhab
