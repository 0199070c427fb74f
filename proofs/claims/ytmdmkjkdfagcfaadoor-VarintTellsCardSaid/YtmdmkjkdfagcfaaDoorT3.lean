/- The reference's Put. Conditions: as each theorem lists them. -/
import Derived.Test.YtmdmkjkdfagcfaaDoorT2
namespace Go.Proofs.YtmdmkjkdfagcfaaDoor
open Go Go.RowKit

theorem rput_any (x : Int) (w : World) (base : Nat) (v : Value) (M : Nat) (xs : List Value) (hown : w.ownsRow base 5 1 v M xs) (hm : M + wid x ≤ 140737488355328) (hbase : base ≤ w.heap.size) (hw : wid x ≠ 0) :
    Calls Tryd.prog 27 #[v, .int .i64 x] w fun e w' => ∃ v', e = .returned v' ∧ w'.ownsRow base 5 1 v' (M + wid x) (xs ++ encV x) ∧ Below base w w' := by
  obtain ⟨m, rfl⟩ : ∃ m : Nat, x = m := ⟨x.toNat, by have := wid_cases x hw; omega⟩
  rcases wid_cases (m : Int) hw with ⟨h, h1, h2⟩ | ⟨h, h1, h2⟩ | ⟨h, h1, h2⟩ | ⟨h, h1, h2⟩
  · rw [h]; exact rput_1 m w base v M xs hown (by omega) hbase h (by omega)
  · rw [h]; exact rput_2 m w base v M xs hown (by omega) hbase h (by omega)
  · rw [h]; exact rput_4 m w base v M xs hown (by omega) hbase h (by omega)
  · rw [h]; exact rput_8 m w base v M xs hown (by omega) hbase h (by omega)

set_option maxHeartbeats 1000000 in
theorem rPut_no (A : Option Addr) (m c : Nat) (l : List Int) (B2 : Nat) (A2 : Option Addr) (c2 : Nat) (w : World) (hx2 : Rd w B2 A2 l.length (ints l)) (hl : l.length < 1000000000000000) (hm : ¬ allMay l) :
    Calls Tryd.prog 16 #[.slice A m c, .slice A2 l.length c2] w fun e w' => e = .returned (.slice none 0 0) ∧ w = w' := by
  have H := Lib.hid (rSize_any l B2 A2 c2 w hx2 hl)
  rw [if_neg hm] at H
  clear hx2 hm
  go_enter Tryd.func16, Tryd.ntmps16
  go_wp2_with (go_at_call 17; refine H.out.mono ?_; rintro e w' ⟨rfl, rfl⟩)
  go_ret
  exact ⟨rfl, rfl⟩

set_option maxHeartbeats 2000000 in
theorem rPut_ok (A : Option Addr) (m c : Nat) (xs : List Value) (B : Nat) (l : List Int) (B2 : Nat) (A2 : Option Addr) (c2 : Nat) (w : World) (hx : Rd w B A m xs) (hB : B ≤ w.heap.size) (h1 : ones xs)
    (hx2 : Rd w B2 A2 l.length (ints l)) (hB2 : B2 ≤ w.heap.size) (hl : l.length < 1000000000000000) (hm : allMay l) (hz : m + sumW l ≤ 140737488355328) :
    Calls Tryd.prog 16 #[.slice A m c, .slice A2 l.length c2] w fun e w' => ∃ v', e = .returned v' ∧ w'.ownsRow w.heap.size 5 1 v' (m + sumW l) (xs ++ encs l) ∧ Below w.heap.size w w' := by
  have H := Lib.hid (rSize_any l B2 A2 c2 w hx2 hl)
  rw [if_pos hm] at H
  have HX := Lib.hid hx
  have H1 := Lib.hid h1
  have HX2 := Lib.hid hx2
  have HM := Lib.hid hm
  have hsw : Hid (∀ k, sumW (l.take k) ≤ sumW l) := fun k => by
    have e := congrArg sumW (List.take_append_drop k l)
    rw [sumW_app] at e
    omega
  clear hx2 hm hx h1
  obtain ⟨i0, hi, hz0, hz1, hz2⟩ := info_parts info5
  have HI := Lib.hid (And.intro hi (And.intro hz0 (And.intro hz1 hz2)))
  clear hi hz0 hz1 hz2
  go_enter Tryd.func16, Tryd.ntmps16
  go_wp2_with fail
  refine H.out.mono ?_; rintro e w' ⟨rfl, rfl⟩
  go_wp2_with (at_builtin; refine wpList_app _ rfl _ _ 22 rfl w.heap.size 5 i0 (.int .u8 0) 1 Tryd.underlying22 HI.out.1 HI.out.2.1 HI.out.2.2.1 HI.out.2.2.2 rfl (.slice (some ⟨w.heap.size, 0, none⟩) 0 0) 0 [] rfl (own_new w #[] 5 0 w.heap.size w.heap.size rfl rfl (by unfold maxLen; omega) (Nat.le_refl _)) B A m c xs rfl (HX.out.below ((Below.refl _ _).alloc (Nat.le_refl _) _) hB) H1.out (by unfold maxLen; omega) (by omega) (by simp) ?_)
  intro v1 w1 hown1 hgrow1
  have HB1 : Hid (Below w.heap.size w w1) := ((Below.refl _ _).alloc (Nat.le_refl _) _).grown hgrow1 (by simp) (fun j hj => by simp [Value.ownBlock] at hj; omega)
  try simp only [Nat.zero_add, List.nil_append] at hown1
  have HO := Lib.hid hown1
  clear hown1 hgrow1
  go_wp2_with fail
  go_loopw [5, 6] (fun v i wr => ∃ k : Nat, k ≤ l.length ∧ i = .int .i64 k ∧ Hid (wr.ownsRow w.heap.size 5 1 v (m + sumW (l.take k)) (xs ++ encs (l.take k)) ∧ Below w.heap.size w wr)) (fun _ i _ => l.length - (intOf i).toNat)
  case atStart => exact ⟨0, by omega, rfl, by simpa [sumW, encs] using HO.out, HB1.out⟩
  case round =>
    obtain ⟨k, hk, rfl, HK⟩ := hrel
    by_cases hlt : k < l.length
    · have hltd : decide (k < l.length) = true := by simpa using hlt
      have hlti : (k : Int) < (l.length : Int) := by omega
      obtain ⟨b, off, hA, hbn, hcs⟩ := HX2.out.2 (by omega)
      subst hA
      obtain ⟨x, hx⟩ : ∃ x, Hid (l[k] = x) := ⟨l[k], rfl⟩
      have hcell : wr.cell? ⟨b, off + k, none⟩ = some (.int .i64 x) := by
        rw [HK.out.2.cell (p := ⟨b, off + k, none⟩) (Nat.lt_of_lt_of_le hbn hB2), hcs k _ (ints_get l k hlt)]
        simp [List.getD, hlt, hx.out]
      have hxw : Hid (wid x ≠ 0) := by rw [← hx.out]; exact HM.out _ (List.getElem_mem hlt)
      have hsn : Hid (sumW (l.take (k + 1)) = sumW (l.take k) + wid x) := by rw [take_snoc' l k hlt, sumW_snoc, hx.out]; exact rfl
      have hen : Hid (encs (l.take (k + 1)) = encs (l.take k) ++ encV x) := by rw [take_snoc' l k hlt, encs_snoc, hx.out]; exact rfl
      have HP := Lib.hid (rput_any x wr w.heap.size u5 (m + sumW (l.take k)) (xs ++ encs (l.take k)) HK.out.1 (by have := hsw.out (k + 1); rw [hsn.out] at this; omega) HK.out.2.size hxw.out)
      clear hcs
      go_wp2_with fail
      refine HP.out.mono ?_; rintro e w2 ⟨v2, rfl, ho2, hb2⟩
      have HN : Hid (w2.ownsRow w.heap.size 5 1 v2 (m + sumW (l.take (k + 1))) (xs ++ encs (l.take (k + 1))) ∧ Below w.heap.size w w2) := by
        refine ⟨?_, HK.out.2.trans hb2⟩
        rw [hsn.out, hen.out, ← Nat.add_assoc, ← List.append_assoc]
        exact ho2
      clear ho2 hb2
      go_wp2
      go_roundw
      case rel => exact ⟨k + 1, by omega, by go_num, HN⟩
      case measure => simp [intOf]; omega
    · have hltd : decide (k < l.length) = false := by simpa using hlt
      have hlti : ¬ (k : Int) < (l.length : Int) := by omega
      have ht : l.take k = l := List.take_of_length_le (by omega)
      rw [ht] at HK
      clear ht
      go_wp2
      go_ret
      exact ⟨_, rfl, HK.out.1, HK.out.2⟩
end Go.Proofs.YtmdmkjkdfagcfaaDoor
