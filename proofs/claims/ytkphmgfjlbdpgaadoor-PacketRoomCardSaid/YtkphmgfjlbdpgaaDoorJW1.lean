/- PacketRoom: the walk. Conditions: as the theorem lists them. -/
import Derived.Test.YtkphmgfjlbdpgaaDoorJ10b
import Derived.Test.YtkphmgfjlbdpgaaDoorJRz
set_option linter.unusedSimpArgs false
set_option linter.unusedVariables false

namespace Go.Proofs.YtkphmgfjlbdpgaaDoor
open Go Go.RowKit

theorem layF_take_le {fs : List Fr} (hok : ∀ f ∈ fs, OkF f) (k : Nat) : (layF (fs.take k)).length ≤ 312 * k := by
  have h := layF_len (fs := fs.take k) (fun f hf => hok f (List.mem_of_mem_take hf))
  have h2 : (fs.take k).length ≤ k := List.length_take_le _ _
  exact Nat.le_trans h (Nat.mul_le_mul_left _ h2)

theorem kN_mono (n m a : Int) (h : n ≤ m) : (kN n a : Int) ≤ (kN m a : Int) := by
  rw [← kN_eq, ← kN_eq]
  unfold Pn.bytesF
  (repeat' split) <;> omega

set_option maxRecDepth 100000 in
set_option maxHeartbeats 4000000 in
theorem proom_walk (key : Nat) (acked_ far_ more_ : Int) (A : Option Addr) (n c : Nat) (rs : List Rw) (w : World) (hkey : key < 2 ^ 64) (hL : laidMetH Tryd.prog laids w) (hr : IsRaws w A c n rs) :
    Calls Tryd.prog 10 #[.int .u64 (key : Int), .int .i64 acked_, .int .i64 far_, .int .i64 more_, .slice A n c] w fun e w' => e = .returned (.bool true) ∧ Below w.heap.size w w' := by
  have HLd := Lib.hid hL
  have HRi := Lib.hid (hright_any 5 (by decide) rs A n c w hr)
  have HK1 := Lib.hid hkey
  have P1 := Lib.hid (fun W => pick_any acked_ 1073741824 W (by decide) (by decide))
  have P2 := Lib.hid (fun W => pick_any far_ 33554432 W (by decide) (by decide))
  have P3 := Lib.hid (fun W => pick_any more_ 67108864 W (by decide) (by decide))
  obtain ⟨a, ha⟩ : ∃ x, acked_ % 1073741824 = x := ⟨_, rfl⟩
  obtain ⟨d, hd⟩ : ∃ x, far_ % 33554432 = x := ⟨_, rfl⟩
  obtain ⟨m, hm⟩ : ∃ x, more_ % 67108864 = x := ⟨_, rfl⟩
  have a0 : 0 ≤ a := by omega
  have a1 : a < 1073741824 := by omega
  have d0 : 0 ≤ d := by omega
  have d1 : d < 33554432 := by omega
  have m0 : 0 ≤ m := by omega
  have m1 : m < 67108864 := by omega
  rw [ha] at P1
  rw [hd] at P2
  rw [hm] at P3
  clear hL hr hkey ha hd hm
  go_enter Tryd.func10, Tryd.ntmps10
  go_wp2_with fail
  refine (P1.out _).mono ?_; rintro e w' ⟨rfl, rfl⟩
  go_wp2_with fail
  refine (P2.out _).mono ?_; rintro e w' ⟨rfl, rfl⟩
  go_wp2_with fail
  refine HRi.out.mono ?_
  rintro e w1 ⟨A1, n1, c1, fs, rfl, hfl, hn8, hok, hown, hbw⟩
  have HFL := Lib.hid hfl
  have HOK := Lib.hid hok
  have HF1 := Lib.hid (hown.frs hfl)
  have HB1 := Lib.hid hbw
  have hci : (n1 : Int) ≤ (c1 : Int) := by have := HF1.out.2.1; omega
  have hni : (n1 : Int) ≤ 5 := by omega
  clear hfl hok hown hbw HRi
  obtain ⟨ac, hac⟩ : ∃ x, a - 1 = x := ⟨_, rfl⟩
  rw [hac]
  obtain ⟨num, hnum⟩ : ∃ x, a + d = x := ⟨_, rfl⟩
  rw [hnum]
  have b0 : -1 ≤ ac := by omega
  have b1 : ac < num := by omega
  have b2 : num ≤ 1107296256 := by omega
  obtain ⟨k1, k4⟩ := kN_in num ac
  have HLL : Hid ((layF fs).length ≤ 1560) := by
    have := layF_len HOK.out
    have h2 := HFL.out
    show _ ≤ _
    omega
  have HKN : Hid (∀ W, Below w.heap.size w W → Calls Tryd.prog 23 #[] W fun e w' => e = .returned (.bool true) ∧ Below W.heap.size W w') := fun W hW => known6_any HLd.out hW
  have HR1 := Lib.hid (fun W => room_any num ac W (by omega) (by omega))
  have HR2 := Lib.hid (fun W => room_any (num + m) ac W (by omega) (by omega))
  have HMO := kN_mono num (num + m) ac (by omega)
  clear hac
  go_wp2_with fail
  go_loopw [14, 32] (fun v i wr => ∃ k : Nat, k ≤ n1 ∧ i = .int .i64 k ∧ v = .int .i64 (((layF (fs.take k)).length : Nat) : Int) ∧ Hid (Below w1.heap.size w1 wr)) (fun _ i _ => n1 - (intOf i).toNat)
  case atStart => exact ⟨0, Nat.zero_le _, rfl, rfl, Below.refl _ _⟩
  case round =>
    obtain ⟨k, hk, rfl, rfl, HB⟩ := hrel
    have hl := layF_take_le HOK.out k
    obtain ⟨L, hL⟩ : ∃ x, Hid ((layF (fs.take k)).length = x) := ⟨_, Lib.hid rfl⟩
    rw [hL.out] at hl ⊢
    by_cases hlt : k < n1
    · have hlti : (k : Int) < (n1 : Int) := by omega
      obtain ⟨b, off, f, A3, n3, c3, A4, n4, c4, hA, hbl, hf, hfc, hcell⟩ := HF1.out.get k hlt
      subst hA
      have hof := HOK.out f (List.mem_of_getElem? hf)
      have hel := encF_len hof
      have HZ : Hid (∀ W, Below w1.heap.size w1 W → Calls Tryd.prog 33 #[frA f A3 n3 c3 A4 n4 c4] W fun e w' => e = .returned (.int .i64 (((encF f).length : Nat) : Int)) ∧ Below W.heap.size W w') := fun W hW => by
        obtain ⟨g1, g2, g3, g4, g5, g6⟩ := hfc.isFr.below hW (Nat.le_refl _)
        exact fsz_yes f A3 n3 c3 A4 n4 c4 W ⟨g1, g2, g3.more hW.size, g4, g5, g6.more hW.size⟩ hof
      have HN : Hid ((layF (fs.take (k + 1))).length = L + (encF f).length) := by rw [layF_snoc fs k f hf, List.length_append, hL.out]; exact Lib.hid rfl
      obtain ⟨E, hE⟩ : ∃ x, Hid ((encF f).length = x) := ⟨_, Lib.hid rfl⟩
      rw [hE.out] at hel HZ HN
      have cc : ∀ j, wr.cell? ⟨b, off + k * 9 + j, none⟩ = w1.cell? ⟨b, off + k * 9 + j, none⟩ := fun j => HB.out.cell (p := ⟨b, off + k * 9 + j, none⟩) hbl
      have g0 : wr.cell? ⟨b, off + k * 9, none⟩ = some (.int .i64 f.k) := (cc 0).trans (hcell 0 _ rfl)
      have g1 : wr.cell? ⟨b, off + k * 9 + 1, none⟩ = some (.int .i64 f.id) := (cc 1).trans (hcell 1 _ rfl)
      have g2 : wr.cell? ⟨b, off + k * 9 + 2, none⟩ = some (.int .i64 f.off) := (cc 2).trans (hcell 2 _ rfl)
      have g3 : wr.cell? ⟨b, off + k * 9 + 3, none⟩ = some (.int .i64 f.a) := (cc 3).trans (hcell 3 _ rfl)
      have g4 : wr.cell? ⟨b, off + k * 9 + 4, none⟩ = some (.int .i64 f.b) := (cc 4).trans (hcell 4 _ rfl)
      have g5 : wr.cell? ⟨b, off + k * 9 + 5, none⟩ = some (.int .i64 f.note) := (cc 5).trans (hcell 5 _ rfl)
      have g6 : wr.cell? ⟨b, off + k * 9 + 6, none⟩ = some (.bool f.fin) := (cc 6).trans (hcell 6 _ rfl)
      have g7 : wr.cell? ⟨b, off + k * 9 + 7, none⟩ = some (.slice A3 n3 c3) := (cc 7).trans (hcell 7 _ rfl)
      have g8 : wr.cell? ⟨b, off + k * 9 + 8, none⟩ = some (.slice A4 n4 c4) := (cc 8).trans (hcell 8 _ rfl)
      have hwz : IntKind.i64.wrap ((L : Int) + (E : Int)) = ((L + E : Nat) : Int) := by rw [show ((L + E : Nat) : Int) = (L : Int) + (E : Int) by omega]; exact IntWalk.i64_in _ (by omega)
      unfold frA at HZ
      clear cc hcell hf hfc hof hE
      go_wp2_with fail
      refine (HZ.out _ (HB.out.alloc HB.out.size _)).mono ?_
      rintro e w2 ⟨rfl, hb2⟩
      have HB2 : Hid (Below w1.heap.size w1 w2) := (HB.out.alloc HB.out.size _).trans (hb2.mono (by have := HB.out.size; simp; omega))
      clear hb2
      go_wp2_with fail
      go_roundw
      case rel => exact ⟨k + 1, by omega, by go_num, by rw [HN.out, Int.natCast_add], HB2⟩
      case measure => simp [intOf]; omega
    · have hlti : ¬ (k : Int) < (n1 : Int) := by omega
      obtain rfl : k = n1 := by omega
      have hLF : Hid ((layF fs).length = L) := by rw [← hL.out, List.take_of_length_le (by rw [HFL.out]; exact Nat.le_refl _)]; exact Lib.hid rfl
      have HLA := Lib.hid (pkLay_any key num ac fs A1 k c1 wr (tabs_of HLd.out (HB1.out.trans (HB.out.mono HB1.out.size))) (HF1.out.below HB.out) HOK.out (by omega) HK1.out b0 b1 (by omega))
      unfold PkP at HLA
      obtain ⟨K, hK⟩ : ∃ x, kN num ac = x := ⟨_, rfl⟩
      obtain ⟨M, hM⟩ : ∃ x, kN (num + m) ac = x := ⟨_, rfl⟩
      rw [hLF.out] at HLA HLL
      rw [hK] at HLA HR1 k1 k4 HMO
      rw [hM] at HR2 HMO
      clear hK hM
      go_wp2_with fail
      refine HLA.out.mono ?_
      rintro e w2 ⟨hb2, h2, h3⟩
      have HB2 : Hid (Below w.heap.size w w2) := HB1.out.trans ((HB.out.trans (hb2.mono HB.out.size)).mono HB1.out.size)
      by_cases hfit : (L : Int) ≤ 231 - (K : Int)
      · obtain ⟨Ab, cb, rfl, ho⟩ := h2 hfit
        clear h2 h3 ho hb2
        go_wp2_with fail
        refine (HR1.out _).mono ?_; rintro e w' ⟨rfl, rfl⟩
        have hw1 : IntKind.i64.wrap (240 - (231 - (K : Int))) = 9 + (K : Int) := by rw [IntWalk.i64_in _ (by omega)]; omega
        have hw2 : IntKind.i64.wrap (9 + (K : Int) + (L : Int)) = ((K + 9 + L : Nat) : Int) := by rw [IntWalk.i64_in _ (by omega)]; omega
        go_wp2_with fail
        refine (HKN.out _ HB2.out).mono ?_
        rintro e w3 ⟨rfl, hb3⟩
        have HB3 : Hid (Below w.heap.size w w3) := HB2.out.trans (hb3.mono HB2.out.size)
        clear hb3
        go_wp2_with fail
        go_ret
        exact ⟨ret_bool (by simp; try omega), HB3.out⟩
      · obtain rfl := h3 (by omega)
        clear h2 h3 hb2
        go_wp2_with fail
        refine (HR1.out _).mono ?_; rintro e w' ⟨rfl, rfl⟩
        go_wp2_with fail
        refine (HKN.out _ HB2.out).mono ?_
        rintro e w3 ⟨rfl, hb3⟩
        have HB3 : Hid (Below w.heap.size w w3) := HB2.out.trans (hb3.mono HB2.out.size)
        clear hb3
        go_wp2_with fail
        refine (P3.out _).mono ?_; rintro e w' ⟨rfl, rfl⟩
        have hw1 : IntKind.i64.wrap (num + m) = num + m := IntWalk.i64_in _ (by omega)
        go_wp2_with fail
        refine (HR2.out _).mono ?_; rintro e w' ⟨rfl, rfl⟩
        have hge : 231 - (M : Int) ≤ 231 - (K : Int) := by omega
        go_wp2_with fail
        go_ret
        exact ⟨ret_bool (by simp; try omega), HB3.out⟩
end Go.Proofs.YtkphmgfjlbdpgaaDoor
