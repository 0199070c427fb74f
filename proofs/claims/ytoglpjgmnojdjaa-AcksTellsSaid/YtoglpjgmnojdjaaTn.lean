/- AcksTells: the walk. Conditions: as the theorem lists them. -/
import Derived.Test.YtoglpjgmnojdjaaTm
import Derived.Test.YtoglpjgmnojdjaaQs
import Derived.Test.YtoglpjgmnojdjaaAkKn
import Derived.Deep.RegionHeld3
set_option linter.unusedSimpArgs false
set_option linter.unusedVariables false
namespace Go.Proofs.Ytoglpjgmnojdjaa.Sp
open Go Go.RowKit

set_option maxRecDepth 100000 in
set_option maxHeartbeats 16000000 in
theorem tells_walk (A : Option Addr) (c : Nat) (l : List Int) (A1 : Option Addr) (c1 : Nat) (l1 : List Bool) (m : Int) (w : World) (hl : IsInts w A c l) (he : IsBools w A1 c1 l1) (_ : -9223372036854775808 ≤ m) (_ : m ≤ 9223372036854775807) :
    Calls Try.prog 5 #[.slice A l.length c, .slice A1 l1.length c1, .int .i64 m] w fun e w' => e = .returned (.bool true) ∧ Below w.heap.size w w' := by
  have HL := Lib.hid hl
  have HE := Lib.hid he
  obtain ⟨n, hn⟩ : ∃ n, Hid (l.length = n) := ⟨_, rfl⟩
  obtain ⟨n1, hn1⟩ : ∃ n, Hid (l1.length = n) := ⟨_, rfl⟩
  have hnc : n ≤ c := by rw [← hn.out]; exact hl.cap
  have hn1c : n1 ≤ c1 := by rw [← hn1.out]; exact he.le
  have hnm : (n : Int) ≤ 17592186044416 := by have := hl.reach; rw [hn.out] at this; omega
  have hn1m : (n1 : Int) ≤ 9223372036854775807 := by have := he.le; have := he.big; have := hn1.out; unfold maxLen at *; omega
  rw [hn.out, hn1.out]
  clear hl he
  go_enter Try.func5, Try.ntmps5
  go_wp2_with fail
  refine (new_any _).mono ?_
  rintro e w1 ⟨p, rfl, hpw, hs, hb⟩
  have HS1 := Lib.hid hs
  have HB1 := Lib.hid hb
  have hp1 := Lib.hid hs.lt
  clear hs hb
  go_wp2_with fail
  refine (Ref.rnew_any _).mono ?_
  rintro e w2 ⟨r, rfl, hrw, hr, hb⟩
  have HBO : Hid (Both w w2 p r st0) := ⟨win0, HS1.out.below hb, hr, HB1.out.trans (hb.mono HB1.out.size), by have := hp1.out; omega, hpw, Nat.le_trans HB1.out.size hrw⟩
  clear hr hb HS1 hrw hp1 HB1
  go_wp2_with fail
  refine (AkKnown.known_any _).mono ?_
  rintro e w3 ⟨rfl, hb⟩
  have HST := Lib.hid (HBO.out.goes hb)
  clear hb HBO
  go_wp2_with fail
  go_loopw [27] (fun i wr => ∃ (k : Nat) (s : St), k ≤ n ∧ i = .int .i64 k ∧ Hid (Both w wr p r s)) (fun i _ => n - (intOf i).toNat)
  case atStart => exact ⟨0, st0, Nat.zero_le _, rfl, HST⟩
  case round =>
    clear HST
    obtain ⟨k, s, hk, rfl, HBB⟩ := hrel
    by_cases hlt : k < n
    · have hlti : (k : Int) < (n : Int) := by omega
      have hki : (k : Int) ≤ 17592186044416 := by omega
      obtain ⟨_, b, off, hA, hbn, hcs⟩ := HL.out.rd.int (by rw [hn.out]; omega)
      subst hA
      obtain ⟨x, hx⟩ : ∃ x, Hid (l.getD k 0 = x) := ⟨_, rfl⟩
      have hcx : wr.cell? ⟨b, off + k, none⟩ = some (.int .i64 x) := by
        rw [HBB.out.below.cell (p := ⟨b, off + k, none⟩) hbn, hcs k (by rw [hn.out]; omega), hx.out]
      have hxb := HL.out.lt x (by rw [← hx.out]; simp only [List.getD]; rw [List.getElem?_eq_getElem (by rw [hn.out]; omega)]; exact List.getElem_mem _)
      have HXB := Lib.hid hxb
      clear hcs hxb
      obtain ⟨el, hel⟩ : ∃ el, Hid ((if k < n1 then l1.getD k false else false) = el) := ⟨_, rfl⟩
      have hce : k < n1 → ∃ b1 o1, A1 = some ⟨b1, o1, none⟩ ∧ wr.cell? ⟨b1, o1 + k, none⟩ = some (.bool el) := fun h => by
        obtain ⟨b1, o1, e1, h1, h2⟩ := HE.out.get k (by rw [hn1.out]; exact h)
        refine ⟨b1, o1, e1, ?_⟩
        rw [HBB.out.below.cell (p := ⟨b1, o1 + k, none⟩) h1, h2, ← hel.out, if_pos h]
      have HCE := Lib.hid hce
      have HCN : Hid (¬ k < n1 → false = el) := fun h => by rw [← hel.out, if_neg h]
      clear hce hel
      go_upto_if 36 with (go_at_call 11; refine (pick_any x _ _ (by omega) (by omega)).mono ?_; rintro e w' ⟨rfl, rfl⟩)
      go_cut [11] (fun v wx => ∃ kk : Int, v = .int .i64 kk ∧ wr = wx)
      case first =>
        cases ht : (x % 23 == 22) with
        | true =>
          go_wp2_with fail
          refine (num_any x _ HXB.out.1 HXB.out.2).mono ?_
          rintro e w' ⟨rfl, rfl⟩
          go_wp2_with fail
          go_meet
          case rel => exact ⟨_, rfl, rfl⟩
        | false =>
          go_wp2_with fail
          go_meet
          case rel => exact ⟨_, rfl, rfl⟩
      case rest =>
        obtain ⟨kk, rfl, rfl⟩ := hcut
        go_upto_region 11 with fail
        go_cut [12] (fun v wx => v = .bool el ∧ wr = wx)
        case first =>
          by_cases hlt1 : k < n1
          · obtain ⟨b1, o1, e1, hce1⟩ := HCE.out hlt1
            subst e1
            have hlt1i : (k : Int) < (n1 : Int) := by omega
            go_wp2_with fail
            go_meet
            case rel => exact ⟨rfl, rfl⟩
          · have hlt1i : ¬ (k : Int) < (n1 : Int) := by omega
            go_wp2_with fail
            go_meet
            case rel => exact ⟨by rw [HCN.out hlt1], rfl⟩
        case rest =>
          obtain ⟨rfl, rfl⟩ := hcut
          clear HCE HCN HXB hcx
          go_wp2_with fail
          have HBD : Hid (Both w wr.drew p r s) := HBB.out.goes ((Below.refl _ _).drew)
          have HNO := Lib.hid (note_any s HBB.out.win p kk el wr.drew HBD.out.mine)
          obtain ⟨s2, hs2⟩ : ∃ x, Hid (noteS s kk el = x) := ⟨_, rfl⟩
          obtain ⟨so, hso⟩ : ∃ x, Hid ((noteS s kk el).ow = x) := ⟨_, rfl⟩
          obtain ⟨sn, hsn⟩ : ∃ x, Hid ((noteS s kk el).nw = x) := ⟨_, rfl⟩
          obtain ⟨hv, hhv⟩ : ∃ x, Hid (mem (noteS s kk el).es kk = x) := ⟨_, rfl⟩
          have HC2 : Hid (∀ W, Both w W p r (noteS s kk el) → W.cell? ⟨p, 1, none⟩ = some (.bool so) ∧ W.cell? ⟨r, 1, none⟩ = some (.bool so) ∧ W.cell? ⟨r, 2, none⟩ = some (.int .i64 sn)) := fun W h => by
            rw [← hso.out, ← hsn.out]
            exact ⟨h.mine.cells.1, h.ref.cells.1, h.ref.cells.2.1⟩
          have HHA : Hid (∀ W, Both w W p r (noteS s kk el) → Calls Try.prog 15 #[.pointer (some ⟨p, 0, none⟩), .int .i64 kk] W fun e w' => e = .returned (.bool hv) ∧ ∃ q, w' = W.drewN q) := fun W h => by
            obtain ⟨v, h1⟩ := h.mine
            obtain ⟨A', c', hat, _⟩ := h1.at (by have := h.win.len; omega)
            rw [← hhv.out]
            exact has_any _ W.heap.size p 0 A' c' kk W hat
          have HRH : Hid (∀ W, Both w W p r (noteS s kk el) → Calls Try.prog 16 #[.pointer (some ⟨r, 0, none⟩), .int .i64 kk] W fun e w' => e = .returned (.bool hv) ∧ W = w') := fun W h => by
            obtain ⟨v, h1⟩ := h.ref
            rw [← hhv.out]
            exact Ref.rhas_any _ r 0 _ _ kk W h1 (by have := h.win.len; omega)
          refine wp_region_held_drew (S := fun _ => True) (by kernel_rfl) ?_ (fun hHeld => ?_)
          · exact trivial
          refine wpAnyH_take (i := 0) (v := ?_) rfl (by kernel_rfl) (by kernel_rfl) (by kernel_rfl) (fun _ _ _ h => h) (Or.inl ⟨by rfl, ?_⟩) (by assumption) ?_
          rotate_left
          · intro w hSw; (try dsimp only at hSw); go_simp; try with_reducible rfl
          go_simp
          refine wpAnyH_take (i := 1) (v := ?_) rfl (by kernel_rfl) (by kernel_rfl) (by kernel_rfl) (fun _ _ _ h => h) (Or.inl ⟨by rfl, ?_⟩) (by assumption) ?_
          rotate_left
          · intro w hSw; (try dsimp only at hSw); go_simp; try with_reducible rfl
          go_simp
          refine wpAnyH_take (i := 2) (v := ?_) rfl (by kernel_rfl) (by kernel_rfl) (by kernel_rfl) (fun _ _ _ h => h) (Or.inl ⟨by rfl, ?_⟩) (by assumption) ?_
          rotate_left
          · intro w hSw; (try dsimp only at hSw); go_simp; try with_reducible rfl
          go_simp
          refine wpAnyH_take (i := 4) (v := ?_) rfl (by kernel_rfl) (by kernel_rfl) (by kernel_rfl) (fun _ _ _ h => h) (Or.inl ⟨by rfl, ?_⟩) (by assumption) ?_
          rotate_left
          · intro w hSw; (try dsimp only at hSw); go_simp; try with_reducible rfl
          go_simp
          refine wpAnyH_take (i := 5) (v := ?_) rfl (by kernel_rfl) (by kernel_rfl) (by kernel_rfl) (fun _ _ _ h => h) (Or.inl ⟨by rfl, ?_⟩) (by assumption) ?_
          rotate_left
          · intro w hSw; (try dsimp only at hSw); go_simp; try with_reducible rfl
          go_simp
          refine wpAnyH_take (i := 6) (v := ?_) rfl (by kernel_rfl) (by kernel_rfl) (by kernel_rfl) (fun _ _ _ h => h) (Or.inl ⟨by rfl, ?_⟩) (by assumption) ?_
          rotate_left
          · intro w hSw; (try dsimp only at hSw); go_simp; try with_reducible rfl
          go_simp
          refine wpAnyH_ready (rs := [3]) (by kernel_rfl) (by simp) ?_
          refine AllReadyH.cons rfl (fun K hK => ?_) AllReadyH.nil
          go_simp
          refine HNO.out.mono ?_
          rintro e w1 ⟨rfl, h1, g1⟩
          have H1 := Lib.hid h1
          have G1 := Lib.hid g1
          have HRN := Lib.hid (Ref.rnote_any s HBB.out.win r kk el w1 (HBD.out.ref1 G1.out))
          clear h1 g1
          refine hK.out _ _ ?_ (fun hHeld => ?_)
          · exact trivial
          clear hK K
          go_simp
          refine wpAnyH_ready (rs := [7]) (by kernel_rfl) (by simp) ?_
          refine AllReadyH.cons rfl (fun K hK => ?_) AllReadyH.nil
          go_simp
          refine HRN.out.mono ?_
          rintro e w2 ⟨rfl, h2, g2⟩
          have HB2 := Lib.hid (HBD.out.note kk el H1.out G1.out h2 g2)
          have HS2 := Lib.hid (HC2.out w2 HB2.out)
          clear h2 g2
          refine hK.out _ _ ?_ (fun hHeld => ?_)
          · exact trivial
          clear hK K
          go_simp
          refine wpAnyH_turn (S2 := fun W => W.cell? ⟨p, 1, none⟩ = some (.bool so) ∧ W.cell? ⟨r, 1, none⟩ = some (.bool so) ∧ W.cell? ⟨r, 2, none⟩ = some (.int .i64 sn)) (fun _ _ => trivial) HS2.out (fun hHeld => ?_)
          refine wpAnyH_take (i := 8) (v := ?_) rfl (by kernel_rfl) (by kernel_rfl) (by kernel_rfl) (fun _ _ _ h => h) (Or.inl ⟨by rfl, ?_⟩) (by assumption) ?_
          rotate_left
          · intro w hSw; (try dsimp only at hSw); go_simp; try with_reducible rfl
          go_simp
          refine wpAnyH_take (i := 9) (v := ?_) rfl (by kernel_rfl) (by kernel_rfl) (by kernel_rfl) (fun _ _ _ h => h) (Or.inl ⟨by rfl, ?_⟩) (by assumption) ?_
          rotate_left
          · intro w hSw; (try dsimp only at hSw); go_simp; try with_reducible rfl
          go_simp
          refine wpAnyH_take (i := 10) (v := ?_) rfl (by kernel_rfl) (by kernel_rfl) (by kernel_rfl) (fun _ _ _ h => h) (Or.inl ⟨by rfl, ?_⟩) (by assumption) ?_
          rotate_left
          · intro w hSw; (try dsimp only at hSw); go_simp; try with_reducible rfl
          go_simp
          refine wpAnyH_take (i := 11) (v := ?_) rfl (by kernel_rfl) (by kernel_rfl) (by kernel_rfl) (fun _ _ _ h => h) (Or.inl ⟨by rfl, ?_⟩) (by assumption) ?_
          rotate_left
          · intro w hSw; (try dsimp only at hSw); go_simp; try with_reducible rfl
          go_simp
          refine wpAnyH_take (i := 12) (v := ?_) rfl (by kernel_rfl) (by kernel_rfl) (by kernel_rfl) (fun _ _ _ h => h) (Or.inl ⟨by rfl, ?_⟩) (by assumption) ?_
          rotate_left
          · intro w hSw; (try dsimp only at hSw); go_simp; try with_reducible rfl
          go_simp
          refine wpAnyH_take (i := 13) (v := ?_) rfl (by kernel_rfl) (by kernel_rfl) (by kernel_rfl) (fun _ _ _ h => h) (Or.inl ⟨by rfl, ?_⟩) (by assumption) ?_
          rotate_left
          · intro w hSw; (try dsimp only at hSw); go_simp; try with_reducible rfl
          go_simp
          refine wpAnyH_take (i := 14) (v := ?_) rfl (by kernel_rfl) (by kernel_rfl) (by kernel_rfl) (fun _ _ _ h => h) (Or.inl ⟨by rfl, ?_⟩) (by assumption) ?_
          rotate_left
          · intro w hSw; (try dsimp only at hSw); go_simp; try with_reducible rfl
          go_simp
          refine wpAnyH_take (i := 15) (v := ?_) rfl (by kernel_rfl) (by kernel_rfl) (by kernel_rfl) (fun _ _ _ h => h) (Or.inl ⟨by rfl, ?_⟩) (by assumption) ?_
          rotate_left
          · intro w hSw; (try dsimp only at hSw); go_simp; try with_reducible rfl
          go_simp
          refine wpAnyH_take (i := 16) (v := ?_) rfl (by kernel_rfl) (by kernel_rfl) (by kernel_rfl) (fun _ _ _ h => h) (Or.inl ⟨by rfl, ?_⟩) (by assumption) ?_
          rotate_left
          · intro w hSw; (try dsimp only at hSw); go_simp; try with_reducible rfl
          go_simp
          refine wpAnyH_take (i := 17) (v := ?_) rfl (by kernel_rfl) (by kernel_rfl) (by kernel_rfl) (fun _ _ _ h => h) (Or.inl ⟨by rfl, ?_⟩) (by assumption) ?_
          rotate_left
          · intro w hSw; (try dsimp only at hSw); go_simp; try with_reducible rfl
          go_simp
          refine wpAnyH_take (i := 18) (v := ?_) rfl (by kernel_rfl) (by kernel_rfl) (by kernel_rfl) (fun _ _ _ h => h) (Or.inl ⟨by rfl, ?_⟩) (by assumption) ?_
          rotate_left
          · intro w hSw; (try dsimp only at hSw); go_simp; try with_reducible rfl
          go_simp
          refine wpAnyH_take (i := 19) (v := ?_) rfl (by kernel_rfl) (by kernel_rfl) (by kernel_rfl) (fun _ _ _ h => h) (Or.inl ⟨by rfl, ?_⟩) (by assumption) ?_
          rotate_left
          · intro w hSw; (try dsimp only at hSw); go_simp; try with_reducible rfl
          go_simp
          refine wpAnyH_take (i := 20) (v := ?_) rfl (by kernel_rfl) (by kernel_rfl) (by kernel_rfl) (fun _ _ _ h => h) (Or.inl ⟨by rfl, ?_⟩) (by assumption) ?_
          rotate_left
          · intro w hSw; (try dsimp only at hSw); go_simp; try with_reducible rfl
          go_simp
          refine wpAnyH_take (i := 21) (v := ?_) rfl (by kernel_rfl) (by kernel_rfl) (by kernel_rfl) (fun _ _ _ h => h) (Or.inl ⟨by rfl, ?_⟩) (by assumption) ?_
          rotate_left
          · intro w hSw; (try dsimp only at hSw); go_simp; try with_reducible rfl
          go_simp
          refine wpAnyH_take (i := 23) (v := ?_) rfl (by kernel_rfl) (by kernel_rfl) (by kernel_rfl) (fun _ _ _ h => h) (Or.inl ⟨by rfl, ?_⟩) (by assumption) ?_
          rotate_left
          · intro w hSw; (try dsimp only at hSw); go_simp; try with_reducible rfl
          go_simp
          refine wpAnyH_take (i := 24) (v := ?_) rfl (by kernel_rfl) (by kernel_rfl) (by kernel_rfl) (fun _ _ _ h => h) (Or.inl ⟨by rfl, ?_⟩) (by assumption) ?_
          rotate_left
          · intro w hSw; (try dsimp only at hSw); go_simp; try with_reducible rfl
          go_simp
          refine wpAnyH_take (i := 25) (v := ?_) rfl (by kernel_rfl) (by kernel_rfl) (by kernel_rfl) (fun _ _ _ h => h) (Or.inl ⟨by rfl, ?_⟩) (by assumption) ?_
          rotate_left
          · intro w hSw; (try dsimp only at hSw); go_simp; try with_reducible rfl
          go_simp
          refine wpAnyH_take (i := 26) (v := ?_) rfl (by kernel_rfl) (by kernel_rfl) (by kernel_rfl) (fun _ _ _ h => h) (Or.inl ⟨by rfl, ?_⟩) (by assumption) ?_
          rotate_left
          · intro w hSw; (try dsimp only at hSw); go_simp; try with_reducible rfl
          go_simp
          refine wpAnyH_ready (rs := [22]) (by kernel_rfl) (by simp) ?_
          refine AllReadyH.cons rfl (fun K hK => ?_) AllReadyH.nil
          go_simp
          refine (newest_any p sn _ (by rw [← hsn.out]; exact HB2.out.mine.cells.2.1) (by rw [← hsn.out]; exact HB2.out.win.lo) (by rw [← hsn.out]; have := HB2.out.win.hi; omega)).mono ?_
          rintro e w' ⟨rfl, hw'⟩
          subst hw'
          refine hK.out _ _ ?_ (fun hHeld => ?_)
          · exact HS2.out
          clear hK K
          go_simp
          refine wpAnyH_take (i := 27) (v := ?_) rfl (by kernel_rfl) (by kernel_rfl) (by kernel_rfl) (fun _ _ _ h => h) (Or.inl ⟨by rfl, ?_⟩) (by assumption) ?_
          rotate_left
          · intro w hSw; (try dsimp only at hSw); go_simp; try with_reducible rfl
          go_simp
          refine wpAnyH_take (i := 28) (v := ?_) rfl (by kernel_rfl) (by kernel_rfl) (by kernel_rfl) (fun _ _ _ h => h) (Or.inl ⟨by rfl, ?_⟩) (by assumption) ?_
          rotate_left
          · intro w hSw; (try dsimp only at hSw); go_simp; try with_reducible rfl
          go_simp
          refine wpAnyH_take (i := 29) (v := ?_) rfl (by kernel_rfl) (by kernel_rfl) (by kernel_rfl) (fun _ _ _ h => h) (Or.inl ⟨by rfl, ?_⟩) (by assumption) ?_
          rotate_left
          · intro w hSw; (try dsimp only at hSw); go_simp; try with_reducible rfl
          go_simp
          refine wpAnyH_take (i := 30) (v := ?_) rfl (by kernel_rfl) (by kernel_rfl) (by kernel_rfl) (fun _ _ _ h => h) (Or.inl ⟨by rfl, ?_⟩) (by assumption) ?_
          rotate_left
          · intro w hSw; (try dsimp only at hSw); go_simp; try with_reducible rfl
          go_simp
          refine wpAnyH_take (i := 31) (v := ?_) rfl (by kernel_rfl) (by kernel_rfl) (by kernel_rfl) (fun _ _ _ h => h) (Or.inl ⟨by rfl, ?_⟩) (by assumption) ?_
          rotate_left
          · intro w hSw; (try dsimp only at hSw); go_simp; try with_reducible rfl
          go_simp
          refine wpAnyH_take (i := 32) (v := ?_) rfl (by kernel_rfl) (by kernel_rfl) (by kernel_rfl) (fun _ _ _ h => h) (Or.inl ⟨by rfl, ?_⟩) (by assumption) ?_
          rotate_left
          · intro w hSw; (try dsimp only at hSw); go_simp; try with_reducible rfl
          go_simp
          refine wpAnyH_take (i := 33) (v := ?_) rfl (by kernel_rfl) (by kernel_rfl) (by kernel_rfl) (fun _ _ _ h => h) (Or.inl ⟨by rfl, ?_⟩) (by assumption) ?_
          rotate_left
          · intro w hSw; (try dsimp only at hSw); go_simp; try with_reducible rfl
          go_simp
          refine wpAnyH_take (i := 35) (v := ?_) rfl (by kernel_rfl) (by kernel_rfl) (by kernel_rfl) (fun _ _ _ h => h) (Or.inl ⟨by rfl, ?_⟩) (by assumption) ?_
          rotate_left
          · intro w hSw; (try dsimp only at hSw); go_simp; try with_reducible rfl
          go_simp
          refine wpAnyH_take (i := 36) (v := ?_) rfl (by kernel_rfl) (by kernel_rfl) (by kernel_rfl) (fun _ _ _ h => h) (Or.inl ⟨by rfl, ?_⟩) (by assumption) ?_
          rotate_left
          · intro w hSw; (try dsimp only at hSw); go_simp; try with_reducible rfl
          go_simp
          refine wpAnyH_take (i := 37) (v := ?_) rfl (by kernel_rfl) (by kernel_rfl) (by kernel_rfl) (fun _ _ _ h => h) (Or.inl ⟨by rfl, ?_⟩) (by assumption) ?_
          rotate_left
          · intro w hSw; (try dsimp only at hSw); go_simp; try with_reducible rfl
          go_simp
          refine wpAnyH_take (i := 38) (v := ?_) rfl (by kernel_rfl) (by kernel_rfl) (by kernel_rfl) (fun _ _ _ h => h) (Or.inl ⟨by rfl, ?_⟩) (by assumption) ?_
          rotate_left
          · intro w hSw; (try dsimp only at hSw); go_simp; try with_reducible rfl
          go_simp
          refine wpAnyH_ready (rs := [34]) (by kernel_rfl) (by simp) ?_
          refine AllReadyH.cons rfl (fun K hK => ?_) AllReadyH.nil
          go_simp
          refine (HHA.out _ HB2.out).mono ?_
          rintro e w' ⟨rfl, q, rfl⟩
          refine hK.out _ _ ?_ (fun hHeld => ?_)
          · exact HS2.out
          clear hK K
          go_simp
          refine wpAnyH_ready (rs := [39]) (by kernel_rfl) (by simp) ?_
          refine AllReadyH.cons rfl (fun K hK => ?_) AllReadyH.nil
          go_simp
          refine (HRH.out _ (HB2.out.goes (Below.drewN' _ q _))).mono ?_
          rintro e w' ⟨rfl, rfl⟩
          refine hK.out _ _ ?_ (fun hHeld => ?_)
          · exact HS2.out
          clear hK K
          go_simp
          refine wpAnyH_take (i := 40) (v := ?_) rfl (by kernel_rfl) (by kernel_rfl) (by kernel_rfl) (fun _ _ _ h => h) (Or.inl ⟨by rfl, ?_⟩) (by assumption) ?_
          rotate_left
          · intro w hSw; (try dsimp only at hSw); go_simp; try with_reducible rfl
          go_simp
          refine wpAnyH_take (i := 41) (v := ?_) rfl (by kernel_rfl) (by kernel_rfl) (by kernel_rfl) (fun _ _ _ h => h) (Or.inl ⟨by rfl, ?_⟩) (by assumption) ?_
          rotate_left
          · intro w hSw; (try dsimp only at hSw); go_simp; try with_reducible rfl
          go_simp
          refine wpAnyH_done (by kernel_rfl) ?_ _
          have HBE : Hid (Both w (w'.drewN q) p r (noteS s kk el)) := HB2.out.goes (Below.drewN' _ _ _)
          obtain ⟨we, hwe⟩ : ∃ we, w'.drewN q = we := ⟨_, rfl⟩
          rw [hwe] at HBE ⊢
          clear hwe HB2 HS2 H1 G1 HRN HNO HC2 HHA HRH
          go_wp2_with fail
          refine (pick_any x 9 _ (by omega) (by omega)).mono ?_
          rintro e w' ⟨rfl, rfl⟩
          cases ht : (x % 9 == 8) with
          | true =>
            go_wp2_with fail
            refine (told_any _ p _ HBE.out.mine).mono ?_
            rintro e wt ⟨rfl, h1, g1⟩
            have HT := Lib.hid (HBE.out.told h1 g1)
            have hr1 := (HBE.out.ref1 g1).cells
            have r1 := hr1.1
            have r2 := hr1.2.2 1
            clear h1 g1 hr1
            go_wp2_with fail
            go_roundw
            case rel => exact ⟨k + 1, _, by omega, by go_num, HT⟩
            case measure => simp [intOf]; omega
          | false =>
            go_wp2_with fail
            go_roundw
            case rel => exact ⟨k + 1, _, by omega, by go_num, HBE⟩
            case measure => simp [intOf]; omega
    · obtain rfl : k = n := by omega
      have hlti : ¬ (k : Int) < (k : Int) := by omega
      obtain ⟨wo, rfl⟩ : ∃ wo : World, wo = wr := ⟨_, rfl⟩
      obtain ⟨kk, M, sp, fl, hM, hF, hG⟩ := frames_both HBB.out.win
      have HF := Lib.hid (hF wo p HBB.out.mine)
      have HG := Lib.hid hG
      clear hF hG
      have hff : (fl == fl) = true := by cases fl <;> rfl
      go_wp2_with fail
      refine Calls.mono HF.out ?_
      rintro e w4 ⟨Af, cf, rfl, hA, hb⟩
      have HFA0 := Lib.hid hA
      have HB4 := Lib.hid (HBB.out.goes hb)
      clear hA hb HF
      go_wp2_with fail
      have hb5 : Below w4.heap.size w4 (w4.alloc (.cells #[.int .i64 kk, .int .i64 0, .int .i64 0, .int .i64 0, .int .i64 0, .int .i64 0, .bool false, .slice none 0 0, .slice Af M cf] 51)) := (Below.refl _ _).alloc (Nat.le_refl _) _
      have HB5 := Lib.hid (HB4.out.goes hb5)
      have HFA1 : Hid (M ≤ cf ∧ Rd (w4.alloc (.cells #[.int .i64 kk, .int .i64 0, .int .i64 0, .int .i64 0, .int .i64 0, .int .i64 0, .bool false, .slice none 0 0, .slice Af M cf] 51)) (w4.alloc (.cells #[.int .i64 kk, .int .i64 0, .int .i64 0, .int .i64 0, .int .i64 0, .int .i64 0, .bool false, .slice none 0 0, .slice Af M cf] 51)).heap.size Af (M * 2) (ints sp)) := ⟨HFA0.out.1, (HFA0.out.2.below hb5 (Nat.le_refl _)).more hb5.size⟩
      have HBK0 : Hid ((w4.alloc (.cells #[.int .i64 kk, .int .i64 0, .int .i64 0, .int .i64 0, .int .i64 0, .int .i64 0, .bool false, .slice none 0 0, .slice Af M cf] 51)).heap[w4.heap.size]? = some (.cells #[.int .i64 kk, .int .i64 0, .int .i64 0, .int .i64 0, .int .i64 0, .int .i64 0, .bool false, .slice none 0 0, .slice Af M cf] 51 (0, 0))) := heap_alloc_new _ _
      clear hb5
      obtain ⟨gf, hgf⟩ : ∃ g, Hid (w4.heap.size = g) := ⟨_, rfl⟩
      rw [hgf.out] at HBK0 ⊢
      refine Calls.mono (HG.out _ r HB5.out.ref) ?_
      rintro e w5 ⟨Ag, cg, rfl, hB, hb⟩
      have HB6 := Lib.hid (HB5.out.goes hb)
      have HFB0 := Lib.hid hB
      have HFA2 : Hid (M ≤ cf ∧ Rd w5 w5.heap.size Af (M * 2) (ints sp)) := ⟨HFA1.out.1, (HFA1.out.2.below hb (Nat.le_refl _)).more hb.size⟩
      have HBK1 : Hid (w5.heap[gf]? = some (.cells #[.int .i64 kk, .int .i64 0, .int .i64 0, .int .i64 0, .int .i64 0, .int .i64 0, .bool false, .slice none 0 0, .slice Af M cf] 51 (0, 0))) := (hb.block gf (lt_of_block HBK0.out)).trans HBK0.out
      clear hB hb HG HFA0 HFA1 HBK0 HB5 HB4
      go_wp2_with fail
      obtain ⟨gg, hgg⟩ : ∃ g, Hid (w5.heap.size = g) := ⟨_, rfl⟩
      obtain ⟨wb, hwb⟩ : ∃ wb, Hid (w5.alloc (.cells #[.int .i64 kk, .int .i64 0, .int .i64 0, .int .i64 0, .int .i64 0, .int .i64 0, .bool false, .slice none 0 0, .slice Ag M cg] 51) = wb) := ⟨_, rfl⟩
      have HX : Hid (wb.heap[gg]? = some (.cells #[.int .i64 kk, .int .i64 0, .int .i64 0, .int .i64 0, .int .i64 0, .int .i64 0, .bool false, .slice none 0 0, .slice Ag M cg] 51 (0, 0)) ∧ Below w5.heap.size w5 wb) := by
        rw [← hwb.out, ← hgg.out]
        exact ⟨heap_alloc_new _ _, (Below.refl _ _).alloc (Nat.le_refl _) _⟩
      rw [hwb.out, hgg.out]
      have HBX := Lib.hid (HB6.out.goes HX.out.2)
      have HFA : Hid (M ≤ cf ∧ Rd wb wb.heap.size Af (M * 2) (ints sp)) := ⟨HFA2.out.1, (HFA2.out.2.below HX.out.2 (Nat.le_refl _)).more HX.out.2.size⟩
      have HFB : Hid (M ≤ cg ∧ Rd wb wb.heap.size Ag (M * 2) (ints sp)) := ⟨HFB0.out.1, (HFB0.out.2.below HX.out.2 (Nat.le_refl _)).more HX.out.2.size⟩
      have HBK2 : Hid (wb.heap[gf]? = some (.cells #[.int .i64 kk, .int .i64 0, .int .i64 0, .int .i64 0, .int .i64 0, .int .i64 0, .bool false, .slice none 0 0, .slice Af M cf] 51 (0, 0))) := (HX.out.2.block gf (lt_of_block HBK1.out)).trans HBK1.out
      have HKS : Hid (∀ W, Below wb.heap.size wb W → W.cell? ⟨gf, 0, none⟩ = some (.int .i64 kk) ∧ W.cell? ⟨gf, 1, none⟩ = some (.int .i64 0) ∧ W.cell? ⟨gf, 2, none⟩ = some (.int .i64 0) ∧ W.cell? ⟨gf, 3, none⟩ = some (.int .i64 0) ∧ W.cell? ⟨gf, 4, none⟩ = some (.int .i64 0) ∧ W.cell? ⟨gf, 5, none⟩ = some (.int .i64 0) ∧ W.cell? ⟨gf, 6, none⟩ = some (.bool false) ∧ W.cell? ⟨gf, 7, none⟩ = some (.slice none 0 0) ∧ W.cell? ⟨gf, 8, none⟩ = some (.slice Af M cf) ∧ W.cell? ⟨gg, 0, none⟩ = some (.int .i64 kk) ∧ W.cell? ⟨gg, 1, none⟩ = some (.int .i64 0) ∧ W.cell? ⟨gg, 2, none⟩ = some (.int .i64 0) ∧ W.cell? ⟨gg, 3, none⟩ = some (.int .i64 0) ∧ W.cell? ⟨gg, 4, none⟩ = some (.int .i64 0) ∧ W.cell? ⟨gg, 5, none⟩ = some (.int .i64 0) ∧ W.cell? ⟨gg, 6, none⟩ = some (.bool false) ∧ W.cell? ⟨gg, 7, none⟩ = some (.slice none 0 0) ∧ W.cell? ⟨gg, 8, none⟩ = some (.slice Ag M cg)) := fun W hW => by
        have h1 := (hW.block gf (lt_of_block HBK2.out)).trans HBK2.out
        have h2 := (hW.block gg (lt_of_block HX.out.1)).trans HX.out.1
        exact ⟨cell_slot h1 rfl, cell_slot h1 rfl, cell_slot h1 rfl, cell_slot h1 rfl, cell_slot h1 rfl, cell_slot h1 rfl, cell_slot h1 rfl, cell_slot h1 rfl, cell_slot h1 rfl, cell_slot h2 rfl, cell_slot h2 rfl, cell_slot h2 rfl, cell_slot h2 rfl, cell_slot h2 rfl, cell_slot h2 rfl, cell_slot h2 rfl, cell_slot h2 rfl, cell_slot h2 rfl⟩
      clear HFA2 HFB0 HBK1 HB6
      obtain ⟨cv, hcv⟩ : ∃ x, Hid (cnt s.es = x) := ⟨_, rfl⟩
      have HCT : Hid (∀ W, Below wb.heap.size wb W → Calls Try.prog 26 #[.pointer (some ⟨p, 0, none⟩)] W fun e w' => e = .returned (.int .i64 cv) ∧ Below W.heap.size W w') := fun W hW => by
        obtain ⟨v, h⟩ := (HBX.out.goes hW).mine
        rw [← hcv.out]
        exact count_any s.es p 0 _ _ W h (by have := HBX.out.win.len; omega)
      have HRC : Hid (∀ W, Below wb.heap.size wb W → Calls Try.prog 27 #[.pointer (some ⟨r, 0, none⟩)] W fun e w' => e = .returned (.int .i64 cv) ∧ Below W.heap.size W w') := fun W hW => by
        obtain ⟨v, h⟩ := (HBX.out.goes hW).ref
        rw [← hcv.out]
        exact Ref.rcount_any s.es r 0 _ _ W h (by have := HBX.out.win.len; omega)
      have HFI : Hid (∀ y W, Below wb.heap.size wb W → Calls Try.prog 17 #[.pointer (some ⟨p, 0, none⟩), .int .i64 y] W fun e w' => e = .returned (.int .i64 (firstF s.es (max y 0))) ∧ ∃ q, w' = W.drewN q) := fun y W hW => by
        obtain ⟨v, h⟩ := (HBX.out.goes hW).mine
        obtain ⟨A', c', hat, _⟩ := h.at (by have := HBX.out.win.len; omega)
        exact first_any s.es W.heap.size p 0 A' c' y W hat
      have HRF : Hid (∀ y W, Below wb.heap.size wb W → Calls Try.prog 18 #[.pointer (some ⟨r, 0, none⟩), .int .i64 y] W fun e w' => e = .returned (.int .i64 (firstF s.es (max y 0))) ∧ W = w') := fun y W hW => by
        obtain ⟨v, h⟩ := (HBX.out.goes hW).ref
        exact Ref.rfirst_any s.es r 0 _ _ y W h (by have := HBX.out.win.len; omega)
      refine wp_region_held_drew (S := fun W => W.cell? ⟨gf, 0, none⟩ = some (.int .i64 kk) ∧ W.cell? ⟨gf, 1, none⟩ = some (.int .i64 0) ∧ W.cell? ⟨gf, 2, none⟩ = some (.int .i64 0) ∧ W.cell? ⟨gf, 3, none⟩ = some (.int .i64 0) ∧ W.cell? ⟨gf, 4, none⟩ = some (.int .i64 0) ∧ W.cell? ⟨gf, 5, none⟩ = some (.int .i64 0) ∧ W.cell? ⟨gf, 6, none⟩ = some (.bool false) ∧ W.cell? ⟨gf, 7, none⟩ = some (.slice none 0 0) ∧ W.cell? ⟨gf, 8, none⟩ = some (.slice Af M cf) ∧ W.cell? ⟨gg, 0, none⟩ = some (.int .i64 kk) ∧ W.cell? ⟨gg, 1, none⟩ = some (.int .i64 0) ∧ W.cell? ⟨gg, 2, none⟩ = some (.int .i64 0) ∧ W.cell? ⟨gg, 3, none⟩ = some (.int .i64 0) ∧ W.cell? ⟨gg, 4, none⟩ = some (.int .i64 0) ∧ W.cell? ⟨gg, 5, none⟩ = some (.int .i64 0) ∧ W.cell? ⟨gg, 6, none⟩ = some (.bool false) ∧ W.cell? ⟨gg, 7, none⟩ = some (.slice none 0 0) ∧ W.cell? ⟨gg, 8, none⟩ = some (.slice Ag M cg)) (by kernel_rfl) ?_ (fun hHeld => ?_)
      · exact HKS.out _ (Below.refl _ _).drew
      refine wpAnyH_take (i := 0) (v := ?_) rfl (by kernel_rfl) (by kernel_rfl) (by kernel_rfl) (fun _ _ _ h => h) (Or.inl ⟨by rfl, ?_⟩) (by assumption) ?_
      rotate_left
      · intro w hSw; (try dsimp only at hSw); go_simp; try with_reducible rfl
      go_simp
      refine wpAnyH_take (i := 1) (v := ?_) rfl (by kernel_rfl) (by kernel_rfl) (by kernel_rfl) (fun _ _ _ h => h) (Or.inl ⟨by rfl, ?_⟩) (by assumption) ?_
      rotate_left
      · intro w hSw; (try dsimp only at hSw); go_simp; try with_reducible rfl
      go_simp
      refine wpAnyH_take (i := 2) (v := ?_) rfl (by kernel_rfl) (by kernel_rfl) (by kernel_rfl) (fun _ _ _ h => h) (Or.inl ⟨by rfl, ?_⟩) (by assumption) ?_
      rotate_left
      · intro w hSw; (try dsimp only at hSw); go_simp; try with_reducible rfl
      go_simp
      refine wpAnyH_take (i := 3) (v := ?_) rfl (by kernel_rfl) (by kernel_rfl) (by kernel_rfl) (fun _ _ _ h => h) (Or.inl ⟨by rfl, ?_⟩) (by assumption) ?_
      rotate_left
      · intro w hSw; (try dsimp only at hSw); go_simp; try with_reducible rfl
      go_simp
      refine wpAnyH_take (i := 4) (v := ?_) rfl (by kernel_rfl) (by kernel_rfl) (by kernel_rfl) (fun _ _ _ h => h) (Or.inl ⟨by rfl, ?_⟩) (by assumption) ?_
      rotate_left
      · intro w hSw; (try dsimp only at hSw); go_simp; try with_reducible rfl
      go_simp
      refine wpAnyH_take (i := 6) (v := ?_) rfl (by kernel_rfl) (by kernel_rfl) (by kernel_rfl) (fun _ _ _ h => h) (Or.inl ⟨by rfl, ?_⟩) (by assumption) ?_
      rotate_left
      · intro w hSw; (try dsimp only at hSw); go_simp; try with_reducible rfl
      go_simp
      refine wpAnyH_ready (rs := [5, 7]) (by kernel_rfl) (by simp) ?_
      refine AllReadyH.cons rfl (fun K hK => ?_) ?_
      · skip
        go_simp
        refine hK.out _ _ ?_ (fun hHeld => ?_)
        · exact HKS.out _ (((Below.refl _ _).drew).alloc (Nat.le_refl _) _)
        clear hK K
        go_simp
        refine wpAnyH_ready (rs := [7]) (by kernel_rfl) (by simp) ?_
        refine AllReadyH.cons rfl (fun K hK => ?_) AllReadyH.nil
        go_simp
        refine hK.out _ _ ?_ (fun hHeld => ?_)
        · exact HKS.out _ ((((Below.refl _ _).drew).alloc (Nat.le_refl _) _).alloc (by simp only [World.size_alloc]; show wb.heap.size ≤ wb.heap.size + 1; omega) _)
        clear hK K
        go_simp
        refine wpAnyH_ready (rs := [8]) (by kernel_rfl) (by simp) ?_
        refine AllReadyH.cons rfl (fun K hK => ?_) AllReadyH.nil
        go_simp
        have hba : Below wb.heap.size wb ((wb.drew.alloc (.cells #[.int .i64 kk, .int .i64 0, .int .i64 0, .int .i64 0, .int .i64 0, .int .i64 0, .bool false, .slice none 0 0, .slice Af M cf] 51)).alloc (.cells #[.int .i64 kk, .int .i64 0, .int .i64 0, .int .i64 0, .int .i64 0, .int .i64 0, .bool false, .slice none 0 0, .slice Ag M cg] 51)) := (((Below.refl _ _).drew).alloc (Nat.le_refl _) _).alloc (by simp only [World.size_alloc]; show wb.heap.size ≤ wb.heap.size + 1; omega) _
        refine (same_one kk sp (wb.heap.size) (wb.heap.size + 1) Af Ag M cf cg ((wb.drew.alloc (.cells #[.int .i64 kk, .int .i64 0, .int .i64 0, .int .i64 0, .int .i64 0, .int .i64 0, .bool false, .slice none 0 0, .slice Af M cf] 51)).alloc (.cells #[.int .i64 kk, .int .i64 0, .int .i64 0, .int .i64 0, .int .i64 0, .int .i64 0, .bool false, .slice none 0 0, .slice Ag M cg] 51)) (heap_alloc2_old wb.drew _ _) (heap_alloc2_new wb.drew _ _) ((HFA.out.2.below hba (Nat.le_refl _)).more hba.size) ((HFB.out.2.below hba (Nat.le_refl _)).more hba.size) hM HFA.out.1 HFB.out.1).mono ?_
        rintro e w8 ⟨rfl, hb8⟩
        have HB8 : Hid (Below wb.heap.size wb w8) := hba.trans (hb8.mono hba.size)
        clear hba hb8
        refine hK.out _ _ ?_ (fun hHeld => ?_)
        · exact HKS.out _ HB8.out
        clear hK K
        go_simp
        refine wpAnyH_take (i := 9) (v := ?_) rfl (by kernel_rfl) (by kernel_rfl) (by kernel_rfl) (fun _ _ _ h => h) (Or.inl ⟨by rfl, ?_⟩) (by assumption) ?_
        rotate_left
        · intro w hSw; (try dsimp only at hSw); go_simp; try with_reducible rfl
        go_simp
        refine wpAnyH_take (i := 10) (v := ?_) rfl (by kernel_rfl) (by kernel_rfl) (by kernel_rfl) (fun _ _ _ h => h) (Or.inl ⟨by rfl, ?_⟩) (by assumption) ?_
        rotate_left
        · intro w hSw; (try dsimp only at hSw); go_simp; try with_reducible rfl
        go_simp
        refine wpAnyH_take (i := 11) (v := ?_) rfl (by kernel_rfl) (by kernel_rfl) (by kernel_rfl) (fun _ _ _ h => h) (Or.inl ⟨by rfl, ?_⟩) (by assumption) ?_
        rotate_left
        · intro w hSw; (try dsimp only at hSw); go_simp; try with_reducible rfl
        go_simp
        refine wpAnyH_take (i := 12) (v := ?_) rfl (by kernel_rfl) (by kernel_rfl) (by kernel_rfl) (fun _ _ _ h => h) (Or.inl ⟨by rfl, ?_⟩) (by assumption) ?_
        rotate_left
        · intro w hSw; (try dsimp only at hSw); go_simp; try with_reducible rfl
        go_simp
        refine wpAnyH_take (i := 13) (v := ?_) rfl (by kernel_rfl) (by kernel_rfl) (by kernel_rfl) (fun _ _ _ h => h) (Or.inl ⟨by rfl, ?_⟩) (by assumption) ?_
        rotate_left
        · intro w hSw; (try dsimp only at hSw); go_simp; try with_reducible rfl
        go_simp
        refine wpAnyH_take (i := 15) (v := ?_) rfl (by kernel_rfl) (by kernel_rfl) (by kernel_rfl) (fun _ _ _ h => h) (Or.inl ⟨by rfl, ?_⟩) (by assumption) ?_
        rotate_left
        · intro w hSw; (try dsimp only at hSw); go_simp; try with_reducible rfl
        go_simp
        refine wpAnyH_take (i := 16) (v := ?_) rfl (by kernel_rfl) (by kernel_rfl) (by kernel_rfl) (fun _ _ _ h => h) (Or.inl ⟨by rfl, ?_⟩) (by assumption) ?_
        rotate_left
        · intro w hSw; (try dsimp only at hSw); go_simp; try with_reducible rfl
        go_simp
        refine wpAnyH_take (i := 17) (v := ?_) rfl (by kernel_rfl) (by kernel_rfl) (by kernel_rfl) (fun _ _ _ h => h) (Or.inl ⟨by rfl, ?_⟩) (by assumption) ?_
        rotate_left
        · intro w hSw; (try dsimp only at hSw); go_simp; try with_reducible rfl
        go_simp
        refine wpAnyH_ready (rs := [14]) (by kernel_rfl) (by simp) ?_
        refine AllReadyH.cons rfl (fun K hK => ?_) AllReadyH.nil
        go_simp
        refine (HCT.out _ HB8.out).mono ?_
        rintro e w9 ⟨rfl, hb9⟩
        have HB9 : Hid (Below wb.heap.size wb w9) := HB8.out.trans (hb9.mono HB8.out.size)
        clear hb9
        refine hK.out _ _ ?_ (fun hHeld => ?_)
        · exact HKS.out _ HB9.out
        clear hK K
        go_simp
        refine wpAnyH_ready (rs := [18]) (by kernel_rfl) (by simp) ?_
        refine AllReadyH.cons rfl (fun K hK => ?_) AllReadyH.nil
        go_simp
        refine (HRC.out _ HB9.out).mono ?_
        rintro e w10 ⟨rfl, hb10⟩
        have HB10 : Hid (Below wb.heap.size wb w10) := HB9.out.trans (hb10.mono HB9.out.size)
        clear hb10
        refine hK.out _ _ ?_ (fun hHeld => ?_)
        · exact HKS.out _ HB10.out
        clear hK K
        go_simp
        refine wpAnyH_take (i := 19) (v := ?_) rfl (by kernel_rfl) (by kernel_rfl) (by kernel_rfl) (fun _ _ _ h => h) (Or.inl ⟨by rfl, ?_⟩) (by assumption) ?_
        rotate_left
        · intro w hSw; (try dsimp only at hSw); go_simp; try with_reducible rfl
        go_simp
        refine wpAnyH_take (i := 20) (v := ?_) rfl (by kernel_rfl) (by kernel_rfl) (by kernel_rfl) (fun _ _ _ h => h) (Or.inl ⟨by rfl, ?_⟩) (by assumption) ?_
        rotate_left
        · intro w hSw; (try dsimp only at hSw); go_simp; try with_reducible rfl
        go_simp
        refine wpAnyH_take (i := 21) (v := ?_) rfl (by kernel_rfl) (by kernel_rfl) (by kernel_rfl) (fun _ _ _ h => h) (Or.inl ⟨by rfl, ?_⟩) (by assumption) ?_
        rotate_left
        · intro w hSw; (try dsimp only at hSw); go_simp; try with_reducible rfl
        go_simp
        refine wpAnyH_take (i := 22) (v := ?_) rfl (by kernel_rfl) (by kernel_rfl) (by kernel_rfl) (fun _ _ _ h => h) (Or.inl ⟨by rfl, ?_⟩) (by assumption) ?_
        rotate_left
        · intro w hSw; (try dsimp only at hSw); go_simp; try with_reducible rfl
        go_simp
        refine wpAnyH_take (i := 23) (v := ?_) rfl (by kernel_rfl) (by kernel_rfl) (by kernel_rfl) (fun _ _ _ h => h) (Or.inl ⟨by rfl, ?_⟩) (by assumption) ?_
        rotate_left
        · intro w hSw; (try dsimp only at hSw); go_simp; try with_reducible rfl
        go_simp
        refine wpAnyH_take (i := 24) (v := ?_) rfl (by kernel_rfl) (by kernel_rfl) (by kernel_rfl) (fun _ _ _ h => h) (Or.inl ⟨by rfl, ?_⟩) (by assumption) ?_
        rotate_left
        · intro w hSw; (try dsimp only at hSw); go_simp; try with_reducible rfl
        go_simp
        refine wpAnyH_take (i := 25) (v := ?_) rfl (by kernel_rfl) (by kernel_rfl) (by kernel_rfl) (fun _ _ _ h => h) (Or.inl ⟨by rfl, ?_⟩) (by assumption) ?_
        rotate_left
        · intro w hSw; (try dsimp only at hSw); go_simp; try with_reducible rfl
        go_simp
        refine wpAnyH_take (i := 26) (v := ?_) rfl (by kernel_rfl) (by kernel_rfl) (by kernel_rfl) (fun _ _ _ h => h) (Or.inl ⟨by rfl, ?_⟩) (by assumption) ?_
        rotate_left
        · intro w hSw; (try dsimp only at hSw); go_simp; try with_reducible rfl
        go_simp
        refine wpAnyH_take (i := 28) (v := ?_) rfl (by kernel_rfl) (by kernel_rfl) (by kernel_rfl) (fun _ _ _ h => h) (Or.inl ⟨by rfl, ?_⟩) (by assumption) ?_
        rotate_left
        · intro w hSw; (try dsimp only at hSw); go_simp; try with_reducible rfl
        go_simp
        refine wpAnyH_take (i := 29) (v := ?_) rfl (by kernel_rfl) (by kernel_rfl) (by kernel_rfl) (fun _ _ _ h => h) (Or.inl ⟨by rfl, ?_⟩) (by assumption) ?_
        rotate_left
        · intro w hSw; (try dsimp only at hSw); go_simp; try with_reducible rfl
        go_simp
        refine wpAnyH_take (i := 30) (v := ?_) rfl (by kernel_rfl) (by kernel_rfl) (by kernel_rfl) (fun _ _ _ h => h) (Or.inl ⟨by rfl, ?_⟩) (by assumption) ?_
        rotate_left
        · intro w hSw; (try dsimp only at hSw); go_simp; try with_reducible rfl
        go_simp
        refine wpAnyH_take (i := 31) (v := ?_) rfl (by kernel_rfl) (by kernel_rfl) (by kernel_rfl) (fun _ _ _ h => h) (Or.inl ⟨by rfl, ?_⟩) (by assumption) ?_
        rotate_left
        · intro w hSw; (try dsimp only at hSw); go_simp; try with_reducible rfl
        go_simp
        refine wpAnyH_take (i := 32) (v := ?_) rfl (by kernel_rfl) (by kernel_rfl) (by kernel_rfl) (fun _ _ _ h => h) (Or.inl ⟨by rfl, ?_⟩) (by assumption) ?_
        rotate_left
        · intro w hSw; (try dsimp only at hSw); go_simp; try with_reducible rfl
        go_simp
        refine wpAnyH_ready (rs := [27]) (by kernel_rfl) (by simp) ?_
        refine AllReadyH.cons rfl (fun K hK => ?_) AllReadyH.nil
        go_simp
        refine (HFI.out _ _ HB10.out).mono ?_
        rintro e w11 ⟨rfl, qd, hq⟩
        have HB11 : Hid (Below wb.heap.size wb w11) := by rw [hq]; exact HB10.out.trans (Below.drewN' _ _ _)
        clear hq
        refine hK.out _ _ ?_ (fun hHeld => ?_)
        · exact HKS.out _ HB11.out
        clear hK K
        go_simp
        refine wpAnyH_ready (rs := [33]) (by kernel_rfl) (by simp) ?_
        refine AllReadyH.cons rfl (fun K hK => ?_) AllReadyH.nil
        go_simp
        refine (HRF.out _ _ HB11.out).mono ?_
        rintro e w' ⟨rfl, rfl⟩
        refine hK.out _ _ ?_ (fun hHeld => ?_)
        · exact HKS.out _ HB11.out
        clear hK K
        go_simp
        refine wpAnyH_take (i := 34) (v := ?_) rfl (by kernel_rfl) (by kernel_rfl) (by kernel_rfl) (fun _ _ _ h => h) (Or.inl ⟨by rfl, ?_⟩) (by assumption) ?_
        rotate_left
        · intro w hSw; (try dsimp only at hSw); go_simp; try with_reducible rfl
        go_simp
        refine wpAnyH_take (i := 35) (v := ?_) rfl (by kernel_rfl) (by kernel_rfl) (by kernel_rfl) (fun _ _ _ h => h) (Or.inl ⟨by rfl, ?_⟩) (by assumption) ?_
        rotate_left
        · intro w hSw; (try dsimp only at hSw); go_simp; try with_reducible rfl
        go_simp
        refine wpAnyH_take (i := 36) (v := ?_) rfl (by kernel_rfl) (by kernel_rfl) (by kernel_rfl) (fun _ _ _ h => h) (Or.inl ⟨by rfl, ?_⟩) (by assumption) ?_
        rotate_left
        · intro w hSw; (try dsimp only at hSw); go_simp; try with_reducible rfl
        go_simp
        refine wpAnyH_done (by kernel_rfl) ?_ _
        go_wp2_with fail
        go_ret
        exact ⟨rfl, HBX.out.below.trans (HB11.out.mono HBX.out.below.size)⟩
      refine AllReadyH.cons rfl (fun K hK => ?_) ?_
      · skip
        go_simp
        refine hK.out _ _ ?_ (fun hHeld => ?_)
        · exact HKS.out _ (((Below.refl _ _).drew).alloc (Nat.le_refl _) _)
        clear hK K
        go_simp
        refine wpAnyH_ready (rs := [5]) (by kernel_rfl) (by simp) ?_
        refine AllReadyH.cons rfl (fun K hK => ?_) AllReadyH.nil
        go_simp
        refine hK.out _ _ ?_ (fun hHeld => ?_)
        · exact HKS.out _ ((((Below.refl _ _).drew).alloc (Nat.le_refl _) _).alloc (by simp only [World.size_alloc]; show wb.heap.size ≤ wb.heap.size + 1; omega) _)
        clear hK K
        go_simp
        refine wpAnyH_ready (rs := [8]) (by kernel_rfl) (by simp) ?_
        refine AllReadyH.cons rfl (fun K hK => ?_) AllReadyH.nil
        go_simp
        have hba : Below wb.heap.size wb ((wb.drew.alloc (.cells #[.int .i64 kk, .int .i64 0, .int .i64 0, .int .i64 0, .int .i64 0, .int .i64 0, .bool false, .slice none 0 0, .slice Ag M cg] 51)).alloc (.cells #[.int .i64 kk, .int .i64 0, .int .i64 0, .int .i64 0, .int .i64 0, .int .i64 0, .bool false, .slice none 0 0, .slice Af M cf] 51)) := (((Below.refl _ _).drew).alloc (Nat.le_refl _) _).alloc (by simp only [World.size_alloc]; show wb.heap.size ≤ wb.heap.size + 1; omega) _
        refine (same_one kk sp (wb.heap.size + 1) (wb.heap.size) Af Ag M cf cg ((wb.drew.alloc (.cells #[.int .i64 kk, .int .i64 0, .int .i64 0, .int .i64 0, .int .i64 0, .int .i64 0, .bool false, .slice none 0 0, .slice Ag M cg] 51)).alloc (.cells #[.int .i64 kk, .int .i64 0, .int .i64 0, .int .i64 0, .int .i64 0, .int .i64 0, .bool false, .slice none 0 0, .slice Af M cf] 51)) (heap_alloc2_new wb.drew _ _) (heap_alloc2_old wb.drew _ _) ((HFA.out.2.below hba (Nat.le_refl _)).more hba.size) ((HFB.out.2.below hba (Nat.le_refl _)).more hba.size) hM HFA.out.1 HFB.out.1).mono ?_
        rintro e w8 ⟨rfl, hb8⟩
        have HB8 : Hid (Below wb.heap.size wb w8) := hba.trans (hb8.mono hba.size)
        clear hba hb8
        refine hK.out _ _ ?_ (fun hHeld => ?_)
        · exact HKS.out _ HB8.out
        clear hK K
        go_simp
        refine wpAnyH_take (i := 9) (v := ?_) rfl (by kernel_rfl) (by kernel_rfl) (by kernel_rfl) (fun _ _ _ h => h) (Or.inl ⟨by rfl, ?_⟩) (by assumption) ?_
        rotate_left
        · intro w hSw; (try dsimp only at hSw); go_simp; try with_reducible rfl
        go_simp
        refine wpAnyH_take (i := 10) (v := ?_) rfl (by kernel_rfl) (by kernel_rfl) (by kernel_rfl) (fun _ _ _ h => h) (Or.inl ⟨by rfl, ?_⟩) (by assumption) ?_
        rotate_left
        · intro w hSw; (try dsimp only at hSw); go_simp; try with_reducible rfl
        go_simp
        refine wpAnyH_take (i := 11) (v := ?_) rfl (by kernel_rfl) (by kernel_rfl) (by kernel_rfl) (fun _ _ _ h => h) (Or.inl ⟨by rfl, ?_⟩) (by assumption) ?_
        rotate_left
        · intro w hSw; (try dsimp only at hSw); go_simp; try with_reducible rfl
        go_simp
        refine wpAnyH_take (i := 12) (v := ?_) rfl (by kernel_rfl) (by kernel_rfl) (by kernel_rfl) (fun _ _ _ h => h) (Or.inl ⟨by rfl, ?_⟩) (by assumption) ?_
        rotate_left
        · intro w hSw; (try dsimp only at hSw); go_simp; try with_reducible rfl
        go_simp
        refine wpAnyH_take (i := 13) (v := ?_) rfl (by kernel_rfl) (by kernel_rfl) (by kernel_rfl) (fun _ _ _ h => h) (Or.inl ⟨by rfl, ?_⟩) (by assumption) ?_
        rotate_left
        · intro w hSw; (try dsimp only at hSw); go_simp; try with_reducible rfl
        go_simp
        refine wpAnyH_take (i := 15) (v := ?_) rfl (by kernel_rfl) (by kernel_rfl) (by kernel_rfl) (fun _ _ _ h => h) (Or.inl ⟨by rfl, ?_⟩) (by assumption) ?_
        rotate_left
        · intro w hSw; (try dsimp only at hSw); go_simp; try with_reducible rfl
        go_simp
        refine wpAnyH_take (i := 16) (v := ?_) rfl (by kernel_rfl) (by kernel_rfl) (by kernel_rfl) (fun _ _ _ h => h) (Or.inl ⟨by rfl, ?_⟩) (by assumption) ?_
        rotate_left
        · intro w hSw; (try dsimp only at hSw); go_simp; try with_reducible rfl
        go_simp
        refine wpAnyH_take (i := 17) (v := ?_) rfl (by kernel_rfl) (by kernel_rfl) (by kernel_rfl) (fun _ _ _ h => h) (Or.inl ⟨by rfl, ?_⟩) (by assumption) ?_
        rotate_left
        · intro w hSw; (try dsimp only at hSw); go_simp; try with_reducible rfl
        go_simp
        refine wpAnyH_ready (rs := [14]) (by kernel_rfl) (by simp) ?_
        refine AllReadyH.cons rfl (fun K hK => ?_) AllReadyH.nil
        go_simp
        refine (HCT.out _ HB8.out).mono ?_
        rintro e w9 ⟨rfl, hb9⟩
        have HB9 : Hid (Below wb.heap.size wb w9) := HB8.out.trans (hb9.mono HB8.out.size)
        clear hb9
        refine hK.out _ _ ?_ (fun hHeld => ?_)
        · exact HKS.out _ HB9.out
        clear hK K
        go_simp
        refine wpAnyH_ready (rs := [18]) (by kernel_rfl) (by simp) ?_
        refine AllReadyH.cons rfl (fun K hK => ?_) AllReadyH.nil
        go_simp
        refine (HRC.out _ HB9.out).mono ?_
        rintro e w10 ⟨rfl, hb10⟩
        have HB10 : Hid (Below wb.heap.size wb w10) := HB9.out.trans (hb10.mono HB9.out.size)
        clear hb10
        refine hK.out _ _ ?_ (fun hHeld => ?_)
        · exact HKS.out _ HB10.out
        clear hK K
        go_simp
        refine wpAnyH_take (i := 19) (v := ?_) rfl (by kernel_rfl) (by kernel_rfl) (by kernel_rfl) (fun _ _ _ h => h) (Or.inl ⟨by rfl, ?_⟩) (by assumption) ?_
        rotate_left
        · intro w hSw; (try dsimp only at hSw); go_simp; try with_reducible rfl
        go_simp
        refine wpAnyH_take (i := 20) (v := ?_) rfl (by kernel_rfl) (by kernel_rfl) (by kernel_rfl) (fun _ _ _ h => h) (Or.inl ⟨by rfl, ?_⟩) (by assumption) ?_
        rotate_left
        · intro w hSw; (try dsimp only at hSw); go_simp; try with_reducible rfl
        go_simp
        refine wpAnyH_take (i := 21) (v := ?_) rfl (by kernel_rfl) (by kernel_rfl) (by kernel_rfl) (fun _ _ _ h => h) (Or.inl ⟨by rfl, ?_⟩) (by assumption) ?_
        rotate_left
        · intro w hSw; (try dsimp only at hSw); go_simp; try with_reducible rfl
        go_simp
        refine wpAnyH_take (i := 22) (v := ?_) rfl (by kernel_rfl) (by kernel_rfl) (by kernel_rfl) (fun _ _ _ h => h) (Or.inl ⟨by rfl, ?_⟩) (by assumption) ?_
        rotate_left
        · intro w hSw; (try dsimp only at hSw); go_simp; try with_reducible rfl
        go_simp
        refine wpAnyH_take (i := 23) (v := ?_) rfl (by kernel_rfl) (by kernel_rfl) (by kernel_rfl) (fun _ _ _ h => h) (Or.inl ⟨by rfl, ?_⟩) (by assumption) ?_
        rotate_left
        · intro w hSw; (try dsimp only at hSw); go_simp; try with_reducible rfl
        go_simp
        refine wpAnyH_take (i := 24) (v := ?_) rfl (by kernel_rfl) (by kernel_rfl) (by kernel_rfl) (fun _ _ _ h => h) (Or.inl ⟨by rfl, ?_⟩) (by assumption) ?_
        rotate_left
        · intro w hSw; (try dsimp only at hSw); go_simp; try with_reducible rfl
        go_simp
        refine wpAnyH_take (i := 25) (v := ?_) rfl (by kernel_rfl) (by kernel_rfl) (by kernel_rfl) (fun _ _ _ h => h) (Or.inl ⟨by rfl, ?_⟩) (by assumption) ?_
        rotate_left
        · intro w hSw; (try dsimp only at hSw); go_simp; try with_reducible rfl
        go_simp
        refine wpAnyH_take (i := 26) (v := ?_) rfl (by kernel_rfl) (by kernel_rfl) (by kernel_rfl) (fun _ _ _ h => h) (Or.inl ⟨by rfl, ?_⟩) (by assumption) ?_
        rotate_left
        · intro w hSw; (try dsimp only at hSw); go_simp; try with_reducible rfl
        go_simp
        refine wpAnyH_take (i := 28) (v := ?_) rfl (by kernel_rfl) (by kernel_rfl) (by kernel_rfl) (fun _ _ _ h => h) (Or.inl ⟨by rfl, ?_⟩) (by assumption) ?_
        rotate_left
        · intro w hSw; (try dsimp only at hSw); go_simp; try with_reducible rfl
        go_simp
        refine wpAnyH_take (i := 29) (v := ?_) rfl (by kernel_rfl) (by kernel_rfl) (by kernel_rfl) (fun _ _ _ h => h) (Or.inl ⟨by rfl, ?_⟩) (by assumption) ?_
        rotate_left
        · intro w hSw; (try dsimp only at hSw); go_simp; try with_reducible rfl
        go_simp
        refine wpAnyH_take (i := 30) (v := ?_) rfl (by kernel_rfl) (by kernel_rfl) (by kernel_rfl) (fun _ _ _ h => h) (Or.inl ⟨by rfl, ?_⟩) (by assumption) ?_
        rotate_left
        · intro w hSw; (try dsimp only at hSw); go_simp; try with_reducible rfl
        go_simp
        refine wpAnyH_take (i := 31) (v := ?_) rfl (by kernel_rfl) (by kernel_rfl) (by kernel_rfl) (fun _ _ _ h => h) (Or.inl ⟨by rfl, ?_⟩) (by assumption) ?_
        rotate_left
        · intro w hSw; (try dsimp only at hSw); go_simp; try with_reducible rfl
        go_simp
        refine wpAnyH_take (i := 32) (v := ?_) rfl (by kernel_rfl) (by kernel_rfl) (by kernel_rfl) (fun _ _ _ h => h) (Or.inl ⟨by rfl, ?_⟩) (by assumption) ?_
        rotate_left
        · intro w hSw; (try dsimp only at hSw); go_simp; try with_reducible rfl
        go_simp
        refine wpAnyH_ready (rs := [27]) (by kernel_rfl) (by simp) ?_
        refine AllReadyH.cons rfl (fun K hK => ?_) AllReadyH.nil
        go_simp
        refine (HFI.out _ _ HB10.out).mono ?_
        rintro e w11 ⟨rfl, qd, hq⟩
        have HB11 : Hid (Below wb.heap.size wb w11) := by rw [hq]; exact HB10.out.trans (Below.drewN' _ _ _)
        clear hq
        refine hK.out _ _ ?_ (fun hHeld => ?_)
        · exact HKS.out _ HB11.out
        clear hK K
        go_simp
        refine wpAnyH_ready (rs := [33]) (by kernel_rfl) (by simp) ?_
        refine AllReadyH.cons rfl (fun K hK => ?_) AllReadyH.nil
        go_simp
        refine (HRF.out _ _ HB11.out).mono ?_
        rintro e w' ⟨rfl, rfl⟩
        refine hK.out _ _ ?_ (fun hHeld => ?_)
        · exact HKS.out _ HB11.out
        clear hK K
        go_simp
        refine wpAnyH_take (i := 34) (v := ?_) rfl (by kernel_rfl) (by kernel_rfl) (by kernel_rfl) (fun _ _ _ h => h) (Or.inl ⟨by rfl, ?_⟩) (by assumption) ?_
        rotate_left
        · intro w hSw; (try dsimp only at hSw); go_simp; try with_reducible rfl
        go_simp
        refine wpAnyH_take (i := 35) (v := ?_) rfl (by kernel_rfl) (by kernel_rfl) (by kernel_rfl) (fun _ _ _ h => h) (Or.inl ⟨by rfl, ?_⟩) (by assumption) ?_
        rotate_left
        · intro w hSw; (try dsimp only at hSw); go_simp; try with_reducible rfl
        go_simp
        refine wpAnyH_take (i := 36) (v := ?_) rfl (by kernel_rfl) (by kernel_rfl) (by kernel_rfl) (fun _ _ _ h => h) (Or.inl ⟨by rfl, ?_⟩) (by assumption) ?_
        rotate_left
        · intro w hSw; (try dsimp only at hSw); go_simp; try with_reducible rfl
        go_simp
        refine wpAnyH_done (by kernel_rfl) ?_ _
        go_wp2_with fail
        go_ret
        exact ⟨rfl, HBX.out.below.trans (HB11.out.mono HBX.out.below.size)⟩
      exact AllReadyH.nil
end Go.Proofs.Ytoglpjgmnojdjaa.Sp
