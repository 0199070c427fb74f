/- FrameElicits: the walk. Conditions: as the theorem lists them. -/
import Derived.Test.YtkphmgfjlbdpgaaDoorJ5
import Derived.Test.YtkphmgfjlbdpgaaDoorJKn
set_option linter.unusedSimpArgs false
set_option linter.unusedVariables false

namespace Go.Proofs.YtkphmgfjlbdpgaaDoor
open Go Go.RowKit

/-- The chapter's example, wherever it is asked: the tables are still as listed. -/
theorem known_any {W w : World} (h : laidMetH Tryd.prog laids W) (hb : Below W.heap.size W w) : Calls Tryd.prog 14 #[] w fun e w' => e = .returned (.bool true) ∧ Below w.heap.size w w' := by
  obtain ⟨⟨v, S'⟩, hr, hv⟩ := Option.map_eq_some_iff.1 known_run
  simp only at hv
  subst hv
  refine (Am.evCall_ok Tryd.prog 2 w 100000 _ _ _ _ _ hr _ _ w #[] (start_rel' h hb) rfl (fun i x y hx _ => by simp at hx)).mono ?_
  rintro e w' ⟨u, c', g', rfl, _, hR, hu⟩
  exact ⟨by rw [hu.bool_inv], hR.below⟩

/-- Those that are Acks or Closes. -/
def plainF (fs : List Fr) : List Fr := fs.filter fun f => !elB f.k
theorem plain_snoc (fs : List Fr) (k : Nat) (f : Fr) (hf : fs[k]? = some f) : plainF (fs.take (k + 1)) = plainF (fs.take k) ++ (if elB f.k = true then [] else [f]) := by
  obtain ⟨hl, rfl⟩ := List.getElem?_eq_some_iff.1 hf
  unfold plainF
  rw [List.take_succ_eq_append_getElem hl, List.filter_append]
  congr 1
  cases h : elB fs[k].k <;> simp [h]
theorem any_snoc (fs : List Fr) (k : Nat) (f : Fr) (hf : fs[k]? = some f) : ((fs.take (k + 1)).any fun f => elB f.k) = (((fs.take k).any fun f => elB f.k) || elB f.k) := by
  obtain ⟨hl, rfl⟩ := List.getElem?_eq_some_iff.1 hf
  rw [List.take_succ_eq_append_getElem hl, List.any_append]
  simp
theorem plain_not (fs : List Fr) : ((plainF fs).any fun f => elB f.k) = false := by
  rw [List.any_eq_false]
  intro f hf
  unfold plainF at hf
  simp only [List.mem_filter, Bool.not_eq_true'] at hf
  simp [hf.2]
theorem plain_len (fs : List Fr) : (plainF fs).length ≤ fs.length := List.length_filter_le _ _

def PlW (w wr : World) (fs : List Fr) (k : Nat) (v : Value) (m : Nat) : Prop := m = (plainF (fs.take k)).length ∧ FrsOwn wr w.heap.size v (plainF (fs.take k)) ∧ Below w.heap.size w wr

set_option maxRecDepth 100000 in
set_option maxHeartbeats 4000000 in
theorem elicits_walk (A : Option Addr) (n c : Nat) (rs : List Rw) (at_ : Int) (w : World) (hL : laidMetH Tryd.prog laids w) (hr : IsRaws w A c n rs) :
    Calls Tryd.prog 5 #[.slice A n c, .int .i64 at_] w fun e w' => e = .returned (.bool true) ∧ Below w.heap.size w w' := by
  have HLd := Lib.hid hL
  have HRi := Lib.hid (hright_any 8 (by decide) rs A n c w hr)
  obtain ⟨i0, hi, hz0, hz1, hz2⟩ := info_parts infoFr
  have HI := Lib.hid (And.intro hi (And.intro hz0 (And.intro hz1 hz2)))
  clear hL hr hi hz0 hz1 hz2
  go_enter Tryd.func5, Tryd.ntmps5
  go_wp2_with fail
  refine HRi.out.mono ?_
  rintro e w1 ⟨A1, n1, c1, fs, rfl, hfl, hn8, hok, hown, hbw⟩
  have HFL := Lib.hid hfl
  have HF1 := Lib.hid (hown.frs hfl)
  have HB1 := Lib.hid hbw
  have hci : (n1 : Int) ≤ (c1 : Int) := by have := HF1.out.2.1; omega
  clear hfl hok hown hbw HRi
  go_wp2_with fail
  go_loopw [6, 7, 16] (fun v s i wr => ∃ (k m : Nat), k ≤ n1 ∧ m ≤ k ∧ i = .int .i64 k ∧ (∃ A' c', v = .slice A' m c') ∧ s = .bool ((fs.take k).any fun f => elB f.k) ∧ Hid (PlW w1 wr fs k v m)) (fun _ _ i _ => n1 - (intOf i).toNat)
  case atStart => exact ⟨0, 0, Nat.zero_le _, Nat.zero_le _, rfl, ⟨_, _, rfl⟩, rfl, rfl, FrsOwn.nil _ _, Below.refl _ _⟩
  case round =>
    obtain ⟨k, m, hk, hm, rfl, ⟨A', c', rfl⟩, rfl, HK⟩ := hrel
    by_cases hlt : k < n1
    · have hlti : (k : Int) < (n1 : Int) := by omega
      obtain ⟨b, off, f, A2, n2, c2, A3, n3, c3, hA, hbl, hf, hfc, hcell⟩ := HF1.out.get k hlt
      subst hA
      have HF := Lib.hid hf
      have HC : Hid (FrC wr f (frC f (.slice A2 n2 c2) (.slice A3 n3 c3))) := hfc.below HK.out.2.2
      have cc : ∀ j, wr.cell? ⟨b, off + k * 9 + j, none⟩ = w1.cell? ⟨b, off + k * 9 + j, none⟩ := fun j => HK.out.2.2.cell (p := ⟨b, off + k * 9 + j, none⟩) hbl
      have g0 : wr.cell? ⟨b, off + k * 9, none⟩ = some (.int .i64 f.k) := (cc 0).trans (hcell 0 _ rfl)
      have g1 : wr.cell? ⟨b, off + k * 9 + 1, none⟩ = some (.int .i64 f.id) := (cc 1).trans (hcell 1 _ rfl)
      have g2 : wr.cell? ⟨b, off + k * 9 + 2, none⟩ = some (.int .i64 f.off) := (cc 2).trans (hcell 2 _ rfl)
      have g3 : wr.cell? ⟨b, off + k * 9 + 3, none⟩ = some (.int .i64 f.a) := (cc 3).trans (hcell 3 _ rfl)
      have g4 : wr.cell? ⟨b, off + k * 9 + 4, none⟩ = some (.int .i64 f.b) := (cc 4).trans (hcell 4 _ rfl)
      have g5 : wr.cell? ⟨b, off + k * 9 + 5, none⟩ = some (.int .i64 f.note) := (cc 5).trans (hcell 5 _ rfl)
      have g6 : wr.cell? ⟨b, off + k * 9 + 6, none⟩ = some (.bool f.fin) := (cc 6).trans (hcell 6 _ rfl)
      have g7 : wr.cell? ⟨b, off + k * 9 + 7, none⟩ = some (.slice A2 n2 c2) := (cc 7).trans (hcell 7 _ rfl)
      have g8 : wr.cell? ⟨b, off + k * 9 + 8, none⟩ = some (.slice A3 n3 c3) := (cc 8).trans (hcell 8 _ rfl)
      have HSN := Lib.hid (plain_snoc fs k f hf)
      have HAN := Lib.hid (any_snoc fs k f hf)
      clear cc hcell hf hfc
      cases hel : elB f.k with
      | true =>
        have HEL := Lib.hid hel
        have h2 : (f.k == 2) = false := by simp [elB] at hel; simp [hel.1]
        have h12 : (f.k == 12) = false := by simp [elB] at hel; simp [hel.2]
        have HN : Hid (PlW w1 (wr.alloc (.cells #[.int .i64 f.k, .int .i64 f.id, .int .i64 f.off, .int .i64 f.a, .int .i64 f.b, .int .i64 f.note, .bool f.fin, .slice A2 n2 c2, .slice A3 n3 c3] 26)) fs (k + 1) (.slice A' m c') m) := by
          have e : plainF (fs.take (k + 1)) = plainF (fs.take k) := by rw [HSN.out, if_pos HEL.out, List.append_nil]
          unfold PlW
          rw [e]
          exact ⟨HK.out.1, HK.out.2.1.below ((Below.refl _ _).alloc (Nat.le_refl _) _), HK.out.2.2.alloc HK.out.2.2.size _⟩
        have HAN2 : Hid (true = ((fs.take (k + 1)).any fun f => elB f.k)) := by show _ = _; rw [HAN.out, HEL.out, Bool.or_true]
        clear hel
        go_wp2_with fail
        go_roundw
        case rel => exact ⟨k + 1, m, by omega, by omega, by go_num, ⟨_, _, rfl⟩, by rw [← HAN2.out], HN⟩
        case measure => simp [intOf]; omega
      | false =>
        have HEL := Lib.hid hel
        have hk2 : f.k = 2 ∨ f.k = 12 := by simp [elB] at hel; omega
        have HPO := Lib.hid hk2
        have HAN2 : Hid (((fs.take k).any fun f => elB f.k) = ((fs.take (k + 1)).any fun f => elB f.k)) := by show _ = _; rw [HAN.out, HEL.out, Bool.or_false]
        obtain ⟨q, hq⟩ : ∃ q, Hid (((fs.take k).any fun f => elB f.k) = q) := ⟨_, rfl⟩
        rw [hq.out] at HAN2
        rw [hq.out]
        obtain ⟨cells, hcow, hcfr⟩ := HK.out.2.1
        rw [← HK.out.1] at hcow
        have HCO := Lib.hid hcow
        have HCF := Lib.hid hcfr
        have HBa : Hid (Below wr.heap.size wr (wr.alloc (.cells #[.int .i64 f.k, .int .i64 f.id, .int .i64 f.off, .int .i64 f.a, .int .i64 f.b, .int .i64 f.note, .bool f.fin, .slice A2 n2 c2, .slice A3 n3 c3] 26))) := (Below.refl _ _).alloc (Nat.le_refl _) _
        have HBW : Hid (Below w1.heap.size w1 (wr.alloc (.cells #[.int .i64 f.k, .int .i64 f.id, .int .i64 f.off, .int .i64 f.a, .int .i64 f.b, .int .i64 f.note, .bool f.fin, .slice A2 n2 c2, .slice A3 n3 c3] 26))) := HK.out.2.2.trans (HBa.out.mono HK.out.2.2.size)
        have HCOa : Hid ((wr.alloc (.cells #[.int .i64 f.k, .int .i64 f.id, .int .i64 f.off, .int .i64 f.a, .int .i64 f.b, .int .i64 f.note, .bool f.fin, .slice A2 n2 c2, .slice A3 n3 c3] 26)).ownsRow w1.heap.size 26 9 (.slice A' m c') m cells) := HCO.out.alloc _
        have HCFa : Hid (FrsC (wr.alloc (.cells #[.int .i64 f.k, .int .i64 f.id, .int .i64 f.off, .int .i64 f.a, .int .i64 f.b, .int .i64 f.note, .bool f.fin, .slice A2 n2 c2, .slice A3 n3 c3] 26)) (plainF (fs.take k)) cells) := HCF.out.below HBa.out
        have HCa : Hid (FrC (wr.alloc (.cells #[.int .i64 f.k, .int .i64 f.id, .int .i64 f.off, .int .i64 f.a, .int .i64 f.b, .int .i64 f.note, .bool f.fin, .slice A2 n2 c2, .slice A3 n3 c3] 26)) f (frC f (.slice A2 n2 c2) (.slice A3 n3 c3))) := HC.out.below HBa.out
        have hb3 : Hid (w1.heap.size ≤ ((wr.alloc (.cells #[.int .i64 f.k, .int .i64 f.id, .int .i64 f.off, .int .i64 f.a, .int .i64 f.b, .int .i64 f.note, .bool f.fin, .slice A2 n2 c2, .slice A3 n3 c3] 26)).alloc (.cells #[.int .i64 f.k, .int .i64 f.id, .int .i64 f.off, .int .i64 f.a, .int .i64 f.b, .int .i64 f.note, .bool f.fin, .slice A2 n2 c2, .slice A3 n3 c3] 26)).heap.size) := by have := HK.out.2.2.size; show _ ≤ _; simp only [World.size_alloc]; omega
        have HPL := Lib.hid HK.out.1
        have hm9 : m ≤ 8 := by omega
        have HPUSH : Hid (∀ v1 w3, w3.ownsRow w1.heap.size 26 9 v1 (m + 1) (cells ++ frC f (.slice A2 n2 c2) (.slice A3 n3 c3)) → ((wr.alloc (.cells #[.int .i64 f.k, .int .i64 f.id, .int .i64 f.off, .int .i64 f.a, .int .i64 f.b, .int .i64 f.note, .bool f.fin, .slice A2 n2 c2, .slice A3 n3 c3] 26)).alloc (.cells #[.int .i64 f.k, .int .i64 f.id, .int .i64 f.off, .int .i64 f.a, .int .i64 f.b, .int .i64 f.note, .bool f.fin, .slice A2 n2 c2, .slice A3 n3 c3] 26)).grownBy w3 (Value.slice A' m c').ownBlock → PlW w1 w3 fs (k + 1) v1 (m + 1)) := fun v1 w3 hown3 hgrow3 => by
          have e : plainF (fs.take (k + 1)) = plainF (fs.take k) ++ [f] := by rw [HSN.out, if_neg (by rw [HEL.out]; decide)]
          unfold PlW
          rw [e]
          refine ⟨by rw [List.length_append, ← HPL.out]; rfl, ?_, (HBW.out.alloc HBW.out.size _).grown hgrow3 hb3.out (fun g hg => (HCOa.out.lt g hg).1)⟩
          exact FrsOwn.push (by rw [← HPL.out]; exact HCOa.out) HCFa.out HCa.out (by rw [← HPL.out]; exact hown3) hgrow3
        clear hel hcow hcfr hk2
        rcases HPO.out with h2 | h2
        all_goals
          have g2' : (f.k == 2) = decide (f.k = 2) := rfl
          first
            | (have hd2 : (f.k == 2) = true := by rw [h2]; rfl)
            | (have hd2 : (f.k == 2) = false := by rw [h2]; rfl)
          first
            | (have hd12 : (f.k == 12) = true := by rw [h2]; rfl)
            | (have hd12 : (f.k == 12) = false := by rw [h2]; rfl)
          clear h2 g2'
          go_wp2_with (at_builtin; refine wpList_app _ rfl (.tmp 28) (.tmp 30) 27 rfl w1.heap.size 26 i0 (.agg #[.int .i64 0, .int .i64 0, .int .i64 0, .int .i64 0, .int .i64 0, .int .i64 0, .bool false, .slice none 0 0, .slice none 0 0]) 9 104 Tryd.underlying27 HI.out.1 HI.out.2.1 HI.out.2.2.1 HI.out.2.2.2 rfl (by decide) (.slice A' m c') m cells rfl (HCOa.out.alloc _) ((wr.alloc (.cells #[.int .i64 f.k, .int .i64 f.id, .int .i64 f.off, .int .i64 f.a, .int .i64 f.b, .int .i64 f.note, .bool f.fin, .slice A2 n2 c2, .slice A3 n3 c3] 26)).heap.size + 1) (some ⟨(wr.alloc (.cells #[.int .i64 f.k, .int .i64 f.id, .int .i64 f.off, .int .i64 f.a, .int .i64 f.b, .int .i64 f.note, .bool f.fin, .slice A2 n2 c2, .slice A3 n3 c3] 26)).heap.size, 0, none⟩) 1 1 (frC f (.slice A2 n2 c2) (.slice A3 n3 c3)) (by simp [Act.eval]) (rd_new _ _ _ _ _ _ _ rfl (by omega) rfl rfl) HCa.out.ones (by unfold maxLen; omega) (by omega) hb3.out ?_)
          intro v1 w3 hown3 hgrow3
          obtain ⟨A4, c4, e4, _⟩ := own_form hown3
          subst e4
          have HN := Lib.hid (HPUSH.out _ _ hown3 hgrow3)
          clear hown3 hgrow3
          go_wp2_with fail
          go_roundw
          case rel => exact ⟨k + 1, m + 1, by omega, by omega, by go_num, ⟨_, _, rfl⟩, by rw [← HAN2.out], HN⟩
          case measure => simp [intOf]; omega
    · -- behind the loop
      have hlti : ¬ (k : Int) < (n1 : Int) := by omega
      obtain rfl : k = n1 := by omega
      have htk : fs.take k = fs := List.take_of_length_le (by rw [HFL.out]; exact Nat.le_refl _)
      rw [htk]
      have HK2 := HK.out
      unfold PlW at HK2
      rw [htk] at HK2
      obtain ⟨q, hq⟩ : ∃ q, Hid ((fs.any fun f => elB f.k) = q) := ⟨_, rfl⟩
      have HANY := hq
      rw [hq.out]
      have HPL : Hid ((plainF fs).length = m) := by
        exact HK2.1.symm
      have HPO : Hid (FrsOwn wr w1.heap.size (.slice A' m c') (plainF fs)) := HK2.2.1
      have HBr : Hid (Below w1.heap.size w1 wr) := HK2.2.2
      have HPr0 := Lib.hid (HPO.out.frs HPL.out)
      have HBw : Hid (Below w.heap.size w wr) := HB1.out.trans (HBr.out.mono HB1.out.size)
      have HD : Hid (Below wr.heap.size wr wr.drew) := ⟨rfl, rfl, rfl, Nat.le_refl _, fun _ _ => rfl⟩
      have HPr := HPr0
      have HF1r := Lib.hid (HF1.out.below HBr.out)
      obtain ⟨_, hmc, cells, hrd, hfc⟩ := HPr0.out
      obtain ⟨p, hp, hpm⟩ : ∃ p : Nat, at_ % ((m : Int) + 1) = (p : Int) ∧ p ≤ m := ⟨(at_ % ((m : Int) + 1)).toNat, by have := Int.emod_nonneg at_ (show (m : Int) + 1 ≠ 0 by omega); omega, by have := Int.emod_lt_of_pos at_ (show (0 : Int) < (m : Int) + 1 by omega); have := Int.emod_nonneg at_ (show (m : Int) + 1 ≠ 0 by omega); omega⟩
      have HPK : Hid (∀ W, Calls Tryd.prog 20 #[.int .i64 at_, .int .i64 ((m : Int) + 1)] W fun e w' => e = .returned (.int .i64 (p : Int)) ∧ W = w') := fun W => by have := pick_any at_ ((m : Int) + 1) W (by omega) (by omega); rw [hp] at this; exact this
      have HT : Hid (Rd wr wr.heap.size A' (p * 9) (cells.take (p * 9))) := hrd.head (p * 9) (Nat.mul_le_mul_right _ hpm)
      have HTF : Hid (FrsC wr ((plainF fs).take p) (cells.take (p * 9))) := hfc.take p
      obtain ⟨T, hT⟩ : ∃ T, Hid ((if c' = p then A' else A'.map (·.add (p * 9))) = T) := ⟨_, Lib.hid rfl⟩
      have HU : Hid (Rd wr wr.heap.size T ((m - p) * 9) (cells.drop (p * 9))) := by rw [← hT.out]; exact hrd.tail9 p hpm hmc
      have HUF : Hid (FrsC wr ((plainF fs).drop p) (cells.drop (p * 9))) := hfc.drop p
      have hm8 : m ≤ 8 := by omega
      have hpc : (p : Int) ≤ (c' : Int) := by omega
      have hpm' : (p : Int) ≤ (m : Int) := by omega
      clear hp hrd hfc HPr0 htk hk hm HK HK2
      go_wp2_with fail
      refine (HPK.out _).mono ?_
      rintro e w' ⟨rfl, rfl⟩
      go_wp2_with fail
      refine wp_region_held_drew (S := fun W' => Below wr.heap.size wr W') (by kernel_rfl) ?_ (fun hHeld => ?_)
      · exact HD.out
      refine wpAnyH_take (i := 1) (v := ?_) rfl (by kernel_rfl) (by kernel_rfl) (by kernel_rfl) (fun _ _ _ h => h) (Or.inl ⟨by rfl, ?_⟩) (by assumption) ?_
      rotate_left
      · intro w hSw; (try dsimp only at hSw); go_simp; try with_reducible rfl
      go_simp
      refine wpAnyH_take (i := 2) (v := ?_) rfl (by kernel_rfl) (by kernel_rfl) (by kernel_rfl) (fun _ _ _ h => h) (Or.inl ⟨by rfl, ?_⟩) (by assumption) ?_
      rotate_left
      · intro w hSw; (try dsimp only at hSw); go_simp; try with_reducible rfl
      go_simp
      refine wpAnyH_take (i := 3) (v := ?_) rfl (by kernel_rfl) (by kernel_rfl) (by kernel_rfl) (fun _ _ _ h => h) (Or.inl ⟨by rfl, ?_⟩) (by assumption) ?_
      rotate_left
      · intro w hSw; (try dsimp only at hSw); go_simp; try with_reducible rfl
      go_simp
      refine wpAnyH_take (i := 5) (v := ?_) rfl (by kernel_rfl) (by kernel_rfl) (by kernel_rfl) (fun _ _ _ h => h) (Or.inl ⟨by rfl, ?_⟩) (by assumption) ?_
      rotate_left
      · intro w hSw; (try dsimp only at hSw); go_simp; try with_reducible rfl
      go_simp
      refine wpAnyH_take (i := 8) (v := ?_) rfl (by kernel_rfl) (by kernel_rfl) (by kernel_rfl) (fun _ _ _ h => h) (Or.inl ⟨by rfl, ?_⟩) (by assumption) ?_
      rotate_left
      · intro w hSw; (try dsimp only at hSw); go_simp; try with_reducible rfl
      go_simp
      refine wpAnyH_take (i := 9) (v := ?_) rfl (by kernel_rfl) (by kernel_rfl) (by kernel_rfl) (fun _ _ _ h => h) (Or.inl ⟨by rfl, ?_⟩) (by assumption) ?_
      rotate_left
      · intro w hSw; (try dsimp only at hSw); go_simp; try with_reducible rfl
      go_simp
      refine wpAnyH_take (i := 10) (v := ?_) rfl (by kernel_rfl) (by kernel_rfl) (by kernel_rfl) (fun _ _ _ h => h) (Or.inl ⟨by rfl, ?_⟩) (by assumption) ?_
      rotate_left
      · intro w hSw; (try dsimp only at hSw); go_simp; try with_reducible rfl
      go_simp
      refine wpAnyH_ready (rs := [0, 6]) (by kernel_rfl) (by simp) ?_
      refine AllReadyH.cons rfl (fun K hK => ?_) ?_
      · skip
        go_simp
        obtain ⟨x0, hx0⟩ : ∃ x, Hid ((wr.alloc (.cells #[] 26)).drew = x) := ⟨_, rfl⟩
        obtain ⟨g0, hg0⟩ : ∃ x, Hid (wr.heap.size = x) := ⟨_, rfl⟩
        have HB0 : Hid (Below wr.heap.size wr x0) := by rw [← hx0.out]; exact ((Below.refl _ _).alloc (Nat.le_refl _) _).drew
        have HO0 : Hid (x0.ownsRow wr.heap.size 26 9 (.slice (some ⟨g0, 0, none⟩) 0 0) 0 []) := by rw [← hx0.out, ← hg0.out]; exact (own_new wr #[] 26 9 0 _ _ rfl rfl (by unfold maxLen; omega) (Nat.le_refl _)).drew
        rw [hx0.out, hg0.out, hT.out]
        refine hK.out _ _ ?_ (fun hHeld => ?_)
        · exact HB0.out
        clear hK K
        go_simp
        refine wpAnyH_ready (rs := [4, 6]) (by kernel_rfl) (by simp) ?_
        refine AllReadyH.cons rfl (fun K hK => ?_) ?_
        · skip
          refine step_own rfl (.tmp 38) (.tmp 41) 27 rfl wr.heap.size 26 i0 (.agg #[.int .i64 0, .int .i64 0, .int .i64 0, .int .i64 0, .int .i64 0, .int .i64 0, .bool false, .slice none 0 0, .slice none 0 0]) 9 104 Tryd.underlying27 HI.out.1 HI.out.2.1 HI.out.2.2.1 HI.out.2.2.2 rfl (by decide) (.slice (some ⟨g0, 0, none⟩) 0 0) (0) [] (by simp [Act.eval, Act.put]) HO0.out wr.heap.size A' p c' (cells.take (p * 9)) (by simp [Act.eval, Act.put]) ((HT.out.below HB0.out (Nat.le_refl _))) (FrsC.ones (HTF.out.below HB0.out)) (by unfold maxLen; omega) (by omega) HB0.out.size ?_
          intro v4 x4 ho4 hgr4
          obtain ⟨A4, c4, e4, _⟩ := own_form ho4
          subst e4
          have HB4 : Hid (Below wr.heap.size wr x4) := HB0.out.grown hgr4 HB0.out.size (fun g hg => (HO0.out.lt g hg).1)
          have HF4 : Hid (FrsC x4 ([] ++ (plainF fs).take p) ([] ++ (cells.take (p * 9)))) := FrsC.apps (hid_mk (p := FrsC x0 [] []) rfl).out (HTF.out.below HB0.out) hgr4 (own_cells HO0.out)
          have HO4 := Lib.hid ho4
          clear ho4 hgr4
          refine hK.out _ _ ?_ (fun hHeld => ?_)
          · exact HB4.out
          clear hK K
          go_simp
          refine wpAnyH_ready (rs := [6]) (by kernel_rfl) (by simp) ?_
          refine AllReadyH.cons rfl (fun K hK => ?_) AllReadyH.nil
          go_simp
          obtain ⟨x6, hx6⟩ : ∃ x, Hid (x4.alloc (.cells #[.int .i64 1, .int .i64 0, .int .i64 0, .int .i64 0, .int .i64 0, .int .i64 0, .bool false, .slice none 0 0, .slice none 0 0] 26) = x) := ⟨_, rfl⟩
          obtain ⟨g6, hg6⟩ : ∃ x, Hid (x4.heap.size = x) := ⟨_, rfl⟩
          have HB6 : Hid (Below wr.heap.size wr x6) := by rw [← hx6.out]; exact HB4.out.alloc HB4.out.size _
          have HX6 : Hid (Below x4.heap.size x4 x6) := by rw [← hx6.out]; exact (Below.refl _ _).alloc (Nat.le_refl _) _
          have HR6 : Hid (Rd x6 x6.heap.size (some ⟨g6, 0, none⟩) 9 (frC ping (.slice none 0 0) (.slice none 0 0))) := by rw [← hx6.out, ← hg6.out]; exact rd_new _ _ _ _ _ _ _ rfl (by simp) rfl rfl
          rw [hx6.out, hg6.out]
          have HO6 : Hid (x6.ownsRow wr.heap.size 26 9 (.slice A4 (0 + p) c4) ((0 + p)) ([] ++ (cells.take (p * 9)))) := by rw [← hx6.out]; exact HO4.out.alloc _
          have HF6 : Hid (FrsC x6 ([] ++ (plainF fs).take p) ([] ++ (cells.take (p * 9)))) := HF4.out.below HX6.out
          refine hK.out _ _ ?_ (fun hHeld => ?_)
          · exact HB6.out
          clear hK K
          go_simp
          refine wpAnyH_ready (rs := [7]) (by kernel_rfl) (by simp) ?_
          refine AllReadyH.cons rfl (fun K hK => ?_) AllReadyH.nil
          refine step_own rfl (.tmp 42) (.tmp 44) 27 rfl wr.heap.size 26 i0 (.agg #[.int .i64 0, .int .i64 0, .int .i64 0, .int .i64 0, .int .i64 0, .int .i64 0, .bool false, .slice none 0 0, .slice none 0 0]) 9 104 Tryd.underlying27 HI.out.1 HI.out.2.1 HI.out.2.2.1 HI.out.2.2.2 rfl (by decide) (.slice A4 (0 + p) c4) ((0 + p)) ([] ++ (cells.take (p * 9))) (by simp [Act.eval, Act.put]) HO6.out x6.heap.size (some ⟨g6, 0, none⟩) 1 1 (frC ping (.slice none 0 0) (.slice none 0 0)) (by simp [Act.eval, Act.put]) HR6.out (FrsC.ones (FrsC.one (ping_cells x6))) (by unfold maxLen; omega) (by omega) HB6.out.size ?_
          intro v7 x7 ho7 hgr7
          obtain ⟨A7, c7, e7, _⟩ := own_form ho7
          subst e7
          have HB7 : Hid (Below wr.heap.size wr x7) := HB6.out.grown hgr7 HB6.out.size (fun g hg => (HO6.out.lt g hg).1)
          have HF7 : Hid (FrsC x7 (([] ++ (plainF fs).take p) ++ [ping]) (([] ++ (cells.take (p * 9))) ++ (frC ping (.slice none 0 0) (.slice none 0 0)))) := FrsC.apps HF6.out (FrsC.one (ping_cells x6)) hgr7 (own_cells HO6.out)
          have HO7 := Lib.hid ho7
          clear ho7 hgr7
          refine hK.out _ _ ?_ (fun hHeld => ?_)
          · exact HB7.out
          clear hK K
          go_simp
          refine wpAnyH_ready (rs := [11]) (by kernel_rfl) (by simp) ?_
          refine AllReadyH.cons rfl (fun K hK => ?_) AllReadyH.nil
          refine step_own rfl (.tmp 45) (.tmp 48) 27 rfl wr.heap.size 26 i0 (.agg #[.int .i64 0, .int .i64 0, .int .i64 0, .int .i64 0, .int .i64 0, .int .i64 0, .bool false, .slice none 0 0, .slice none 0 0]) 9 104 Tryd.underlying27 HI.out.1 HI.out.2.1 HI.out.2.2.1 HI.out.2.2.2 rfl (by decide) (.slice A7 ((0 + p) + 1) c7) (((0 + p) + 1)) (([] ++ (cells.take (p * 9))) ++ (frC ping (.slice none 0 0) (.slice none 0 0))) (by simp [Act.eval, Act.put]) HO7.out wr.heap.size T (m - p) (c' - p) (cells.drop (p * 9)) (by simp [Act.eval, Act.put]) ((HU.out.below HB7.out (Nat.le_refl _))) (FrsC.ones (HUF.out.below HB7.out)) (by unfold maxLen; omega) (by omega) HB7.out.size ?_
          intro v11 x11 ho11 hgr11
          obtain ⟨A11, c11, e11, _⟩ := own_form ho11
          subst e11
          have HB11 : Hid (Below wr.heap.size wr x11) := HB7.out.grown hgr11 HB7.out.size (fun g hg => (HO7.out.lt g hg).1)
          have HF11 : Hid (FrsC x11 ((([] ++ (plainF fs).take p) ++ [ping]) ++ (plainF fs).drop p) ((([] ++ (cells.take (p * 9))) ++ (frC ping (.slice none 0 0) (.slice none 0 0))) ++ (cells.drop (p * 9)))) := FrsC.apps HF7.out (HUF.out.below HB7.out) hgr11 (own_cells HO7.out)
          have HO11 := Lib.hid ho11
          clear ho11 hgr11
          refine hK.out _ _ ?_ (fun hHeld => ?_)
          · exact HB11.out
          clear hK K
          go_simp
          refine wpAnyH_take (i := 12) (v := ?_) rfl (by kernel_rfl) (by kernel_rfl) (by kernel_rfl) (fun _ _ _ h => h) (Or.inl ⟨by rfl, ?_⟩) (by assumption) ?_
          rotate_left
          · intro w hSw; (try dsimp only at hSw); go_simp; try with_reducible rfl
          go_simp
          refine wpAnyH_done (by kernel_rfl) ?_ _
          have HG : Hid (Frs x11 A11 (m + 1) c11 ((([] ++ (plainF fs).take p) ++ [ping]) ++ (plainF fs).drop p)) := by
            have e : (((0 + p) + 1) + (m - p)) = m + 1 := by omega
            have hO := HO11.out
            rw [e] at hO
            have hl : (((([] ++ (plainF fs).take p) ++ [ping]) ++ (plainF fs).drop p)).length = m + 1 := by simp only [List.length_append, List.length_take, List.length_drop, List.length_cons, List.length_nil]; have := HPL.out; omega
            exact FrsOwn.frs ⟨_, by rw [hl]; exact hO, HF11.out⟩ hl
          have HGY : Hid (((((([] ++ (plainF fs).take p) ++ [ping]) ++ (plainF fs).drop p)).any fun f => elB f.k) = true) := by show _ = _; simp [ping, elB]
          obtain ⟨G, hG⟩ : ∃ G, Hid (((([] ++ (plainF fs).take p) ++ [ping]) ++ (plainF fs).drop p) = G) := ⟨_, Lib.hid rfl⟩
          rw [hG.out] at HG HGY
          have HBW : Hid (Below w.heap.size w x11) := HBw.out.trans (HB11.out.mono HBw.out.size)
          have ek : p + 1 + (m - p) = m + 1 := by omega
          rw [ek]
          have HFW := Lib.hid (HF1r.out.below HB11.out)
          have HPW := Lib.hid (HPr.out.below HB11.out)
          clear ek
          go_wp2_with fail
          refine (known_any HLd.out HBW.out).mono ?_
          rintro e y1 ⟨rfl, hy1⟩
          have HY1 := Lib.hid hy1
          have HC1 := Lib.hid (elicits_any fs A1 k c1 y1 (HFW.out.below hy1) (by omega))
          rw [HANY.out] at HC1
          clear hy1
          cases q
          all_goals
            go_wp2_with fail
            refine HC1.out.mono ?_
            rintro e y2 ⟨rfl, hy2⟩
            have HY2 : Hid (Below x11.heap.size x11 y2) := HY1.out.trans (hy2.mono HY1.out.size)
            have HC2 := Lib.hid (elicits_any (plainF fs) A' m c' y2 (HPW.out.below HY2.out) (by omega))
            rw [plain_not] at HC2
            clear hy2
            go_wp2_with fail
            refine HC2.out.mono ?_
            rintro e y3 ⟨rfl, hy3⟩
            have HY3 : Hid (Below x11.heap.size x11 y3) := HY2.out.trans (hy3.mono HY2.out.size)
            have HC3 := Lib.hid (elicits_any G A11 (m + 1) c11 y3 (HG.out.below HY3.out) (by omega))
            rw [HGY.out] at HC3
            clear hy3
            go_wp2_with fail
            refine HC3.out.mono ?_
            rintro e y4 ⟨rfl, hy4⟩
            have HY4 : Hid (Below w.heap.size w y4) := HBW.out.trans ((HY3.out.trans (hy4.mono HY3.out.size)).mono HBW.out.size)
            clear hy4
            go_wp2_with fail
            go_ret
            exact ⟨rfl, HY4.out⟩
        refine AllReadyH.cons rfl (fun K hK => ?_) ?_
        · skip
          go_simp
          obtain ⟨x6, hx6⟩ : ∃ x, Hid (x0.alloc (.cells #[.int .i64 1, .int .i64 0, .int .i64 0, .int .i64 0, .int .i64 0, .int .i64 0, .bool false, .slice none 0 0, .slice none 0 0] 26) = x) := ⟨_, rfl⟩
          obtain ⟨g6, hg6⟩ : ∃ x, Hid (x0.heap.size = x) := ⟨_, rfl⟩
          have HB6 : Hid (Below wr.heap.size wr x6) := by rw [← hx6.out]; exact HB0.out.alloc HB0.out.size _
          have HX6 : Hid (Below x0.heap.size x0 x6) := by rw [← hx6.out]; exact (Below.refl _ _).alloc (Nat.le_refl _) _
          have HR6 : Hid (Rd x6 x6.heap.size (some ⟨g6, 0, none⟩) 9 (frC ping (.slice none 0 0) (.slice none 0 0))) := by rw [← hx6.out, ← hg6.out]; exact rd_new _ _ _ _ _ _ _ rfl (by simp) rfl rfl
          rw [hx6.out, hg6.out]
          have HNE : Hid (g6 ≠ g0) := by
            have h1 := (HO0.out.lt g0 rfl).2
            have := hg6.out
            show _ ≠ _
            omega
          have HO6 : Hid (x6.ownsRow wr.heap.size 26 9 (.slice (some ⟨g0, 0, none⟩) 0 0) (0) []) := by rw [← hx6.out]; exact HO0.out.alloc _
          refine hK.out _ _ ?_ (fun hHeld => ?_)
          · exact HB6.out
          clear hK K
          go_simp
          refine wpAnyH_ready (rs := [4]) (by kernel_rfl) (by simp) ?_
          refine AllReadyH.cons rfl (fun K hK => ?_) AllReadyH.nil
          refine step_own rfl (.tmp 38) (.tmp 41) 27 rfl wr.heap.size 26 i0 (.agg #[.int .i64 0, .int .i64 0, .int .i64 0, .int .i64 0, .int .i64 0, .int .i64 0, .bool false, .slice none 0 0, .slice none 0 0]) 9 104 Tryd.underlying27 HI.out.1 HI.out.2.1 HI.out.2.2.1 HI.out.2.2.2 rfl (by decide) (.slice (some ⟨g0, 0, none⟩) 0 0) (0) [] (by simp [Act.eval, Act.put]) HO6.out wr.heap.size A' p c' (cells.take (p * 9)) (by simp [Act.eval, Act.put]) ((HT.out.below HB6.out (Nat.le_refl _))) (FrsC.ones (HTF.out.below HB6.out)) (by unfold maxLen; omega) (by omega) HB6.out.size ?_
          intro v4 x4 ho4 hgr4
          obtain ⟨A4, c4, e4, _⟩ := own_form ho4
          subst e4
          have HB4 : Hid (Below wr.heap.size wr x4) := HB6.out.grown hgr4 HB6.out.size (fun g hg => (HO6.out.lt g hg).1)
          have HF4 : Hid (FrsC x4 ([] ++ (plainF fs).take p) ([] ++ (cells.take (p * 9)))) := FrsC.apps (hid_mk (p := FrsC x6 [] []) rfl).out (HTF.out.below HB6.out) hgr4 (own_cells HO6.out)
          have HO4 := Lib.hid ho4
          have HR4 : Hid (Rd x4 x4.heap.size (some ⟨g6, 0, none⟩) 9 (frC ping (.slice none 0 0) (.slice none 0 0))) := rd_grown HR6.out hgr4 (fun e => HNE.out (Option.some.inj e).symm)
          clear ho4 hgr4
          refine hK.out _ _ ?_ (fun hHeld => ?_)
          · exact HB4.out
          clear hK K
          go_simp
          refine wpAnyH_ready (rs := [7]) (by kernel_rfl) (by simp) ?_
          refine AllReadyH.cons rfl (fun K hK => ?_) AllReadyH.nil
          refine step_own rfl (.tmp 42) (.tmp 44) 27 rfl wr.heap.size 26 i0 (.agg #[.int .i64 0, .int .i64 0, .int .i64 0, .int .i64 0, .int .i64 0, .int .i64 0, .bool false, .slice none 0 0, .slice none 0 0]) 9 104 Tryd.underlying27 HI.out.1 HI.out.2.1 HI.out.2.2.1 HI.out.2.2.2 rfl (by decide) (.slice A4 (0 + p) c4) ((0 + p)) ([] ++ (cells.take (p * 9))) (by simp [Act.eval, Act.put]) HO4.out x4.heap.size (some ⟨g6, 0, none⟩) 1 1 (frC ping (.slice none 0 0) (.slice none 0 0)) (by simp [Act.eval, Act.put]) HR4.out (FrsC.ones (FrsC.one (ping_cells x4))) (by unfold maxLen; omega) (by omega) HB4.out.size ?_
          intro v7 x7 ho7 hgr7
          obtain ⟨A7, c7, e7, _⟩ := own_form ho7
          subst e7
          have HB7 : Hid (Below wr.heap.size wr x7) := HB4.out.grown hgr7 HB4.out.size (fun g hg => (HO4.out.lt g hg).1)
          have HF7 : Hid (FrsC x7 (([] ++ (plainF fs).take p) ++ [ping]) (([] ++ (cells.take (p * 9))) ++ (frC ping (.slice none 0 0) (.slice none 0 0)))) := FrsC.apps HF4.out (FrsC.one (ping_cells x4)) hgr7 (own_cells HO4.out)
          have HO7 := Lib.hid ho7
          clear ho7 hgr7
          refine hK.out _ _ ?_ (fun hHeld => ?_)
          · exact HB7.out
          clear hK K
          go_simp
          refine wpAnyH_ready (rs := [11]) (by kernel_rfl) (by simp) ?_
          refine AllReadyH.cons rfl (fun K hK => ?_) AllReadyH.nil
          refine step_own rfl (.tmp 45) (.tmp 48) 27 rfl wr.heap.size 26 i0 (.agg #[.int .i64 0, .int .i64 0, .int .i64 0, .int .i64 0, .int .i64 0, .int .i64 0, .bool false, .slice none 0 0, .slice none 0 0]) 9 104 Tryd.underlying27 HI.out.1 HI.out.2.1 HI.out.2.2.1 HI.out.2.2.2 rfl (by decide) (.slice A7 ((0 + p) + 1) c7) (((0 + p) + 1)) (([] ++ (cells.take (p * 9))) ++ (frC ping (.slice none 0 0) (.slice none 0 0))) (by simp [Act.eval, Act.put]) HO7.out wr.heap.size T (m - p) (c' - p) (cells.drop (p * 9)) (by simp [Act.eval, Act.put]) ((HU.out.below HB7.out (Nat.le_refl _))) (FrsC.ones (HUF.out.below HB7.out)) (by unfold maxLen; omega) (by omega) HB7.out.size ?_
          intro v11 x11 ho11 hgr11
          obtain ⟨A11, c11, e11, _⟩ := own_form ho11
          subst e11
          have HB11 : Hid (Below wr.heap.size wr x11) := HB7.out.grown hgr11 HB7.out.size (fun g hg => (HO7.out.lt g hg).1)
          have HF11 : Hid (FrsC x11 ((([] ++ (plainF fs).take p) ++ [ping]) ++ (plainF fs).drop p) ((([] ++ (cells.take (p * 9))) ++ (frC ping (.slice none 0 0) (.slice none 0 0))) ++ (cells.drop (p * 9)))) := FrsC.apps HF7.out (HUF.out.below HB7.out) hgr11 (own_cells HO7.out)
          have HO11 := Lib.hid ho11
          clear ho11 hgr11
          refine hK.out _ _ ?_ (fun hHeld => ?_)
          · exact HB11.out
          clear hK K
          go_simp
          refine wpAnyH_take (i := 12) (v := ?_) rfl (by kernel_rfl) (by kernel_rfl) (by kernel_rfl) (fun _ _ _ h => h) (Or.inl ⟨by rfl, ?_⟩) (by assumption) ?_
          rotate_left
          · intro w hSw; (try dsimp only at hSw); go_simp; try with_reducible rfl
          go_simp
          refine wpAnyH_done (by kernel_rfl) ?_ _
          have HG : Hid (Frs x11 A11 (m + 1) c11 ((([] ++ (plainF fs).take p) ++ [ping]) ++ (plainF fs).drop p)) := by
            have e : (((0 + p) + 1) + (m - p)) = m + 1 := by omega
            have hO := HO11.out
            rw [e] at hO
            have hl : (((([] ++ (plainF fs).take p) ++ [ping]) ++ (plainF fs).drop p)).length = m + 1 := by simp only [List.length_append, List.length_take, List.length_drop, List.length_cons, List.length_nil]; have := HPL.out; omega
            exact FrsOwn.frs ⟨_, by rw [hl]; exact hO, HF11.out⟩ hl
          have HGY : Hid (((((([] ++ (plainF fs).take p) ++ [ping]) ++ (plainF fs).drop p)).any fun f => elB f.k) = true) := by show _ = _; simp [ping, elB]
          obtain ⟨G, hG⟩ : ∃ G, Hid (((([] ++ (plainF fs).take p) ++ [ping]) ++ (plainF fs).drop p) = G) := ⟨_, Lib.hid rfl⟩
          rw [hG.out] at HG HGY
          have HBW : Hid (Below w.heap.size w x11) := HBw.out.trans (HB11.out.mono HBw.out.size)
          have ek : p + 1 + (m - p) = m + 1 := by omega
          rw [ek]
          have HFW := Lib.hid (HF1r.out.below HB11.out)
          have HPW := Lib.hid (HPr.out.below HB11.out)
          clear ek
          go_wp2_with fail
          refine (known_any HLd.out HBW.out).mono ?_
          rintro e y1 ⟨rfl, hy1⟩
          have HY1 := Lib.hid hy1
          have HC1 := Lib.hid (elicits_any fs A1 k c1 y1 (HFW.out.below hy1) (by omega))
          rw [HANY.out] at HC1
          clear hy1
          cases q
          all_goals
            go_wp2_with fail
            refine HC1.out.mono ?_
            rintro e y2 ⟨rfl, hy2⟩
            have HY2 : Hid (Below x11.heap.size x11 y2) := HY1.out.trans (hy2.mono HY1.out.size)
            have HC2 := Lib.hid (elicits_any (plainF fs) A' m c' y2 (HPW.out.below HY2.out) (by omega))
            rw [plain_not] at HC2
            clear hy2
            go_wp2_with fail
            refine HC2.out.mono ?_
            rintro e y3 ⟨rfl, hy3⟩
            have HY3 : Hid (Below x11.heap.size x11 y3) := HY2.out.trans (hy3.mono HY2.out.size)
            have HC3 := Lib.hid (elicits_any G A11 (m + 1) c11 y3 (HG.out.below HY3.out) (by omega))
            rw [HGY.out] at HC3
            clear hy3
            go_wp2_with fail
            refine HC3.out.mono ?_
            rintro e y4 ⟨rfl, hy4⟩
            have HY4 : Hid (Below w.heap.size w y4) := HBW.out.trans ((HY3.out.trans (hy4.mono HY3.out.size)).mono HBW.out.size)
            clear hy4
            go_wp2_with fail
            go_ret
            exact ⟨rfl, HY4.out⟩
        exact AllReadyH.nil
      refine AllReadyH.cons rfl (fun K hK => ?_) ?_
      · skip
        go_simp
        obtain ⟨x6, hx6⟩ : ∃ x, Hid ((wr.alloc (.cells #[.int .i64 1, .int .i64 0, .int .i64 0, .int .i64 0, .int .i64 0, .int .i64 0, .bool false, .slice none 0 0, .slice none 0 0] 26)).drew = x) := ⟨_, rfl⟩
        obtain ⟨g6, hg6⟩ : ∃ x, Hid (wr.heap.size = x) := ⟨_, rfl⟩
        have HB6 : Hid (Below wr.heap.size wr x6) := by rw [← hx6.out]; exact ((Below.refl _ _).alloc (Nat.le_refl _) _).drew
        have HR6 : Hid (Rd x6 x6.heap.size (some ⟨g6, 0, none⟩) 9 (frC ping (.slice none 0 0) (.slice none 0 0))) := by rw [← hx6.out, ← hg6.out]; exact Rd.drew (rd_new wr _ _ _ _ _ _ rfl (by simp) rfl rfl)
        rw [hx6.out, hg6.out, hT.out]
        refine hK.out _ _ ?_ (fun hHeld => ?_)
        · exact HB6.out
        clear hK K
        go_simp
        refine wpAnyH_ready (rs := [0]) (by kernel_rfl) (by simp) ?_
        refine AllReadyH.cons rfl (fun K hK => ?_) AllReadyH.nil
        go_simp
        obtain ⟨x0, hx0⟩ : ∃ x, Hid (x6.alloc (.cells #[] 26) = x) := ⟨_, rfl⟩
        obtain ⟨g0, hg0⟩ : ∃ x, Hid (x6.heap.size = x) := ⟨_, rfl⟩
        have HB0 : Hid (Below wr.heap.size wr x0) := by rw [← hx0.out]; exact HB6.out.alloc HB6.out.size _
        have HX0 : Hid (Below x6.heap.size x6 x0) := by rw [← hx0.out]; exact (Below.refl _ _).alloc (Nat.le_refl _) _
        have HO0 : Hid (x0.ownsRow wr.heap.size 26 9 (.slice (some ⟨g0, 0, none⟩) 0 0) 0 []) := by rw [← hx0.out, ← hg0.out]; exact own_new x6 #[] 26 9 0 _ _ rfl rfl (by unfold maxLen; omega) HB6.out.size
        rw [hx0.out, hg0.out]
        have HR0 : Hid (Rd x0 x0.heap.size (some ⟨g6, 0, none⟩) 9 (frC ping (.slice none 0 0) (.slice none 0 0))) := (HR6.out.below HX0.out (Nat.le_refl _)).more HX0.out.size
        have HNE : Hid (g6 ≠ g0) := by
          obtain ⟨b, off, e, hlt, _⟩ := HR6.out.2 (by omega)
          cases e
          have := hg0.out
          show _ ≠ _
          omega
        refine hK.out _ _ ?_ (fun hHeld => ?_)
        · exact HB0.out
        clear hK K
        go_simp
        refine wpAnyH_ready (rs := [4]) (by kernel_rfl) (by simp) ?_
        refine AllReadyH.cons rfl (fun K hK => ?_) AllReadyH.nil
        refine step_own rfl (.tmp 38) (.tmp 41) 27 rfl wr.heap.size 26 i0 (.agg #[.int .i64 0, .int .i64 0, .int .i64 0, .int .i64 0, .int .i64 0, .int .i64 0, .bool false, .slice none 0 0, .slice none 0 0]) 9 104 Tryd.underlying27 HI.out.1 HI.out.2.1 HI.out.2.2.1 HI.out.2.2.2 rfl (by decide) (.slice (some ⟨g0, 0, none⟩) 0 0) (0) [] (by simp [Act.eval, Act.put]) HO0.out wr.heap.size A' p c' (cells.take (p * 9)) (by simp [Act.eval, Act.put]) ((HT.out.below HB0.out (Nat.le_refl _))) (FrsC.ones (HTF.out.below HB0.out)) (by unfold maxLen; omega) (by omega) HB0.out.size ?_
        intro v4 x4 ho4 hgr4
        obtain ⟨A4, c4, e4, _⟩ := own_form ho4
        subst e4
        have HB4 : Hid (Below wr.heap.size wr x4) := HB0.out.grown hgr4 HB0.out.size (fun g hg => (HO0.out.lt g hg).1)
        have HF4 : Hid (FrsC x4 ([] ++ (plainF fs).take p) ([] ++ (cells.take (p * 9)))) := FrsC.apps (hid_mk (p := FrsC x0 [] []) rfl).out (HTF.out.below HB0.out) hgr4 (own_cells HO0.out)
        have HO4 := Lib.hid ho4
        have HR4 : Hid (Rd x4 x4.heap.size (some ⟨g6, 0, none⟩) 9 (frC ping (.slice none 0 0) (.slice none 0 0))) := rd_grown HR0.out hgr4 (fun e => HNE.out (Option.some.inj e).symm)
        clear ho4 hgr4
        refine hK.out _ _ ?_ (fun hHeld => ?_)
        · exact HB4.out
        clear hK K
        go_simp
        refine wpAnyH_ready (rs := [7]) (by kernel_rfl) (by simp) ?_
        refine AllReadyH.cons rfl (fun K hK => ?_) AllReadyH.nil
        refine step_own rfl (.tmp 42) (.tmp 44) 27 rfl wr.heap.size 26 i0 (.agg #[.int .i64 0, .int .i64 0, .int .i64 0, .int .i64 0, .int .i64 0, .int .i64 0, .bool false, .slice none 0 0, .slice none 0 0]) 9 104 Tryd.underlying27 HI.out.1 HI.out.2.1 HI.out.2.2.1 HI.out.2.2.2 rfl (by decide) (.slice A4 (0 + p) c4) ((0 + p)) ([] ++ (cells.take (p * 9))) (by simp [Act.eval, Act.put]) HO4.out x4.heap.size (some ⟨g6, 0, none⟩) 1 1 (frC ping (.slice none 0 0) (.slice none 0 0)) (by simp [Act.eval, Act.put]) HR4.out (FrsC.ones (FrsC.one (ping_cells x4))) (by unfold maxLen; omega) (by omega) HB4.out.size ?_
        intro v7 x7 ho7 hgr7
        obtain ⟨A7, c7, e7, _⟩ := own_form ho7
        subst e7
        have HB7 : Hid (Below wr.heap.size wr x7) := HB4.out.grown hgr7 HB4.out.size (fun g hg => (HO4.out.lt g hg).1)
        have HF7 : Hid (FrsC x7 (([] ++ (plainF fs).take p) ++ [ping]) (([] ++ (cells.take (p * 9))) ++ (frC ping (.slice none 0 0) (.slice none 0 0)))) := FrsC.apps HF4.out (FrsC.one (ping_cells x4)) hgr7 (own_cells HO4.out)
        have HO7 := Lib.hid ho7
        clear ho7 hgr7
        refine hK.out _ _ ?_ (fun hHeld => ?_)
        · exact HB7.out
        clear hK K
        go_simp
        refine wpAnyH_ready (rs := [11]) (by kernel_rfl) (by simp) ?_
        refine AllReadyH.cons rfl (fun K hK => ?_) AllReadyH.nil
        refine step_own rfl (.tmp 45) (.tmp 48) 27 rfl wr.heap.size 26 i0 (.agg #[.int .i64 0, .int .i64 0, .int .i64 0, .int .i64 0, .int .i64 0, .int .i64 0, .bool false, .slice none 0 0, .slice none 0 0]) 9 104 Tryd.underlying27 HI.out.1 HI.out.2.1 HI.out.2.2.1 HI.out.2.2.2 rfl (by decide) (.slice A7 ((0 + p) + 1) c7) (((0 + p) + 1)) (([] ++ (cells.take (p * 9))) ++ (frC ping (.slice none 0 0) (.slice none 0 0))) (by simp [Act.eval, Act.put]) HO7.out wr.heap.size T (m - p) (c' - p) (cells.drop (p * 9)) (by simp [Act.eval, Act.put]) ((HU.out.below HB7.out (Nat.le_refl _))) (FrsC.ones (HUF.out.below HB7.out)) (by unfold maxLen; omega) (by omega) HB7.out.size ?_
        intro v11 x11 ho11 hgr11
        obtain ⟨A11, c11, e11, _⟩ := own_form ho11
        subst e11
        have HB11 : Hid (Below wr.heap.size wr x11) := HB7.out.grown hgr11 HB7.out.size (fun g hg => (HO7.out.lt g hg).1)
        have HF11 : Hid (FrsC x11 ((([] ++ (plainF fs).take p) ++ [ping]) ++ (plainF fs).drop p) ((([] ++ (cells.take (p * 9))) ++ (frC ping (.slice none 0 0) (.slice none 0 0))) ++ (cells.drop (p * 9)))) := FrsC.apps HF7.out (HUF.out.below HB7.out) hgr11 (own_cells HO7.out)
        have HO11 := Lib.hid ho11
        clear ho11 hgr11
        refine hK.out _ _ ?_ (fun hHeld => ?_)
        · exact HB11.out
        clear hK K
        go_simp
        refine wpAnyH_take (i := 12) (v := ?_) rfl (by kernel_rfl) (by kernel_rfl) (by kernel_rfl) (fun _ _ _ h => h) (Or.inl ⟨by rfl, ?_⟩) (by assumption) ?_
        rotate_left
        · intro w hSw; (try dsimp only at hSw); go_simp; try with_reducible rfl
        go_simp
        refine wpAnyH_done (by kernel_rfl) ?_ _
        have HG : Hid (Frs x11 A11 (m + 1) c11 ((([] ++ (plainF fs).take p) ++ [ping]) ++ (plainF fs).drop p)) := by
          have e : (((0 + p) + 1) + (m - p)) = m + 1 := by omega
          have hO := HO11.out
          rw [e] at hO
          have hl : (((([] ++ (plainF fs).take p) ++ [ping]) ++ (plainF fs).drop p)).length = m + 1 := by simp only [List.length_append, List.length_take, List.length_drop, List.length_cons, List.length_nil]; have := HPL.out; omega
          exact FrsOwn.frs ⟨_, by rw [hl]; exact hO, HF11.out⟩ hl
        have HGY : Hid (((((([] ++ (plainF fs).take p) ++ [ping]) ++ (plainF fs).drop p)).any fun f => elB f.k) = true) := by show _ = _; simp [ping, elB]
        obtain ⟨G, hG⟩ : ∃ G, Hid (((([] ++ (plainF fs).take p) ++ [ping]) ++ (plainF fs).drop p) = G) := ⟨_, Lib.hid rfl⟩
        rw [hG.out] at HG HGY
        have HBW : Hid (Below w.heap.size w x11) := HBw.out.trans (HB11.out.mono HBw.out.size)
        have ek : p + 1 + (m - p) = m + 1 := by omega
        rw [ek]
        have HFW := Lib.hid (HF1r.out.below HB11.out)
        have HPW := Lib.hid (HPr.out.below HB11.out)
        clear ek
        go_wp2_with fail
        refine (known_any HLd.out HBW.out).mono ?_
        rintro e y1 ⟨rfl, hy1⟩
        have HY1 := Lib.hid hy1
        have HC1 := Lib.hid (elicits_any fs A1 k c1 y1 (HFW.out.below hy1) (by omega))
        rw [HANY.out] at HC1
        clear hy1
        cases q
        all_goals
          go_wp2_with fail
          refine HC1.out.mono ?_
          rintro e y2 ⟨rfl, hy2⟩
          have HY2 : Hid (Below x11.heap.size x11 y2) := HY1.out.trans (hy2.mono HY1.out.size)
          have HC2 := Lib.hid (elicits_any (plainF fs) A' m c' y2 (HPW.out.below HY2.out) (by omega))
          rw [plain_not] at HC2
          clear hy2
          go_wp2_with fail
          refine HC2.out.mono ?_
          rintro e y3 ⟨rfl, hy3⟩
          have HY3 : Hid (Below x11.heap.size x11 y3) := HY2.out.trans (hy3.mono HY2.out.size)
          have HC3 := Lib.hid (elicits_any G A11 (m + 1) c11 y3 (HG.out.below HY3.out) (by omega))
          rw [HGY.out] at HC3
          clear hy3
          go_wp2_with fail
          refine HC3.out.mono ?_
          rintro e y4 ⟨rfl, hy4⟩
          have HY4 : Hid (Below w.heap.size w y4) := HBW.out.trans ((HY3.out.trans (hy4.mono HY3.out.size)).mono HBW.out.size)
          clear hy4
          go_wp2_with fail
          go_ret
          exact ⟨rfl, HY4.out⟩
      exact AllReadyH.nil
end Go.Proofs.YtkphmgfjlbdpgaaDoor
