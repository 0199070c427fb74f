/- PacketMany: the walk. Conditions: as the theorem lists them. -/
import Derived.Test.YtkphmgfjlbdpgaaDoorJM1
set_option linter.unusedSimpArgs false
set_option linter.unusedVariables false

namespace Go.Proofs.YtkphmgfjlbdpgaaDoor
open Go Go.RowKit

set_option maxRecDepth 100000 in
set_option maxHeartbeats 4000000 in
theorem pmany_walk (key : Nat) (first_ : Int) (Ao : Option Addr) (co : Nat) (ord : List Int) (A : Option Addr) (n c : Nat) (rs : List Rw) (w : World) (hkey : key < 2 ^ 64) (ho : IsInts w Ao co ord) (hL : laidMetH Tryd.prog laids w) (hr : IsRaws w A c n rs) :
    Calls Tryd.prog 11 #[.int .u64 (key : Int), .int .i64 first_, .slice Ao ord.length co, .slice A n c] w fun e w' => e = .returned (.bool true) ∧ Below w.heap.size w w' := by
  have HLd := Lib.hid hL
  have HRi := Lib.hid (hright_any 1 (by decide) rs A n c w hr)
  have HK1 := Lib.hid hkey
  have HOR := Lib.hid ho
  have P1 := Lib.hid (fun W => pick_any first_ 1073741824 W (by decide) (by decide))
  obtain ⟨F, hF⟩ : ∃ x, first_ % 1073741824 = x := ⟨_, rfl⟩
  have F0 : 0 ≤ F := by omega
  have F1 : F < 1073741824 := by omega
  rw [hF] at P1
  obtain ⟨no, hno⟩ : ∃ x, Hid (ord.length = x) := ⟨_, rfl⟩
  rw [hno.out]
  have hnoc : (no : Int) ≤ (co : Int) := by have := ho.cap; have := hno.out; omega
  have hnob : (no : Int) ≤ 17592186044416 := by have := ho.reach; have := hno.out; omega
  obtain ⟨i0, hi, hz0, hz1, hz2⟩ := info_parts infoFr
  have HI := Lib.hid (And.intro hi (And.intro hz0 (And.intro hz1 hz2)))
  clear hL hr hkey ho hF hi hz0 hz1 hz2
  go_enter Tryd.func11, Tryd.ntmps11
  go_wp2_with fail
  refine (P1.out _).mono ?_; rintro e w' ⟨rfl, rfl⟩
  go_wp2_with fail
  refine HRi.out.mono ?_
  rintro e w1 ⟨A1, n1, c1, fs, rfl, hfl, hn8, hok, hown, hbw⟩
  have HFL := Lib.hid hfl
  have HOK := Lib.hid hok
  have HF1 := Lib.hid (hown.frs hfl)
  have HB1 := Lib.hid hbw
  have hci : (n1 : Int) ≤ (c1 : Int) := by have := HF1.out.2.1; omega
  have hni : (n1 : Int) ≤ 1 := by omega
  clear hfl hok hown hbw HRi
  go_wp2_with fail
  obtain ⟨bl, hbl⟩ : ∃ x, Hid ((layF fs).length = x) := ⟨_, rfl⟩
  obtain ⟨L, hLL⟩ : ∃ x, Hid (x = 12 + bl) := ⟨_, rfl⟩
  have HPLN : Hid (∀ i, i < 20 → (pkN key F fs i).length = L) := fun i hi => by rw [pkN_len key F fs i hi, hbl.out, hLL.out]
  have HKN : Hid (∀ W, Below w1.heap.size w1 W → Calls Tryd.prog 23 #[] W fun e w' => e = .returned (.bool true) ∧ Below W.heap.size W w') := fun W hW => known6_any HLd.out (HB1.out.trans (hW.mono HB1.out.size))
  have HTB : Hid (∀ W, Below w1.heap.size w1 W → Tabs W) := fun W hW => tabs_of HLd.out (HB1.out.trans (hW.mono HB1.out.size))
  have HA0 : Hid (AllW w1 w1.heap.size L (pkN key F fs) 0 (w1.alloc (.cells #[.slice none 0 0, .slice none 0 0, .slice none 0 0, .slice none 0 0, .slice none 0 0, .slice none 0 0, .slice none 0 0, .slice none 0 0, .slice none 0 0, .slice none 0 0, .slice none 0 0, .slice none 0 0, .slice none 0 0, .slice none 0 0, .slice none 0 0, .slice none 0 0, .slice none 0 0, .slice none 0 0, .slice none 0 0, .slice none 0 0] 57))) :=
    ⟨(Below.refl _ _).alloc (Nat.le_refl _) _, Nat.le_refl _, _, heap_alloc_new _ _, rfl, fun j hj => absurd hj (Nat.not_lt_zero _)⟩
  have hbl312 : bl ≤ 312 := by
    have := layF_len HOK.out
    have h2 := HFL.out
    have h3 := hbl.out
    omega
  have hL12 : 12 ≤ L := by have := hLL.out; omega
  have hLb : L ≤ 324 := by have := hLL.out; omega
  go_loopw [26] (fun i wr => ∃ q : Nat, q ≤ 20 ∧ i = .int .i64 q ∧ Hid (AllW w1 w1.heap.size L (pkN key F fs) q wr)) (fun i _ => 20 - (intOf i).toNat)
  case atStart => exact ⟨0, Nat.zero_le _, rfl, HA0⟩
  case round =>
    obtain ⟨q, hq, rfl, HK⟩ := hrel
    by_cases hlt : q < 20
    · have hlti : (q : Int) < 20 := by omega
      obtain ⟨hf1, hf2, cells, hf3, hf4⟩ := HF1.out.below HK.out.1
      have HWA : Hid (Below w1.heap.size w1 (wr.alloc (.cells #[.int .i64 10, .int .i64 (q : Int), .int .i64 0, .int .i64 0, .int .i64 0, .int .i64 0, .bool false, .slice none 0 0, .slice none 0 0] 26))) := HK.out.1.alloc HK.out.1.size _
      have HRD : Hid (Rd (wr.alloc (.cells #[.int .i64 10, .int .i64 (q : Int), .int .i64 0, .int .i64 0, .int .i64 0, .int .i64 0, .bool false, .slice none 0 0, .slice none 0 0] 26)) wr.heap.size A1 (n1 * 9) cells) := hf3.alloc (Nat.le_refl _) _
      have HFC : Hid (FrsC (wr.alloc (.cells #[.int .i64 10, .int .i64 (q : Int), .int .i64 0, .int .i64 0, .int .i64 0, .int .i64 0, .bool false, .slice none 0 0, .slice none 0 0] 26)) fs cells) := hf4.below ((Below.refl _ _).alloc (Nat.le_refl _) _)
      clear hf1 hf2 hf3 hf4
      go_wp2_with (at_builtin; refine wpList_app _ rfl (.tmp 38) (.tmp 39) 27 rfl wr.heap.size 26 i0 (.agg #[.int .i64 0, .int .i64 0, .int .i64 0, .int .i64 0, .int .i64 0, .int .i64 0, .bool false, .slice none 0 0, .slice none 0 0]) 9 104 Tryd.underlying27 HI.out.1 HI.out.2.1 HI.out.2.2.1 HI.out.2.2.2 rfl (by decide) (.slice (some ⟨wr.heap.size, 0, none⟩) 1 1) 1 (frC (gotF q) (.slice none 0 0) (.slice none 0 0)) rfl (own_new wr _ 26 9 1 _ _ rfl rfl (by unfold maxLen; omega) (Nat.le_refl _)) wr.heap.size A1 n1 c1 cells rfl HRD.out HFC.out.ones (by unfold maxLen; omega) (by omega) (by simp) ?_)
      intro v1 w3 hown3 hgrow3
      have HB3 : Hid (Below wr.heap.size wr w3) := ((Below.refl _ _).alloc (Nat.le_refl _) _).grown hgrow3 (by simp) (fun g hg => by simp [Value.ownBlock] at hg; omega)
      obtain ⟨A3, c3, rfl, hnc3, _⟩ := own_form hown3
      have HFR : Hid (Frs w3 A3 (1 + n1) c3 (gotF q :: fs)) := by
        have hap := FrsC.apps (fs := [gotF q]) (gs := fs) (row := some wr.heap.size) (FrsC.one ⟨none, 0, 0, none, 0, 0, rfl, rfl, rfl, own_nil _ _ _ _, own_nil _ _ _ _⟩) HFC.out hgrow3 (fun g hg => by cases hg; exact ⟨_, _, heap_alloc_new _ _⟩)
        exact FrsOwn.frs (base := wr.heap.size) ⟨_, by rw [show (gotF q :: fs).length = 1 + n1 by simp [HFL.out]; omega]; exact hown3, hap⟩ (by simp [HFL.out]; omega)
      have HK3 : Hid (AllW w1 w1.heap.size L (pkN key F fs) q w3) := HK.out.below HB3.out
      have HLA : Hid (Calls Tryd.prog 21 #[.int .u64 (key : Int), .int .i64 (F + (q : Int)), .int .i64 (F - 1), .slice A3 (1 + n1) c3] w3 fun e w' => Below w3.heap.size w3 w' ∧ ((bl : Int) ≤ 228 → ∃ A c, e = .returned (.tuple #[.slice A L c, .int .i64 0]) ∧ w'.ownsRow w3.heap.size 5 1 (.slice A L c) L (bv (pkN key F fs q))) ∧ (228 < (bl : Int) → e = .returned (.tuple #[.slice none 0 0, .int .i64 9]))) := by
        have := pkLay_any key (F + (q : Int)) (F - 1) (gotF q :: fs) A3 (1 + n1) c3 w3 (HTB.out w3 HK3.out.1) HFR.out (fun f hf => by rcases List.mem_cons.1 hf with h | h; rw [h]; exact got_ok q hlt; exact HOK.out f h) (by omega) HK1.out (by omega) (by omega) (by omega)
        refine this.mono ?_
        rintro e w' ⟨h1, h2, h3⟩
        rw [near_k F q hlt, body_len q hlt fs, hbl.out, show 1 + 9 + (2 + bl) = L by have := hLL.out; omega] at h2
        rw [near_k F q hlt, body_len q hlt fs, hbl.out] at h3
        exact ⟨h1, fun h => h2 (by omega), fun h => h3 (by omega)⟩
      clear hown3 hgrow3 hnc3 HRD HFC HWA HK
      go_wp2_with fail
      refine HLA.out.mono ?_
      rintro e w4 ⟨hb4, h1, h2⟩
      have HK4 : Hid (AllW w1 w1.heap.size L (pkN key F fs) q w4) := HK3.out.below hb4
      by_cases hfit : (bl : Int) ≤ 228
      · obtain ⟨A4, c4, he, ho4⟩ := h1 hfit
        obtain ⟨g, c5, ev, hge⟩ := own_at ho4 (by omega) (by decide)
        simp only [Value.slice.injEq, true_and] at ev
        obtain ⟨rfl, rfl⟩ := ev
        subst he
        obtain ⟨_, _, ev, hc4, _, _, hr4⟩ := own_form ho4
        simp only [Value.slice.injEq] at ev
        obtain ⟨rfl, _, rfl⟩ := ev
        rw [Nat.mul_one] at hr4
        have hgw := (ho4.lt g rfl).2
        have HR4 := Lib.hid hr4
        have HNA : Hid (AllW w1 w1.heap.size L (pkN key F fs) (q + 1) (w4.setCell ⟨w1.heap.size, q, none⟩ (.slice (some ⟨g, 0, none⟩) L c4))) :=
          HK4.out.put hlt g c4 (by have := HK3.out.1.size; have := (Array.getElem?_eq_some_iff.1 HK3.out.2.2.choose_spec.1).1; omega) hgw hc4 (HPLN.out q hlt) (fun o u hu => by
            obtain ⟨b', o', e', _, hc'⟩ := hr4.2 (by omega)
            cases e'
            have := hc' o u hu
            rwa [Nat.zero_add] at this)
        have HRB : Hid (Rd (w4.setCell ⟨w1.heap.size, q, none⟩ (.slice (some ⟨g, 0, none⟩) L c4)) (w4.setCell ⟨w1.heap.size, q, none⟩ (.slice (some ⟨g, 0, none⟩) L c4)).heap.size (some ⟨g, 0, none⟩) L (bv (pkN key F fs q))) := by
          obtain ⟨_, _, cur, h3, h4, h5⟩ := HNA.out
          refine ⟨by rw [bv_len, HPLN.out q hlt], fun _ => ⟨g, 0, rfl, by simpa using hgw, fun o u hu => ?_⟩⟩
          obtain ⟨b', o', e', _, hc'⟩ := hr4.2 (by omega)
          cases e'
          have e := heap_setCell_other w4 ⟨w1.heap.size, q, none⟩ g (.slice (some ⟨g, 0, none⟩) L c4) (by have := HK3.out.1.size; have := (Array.getElem?_eq_some_iff.1 HK3.out.2.2.choose_spec.1).1; show g ≠ w1.heap.size; omega)
          exact (World.cell?_of_block e).trans (hc' o u hu)
        obtain ⟨⟨v0, hv0⟩, hfz⟩ := HK4.out.free q hlt
        have hL0 : (0 : Int) < (L : Int) := by omega
        clear h1 h2 hb4 ho4 hr4 hge hgw HLA HFR
        go_wp2_with fail
        obtain ⟨w5, hw5⟩ : ∃ x, w4.setCell ⟨w1.heap.size, q, none⟩ (.slice (some ⟨g, 0, none⟩) L c4) = x := ⟨_, rfl⟩
        rw [hw5] at HNA HRB ⊢
        clear hw5 hv0 hfz HK4 HK3
        go_loopw [14] (fun j wr2 => ∃ jn : Nat, jn ≤ q ∧ j = .int .i64 jn ∧ Hid (AllW w1 w1.heap.size L (pkN key F fs) (q + 1) wr2 ∧ Rd wr2 wr2.heap.size (some ⟨g, 0, none⟩) L (bv (pkN key F fs q)))) (fun j _ => q - (intOf j).toNat)
        case atStart => exact ⟨0, Nat.zero_le _, rfl, HNA.out, HRB.out⟩
        case round =>
          obtain ⟨jn, hjn, rfl, HKI⟩ := hrel
          by_cases hjq : jn < q
          · have hjqi : (jn : Int) < (q : Int) := by omega
            have hj20 : (jn : Int) < 20 := by omega
            obtain ⟨g', c', hcl, hcc, hrr⟩ := HKI.out.1.get jn (by omega) (HPLN.out jn (by omega))
            have C1 : ∀ m, (convert 24 9 (.slice (some ⟨g', 0, none⟩) L c')).run Tryd.prog (wr.drewN m) = .ok (.string (strOf (pkN key F fs jn))) (wr.drewN m) := fun m => conv_run (P := Tryd.prog) (wr.drewN m) 24 9 5 Tryd.underlying24 Tryd.underlying5 Tryd.underlying9 _ _ _ _ _ (hrr.drewN m)
            have C2 : ∀ m, (convert 24 9 (.slice (some ⟨g, 0, none⟩) L c4)).run Tryd.prog (wr.drewN m) = .ok (.string (strOf (pkN key F fs q))) (wr.drewN m) := fun m => conv_run (P := Tryd.prog) (wr.drewN m) 24 9 5 Tryd.underlying24 Tryd.underlying5 Tryd.underlying9 _ _ _ _ _ (HKI.out.2.drewN m)
            have HNE : Hid ((strOf (pkN key F fs jn)) ≠ (strOf (pkN key F fs q))) := fun e => pkN_ne key F fs q jn hlt hjq (strOf_inj (bytes_lt _ _ _ _ (fun x hx => by
              obtain ⟨f, hf, hx⟩ := List.mem_flatMap.1 hx
              rcases List.mem_cons.1 hf with h | h
              · rw [h] at hx; exact encF_lt (got_ok jn (by omega)) x hx
              · exact encF_lt (HOK.out f h) x hx)) (bytes_lt _ _ _ _ (fun x hx => by
              obtain ⟨f, hf, hx⟩ := List.mem_flatMap.1 hx
              rcases List.mem_cons.1 hf with h | h
              · rw [h] at hx; exact encF_lt (got_ok q hlt) x hx
              · exact encF_lt (HOK.out f h) x hx)) e)
            obtain ⟨s1, hs1⟩ : ∃ x, strOf (pkN key F fs jn) = x := ⟨_, rfl⟩
            obtain ⟨s2, hs2⟩ : ∃ x, strOf (pkN key F fs q) = x := ⟨_, rfl⟩
            rw [hs1] at C1 HNE
            rw [hs2] at C2 HNE
            have hse : (s1.toList == s2.toList) = false := beq_eq_false_iff_ne.2 (fun e => HNE.out (by rw [ByteArray.toList_eq, ByteArray.toList_eq] at e; exact Go.WideShapes.bytes_inj e))
            clear hs1 hs2 hrr hcc
            go_wp2_with fail
            go_quiet (fail)
            go_wp2_with fail
            go_roundw
            case rel => exact ⟨jn + 1, by omega, by go_num, HKI.out.1.drewN _, HKI.out.2.drewN _⟩
            case measure => simp [intOf]; omega
          · have hjqi : ¬ (jn : Int) < (q : Int) := by omega
            obtain rfl : jn = q := by omega
            go_wp2_with fail
            go_roundw
            case rel => exact ⟨jn + 1, by omega, by go_num, HKI.out.1⟩
            case measure => simp [intOf]; omega
      · have he := h2 (by omega)
        subst he
        clear h1 h2
        go_wp2_with fail
        refine (HKN.out _ HK4.out.1).mono ?_
        rintro e w5 ⟨rfl, hb⟩
        have HW5 : Hid (Below w.heap.size w w5) := HB1.out.trans ((HK4.out.1.trans (hb.mono HK4.out.1.size)).mono HB1.out.size)
        clear hb
        go_wp2_with fail
        go_ret
        exact ⟨ret_bool (by simp), HW5.out⟩
    · have hlti : ¬ (q : Int) < 20 := by omega
      obtain rfl : q = 20 := by omega
      clear HA0
      obtain ⟨w5, hw5⟩ : ∃ x, wr = x := ⟨_, rfl⟩
      subst hw5
      go_wp2_with fail
      go_loopw [15, 71] (fun nw i wq => ∃ (k : Nat) (N : Int), k ≤ no ∧ F - 1 ≤ N ∧ N ≤ F + 19 ∧ i = .int .i64 k ∧ nw = .int .i64 N ∧ Hid (AllW w1 w1.heap.size L (pkN key F fs) 20 wq)) (fun _ i _ => no - (intOf i).toNat)
      case atStart => exact ⟨0, F - 1, Nat.zero_le _, Int.le_refl _, by omega, rfl, rfl, HK⟩
      case round =>
        obtain ⟨k, N, hk, hN0, hN1, rfl, rfl, HQ⟩ := hrel
        have HWQ : Hid (Below w.heap.size w wr) := HB1.out.trans (HQ.out.1.mono HB1.out.size)
        by_cases hkn : k < no
        · have hkni : (k : Int) < (no : Int) := by omega
          obtain ⟨bo, offo, hAo, hbo, hco⟩ := HOR.out.rd.2 (by rw [hno.out]; omega)
          subst hAo
          obtain ⟨x, hx⟩ : ∃ x, Hid (ord.getD k 0 = x) := ⟨_, rfl⟩
          have hcx : wr.cell? ⟨bo, offo + k, none⟩ = some (.int .i64 x) := by
            rw [HWQ.out.cell (p := ⟨bo, offo + k, none⟩) hbo, hco k _ (ints_get ord k (by rw [hno.out]; exact hkn)), hx.out]
          have P2 := Lib.hid (fun W => pick_any x 20 W (by decide) (by decide))
          obtain ⟨p, hp⟩ : ∃ p : Nat, x % 20 = (p : Int) := ⟨(x % 20).toNat, by omega⟩
          have hp20 : p < 20 := by omega
          have hp20i : (p : Int) < 20 := by omega
          rw [hp] at P2
          obtain ⟨g, cg, hcl, hcc, hrr⟩ := HQ.out.get p hp20 (HPLN.out p hp20)
          have HRE : Hid (Calls Tryd.prog 22 #[.int .u64 (key : Int), .int .i64 (N + 1), .slice (some ⟨g, 0, none⟩) L cg] wr fun e w' => Below wr.heap.size wr w' ∧ ∃ A c, e = .returned (.tuple #[.int .i64 (F + (p : Int)), .slice A (1 + n1) c, .int .i64 0]) ∧ FrsOwn w' wr.heap.size (.slice A (1 + n1) c) ((gotF p :: fs).map bare)) := by
            have hl : kN (F + (p : Int)) (F - 1) + 9 + (layF (gotF p :: fs)).length = L := by rw [near_k F p hp20, body_len p hp20 fs, hbl.out]; have := hLL.out; omega
            have := pkRead_laid key (F + (p : Int)) (F - 1) (N + 1) (gotF p :: fs) (some ⟨g, 0, none⟩) cg wr (fun f hf => by rcases List.mem_cons.1 hf with h | h; rw [h]; exact got_ok p hp20; exact HOK.out f h) HK1.out (by rw [near_k F p hp20]; exact back_near _ _ _ (by omega) (by omega) (by omega) (by omega) (by simp [Pn.tn]; omega) (by simp [Pn.tn]; omega)) (by rw [hl]; exact hrr) (by rw [hl]; exact hcc) (by rw [body_len p hp20 fs, hbl.out]; omega)
            rw [hl] at this
            refine this.mono ?_
            rintro e w' ⟨h1, _, h3⟩
            obtain ⟨A', c', h4, h5⟩ := h3 (by simp)
            rw [show (gotF p :: fs).length = 1 + n1 by simp [HFL.out]; omega] at h4 h5
            exact ⟨h1, A', c', h4, h5⟩
          clear hp hrr hcc
          go_wp2_with fail
          refine (P2.out _).mono ?_; rintro e w' ⟨rfl, rfl⟩
          go_wp2_with fail
          refine HRE.out.mono ?_
          rintro e w6 ⟨hb6, Ag, c6, rfl, hog⟩
          have HQ6 : Hid (AllW w1 w1.heap.size L (pkN key F fs) 20 w6) := HQ.out.below hb6
          have HOG := Lib.hid (hog.frs (n := 1 + n1) (by simp [HFL.out]; omega))
          obtain ⟨b, off, f, Aa, na, ca, Ab, nb, cb, hA, hbl', hf, hfc, hcell⟩ := HOG.out.get 0 (by omega)
          subst hA
          have hfe : f = bare (gotF p) := by simpa using hf.symm
          have hid1 : w6.cell? ⟨b, off + 1, none⟩ = some (.int .i64 (p : Int)) := by
            have := hcell 1 _ rfl
            rw [hfe] at this
            simpa [frC, bare, gotF] using this
          have hc6 : 1 + n1 ≤ c6 := HOG.out.2.1
          have hc6i : (1 : Int) ≤ (c6 : Int) := by omega
          have hc6j : (1 : Int) + (n1 : Int) ≤ (c6 : Int) := by omega
          clear hbl' hf hfc hcell hfe hcl hcx hog hb6
          have HD : Hid (∀ A' c', (A' = if c6 = 1 then some ⟨b, off, none⟩ else some ⟨b, off + 9, none⟩) → c' = c6 - 1 → Frs w6 A' n1 c' (fs.map bare)) := fun A' c' hA hc => by
            have := HOG.out.drop 1 (by omega) A' c' (by rw [hA]; split <;> simp [Addr.add_lit]) hc
            rw [show 1 + n1 - 1 = n1 by omega] at this
            exact this
          have hsp2 : ∀ f ∈ fs.map bare, f.spans.length ≤ 16 := fun f hf => by
            obtain ⟨g, hg, rfl⟩ := List.mem_map.1 hf
            obtain ⟨m', hm', hs⟩ := (HOK.out g hg).sps
            have := hs.1
            show g.spans.length ≤ 16
            omega
          have HSA : Hid (∀ A' c', Frs w6 A' n1 c' (fs.map bare) → Calls Tryd.prog 32 #[.slice A' n1 c', .slice A1 n1 c1] w6 fun e w' => e = .returned (.bool true) ∧ Below w6.heap.size w6 w') := fun A' c' h =>
            rsames_same (fs.map bare) fs (by rw [List.map_map]; rfl) A' A1 n1 c' c1 w6 h (HF1.out.below HQ6.out.1) (by omega) hsp2
          clear hsp2
          have hc61 : c6 = 1 ∨ ¬ c6 = 1 := by omega
          rcases hc61 with rfl | hc61
          · obtain rfl : n1 = 0 := by omega
            have HSC := Lib.hid (HSA.out (some ⟨b, off, none⟩) 0 (HD.out _ _ (by simp) rfl))
            go_wp2_with fail
            refine HSC.out.mono ?_
            rintro e w7 ⟨rfl, hb7⟩
            have HQ7 : Hid (AllW w1 w1.heap.size L (pkN key F fs) 20 w7) := HQ6.out.below hb7
            clear hb7
            go_wp2_with fail
            go_roundw
            case rel => exact ⟨k + 1, if N < F + (p : Int) then F + (p : Int) else N, by omega, by split <;> omega, by split <;> omega, by go_num, rfl, HQ7⟩
            case measure => simp [intOf]; omega
          · have HSC := Lib.hid (HSA.out (some ⟨b, off + 9, none⟩) (c6 - 1) (HD.out _ _ (by rw [if_neg hc61]) rfl))
            go_wp2_with fail
            refine HSC.out.mono ?_
            rintro e w7 ⟨rfl, hb7⟩
            have HQ7 : Hid (AllW w1 w1.heap.size L (pkN key F fs) 20 w7) := HQ6.out.below hb7
            clear hb7
            go_wp2_with fail
            go_roundw
            case rel => exact ⟨k + 1, if N < F + (p : Int) then F + (p : Int) else N, by omega, by split <;> omega, by split <;> omega, by go_num, rfl, HQ7⟩
            case measure => simp [intOf]; omega
        · have hkni : ¬ (k : Int) < (no : Int) := by omega
          go_wp2_with fail
          refine (HKN.out _ HQ.out.1).mono ?_
          rintro e w6 ⟨rfl, hb⟩
          have HW6 : Hid (Below w.heap.size w w6) := HWQ.out.trans (hb.mono HWQ.out.size)
          clear hb
          go_wp2_with fail
          go_ret
          exact ⟨rfl, HW6.out⟩
end Go.Proofs.YtkphmgfjlbdpgaaDoor
