/- AcksOnce: the walk. Conditions: as the theorem lists them. -/
import Derived.Test.YtoglpjgmnojdjaaOp1
import Derived.Test.YtoglpjgmnojdjaaAkKn
set_option linter.unusedSimpArgs false
set_option linter.unusedVariables false
namespace Go.Proofs.Ytoglpjgmnojdjaa.Sp
open Go Go.RowKit

theorem zeros400 : Try.zeroCells67 = ((List.replicate 400 false).map Value.bool).toArray := by kernel_rfl

/-- Behind some numbers: what is in the set, in the array. -/
def OnceW (w wr : World) (p hb : Nat) (s : St) (had : List Bool) : Prop := OnceI 400 s had ∧ SeenIn wr p s ∧ HadIn wr hb 67 had ∧ Below w.heap.size w wr ∧ p ≠ hb ∧ w.heap.size ≤ p ∧ w.heap.size ≤ hb

set_option maxRecDepth 100000 in
set_option maxHeartbeats 4000000 in
theorem once_walk (A : Option Addr) (c : Nat) (l : List Int) (A1 : Option Addr) (c1 : Nat) (l1 : List Bool) (w : World) (hl : IsInts w A c l) (he : IsBools w A1 c1 l1) :
    Calls Try.prog 6 #[.slice A l.length c, .slice A1 l1.length c1] w fun e w' => e = .returned (.bool true) ∧ Below w.heap.size w w' := by
  have HL := Lib.hid hl
  have HE := Lib.hid he
  obtain ⟨n, hn⟩ : ∃ n, Hid (l.length = n) := ⟨_, rfl⟩
  obtain ⟨n1, hn1⟩ : ∃ n, Hid (l1.length = n) := ⟨_, rfl⟩
  have hnc : n ≤ c := by rw [← hn.out]; exact hl.cap
  have hn1c : n1 ≤ c1 := by rw [← hn1.out]; exact he.le
  have hnm : (n : Int) ≤ 17592186044416 := by have := hl.reach; rw [hn.out] at this; omega
  have hn1m : (n1 : Int) ≤ 9223372036854775807 := by have := he.le; have := he.big; have := hn1.out; unfold maxLen at *; omega
  rw [hn.out, hn1.out]
  clear hl he
  go_enter Try.func6, Try.ntmps6
  go_wp2_with fail
  refine (new_any _).mono ?_
  rintro e w1 ⟨p, rfl, hpw, hs, hb⟩
  have HS1 := Lib.hid hs
  have HB1 := Lib.hid hb
  clear hs hb
  go_wp2_with fail
  refine (AkKnown.known_any _).mono ?_
  rintro e w2 ⟨rfl, hb⟩
  have HS2 := Lib.hid (HS1.out.below hb)
  have HB2 : Hid (Below w.heap.size w w2) := HB1.out.trans (hb.mono HB1.out.size)
  clear hb HS1 HB1
  go_wp2_with fail
  obtain ⟨hb, hhb⟩ : ∃ g, Hid (w2.heap.size = g) := ⟨_, rfl⟩
  have HST : Hid (OnceW w (w2.alloc (Obj.cells Try.zeroCells67 67)) p hb st0 (List.replicate 400 false)) := by
    have hlt := HS2.out.lt
    have h2 := HB2.out.size
    have h3 := hhb.out
    refine ⟨once0 400, HS2.out.below ((Below.refl _ _).alloc (Nat.le_refl _) _), ?_, HB2.out.alloc HB2.out.size _, by omega, hpw, by omega⟩
    rw [← hhb.out, zeros400]
    exact heap_alloc_new _ _
  rw [hhb.out]
  go_loopw [7, 25] (fun v i wr => ∃ (k : Nat) (s : St) (had : List Bool), k ≤ n ∧ i = .int .i64 k ∧ v = .int .i64 s.nw ∧ Hid (OnceW w wr p hb s had)) (fun _ i _ => n - (intOf i).toNat)
  case atStart => exact ⟨0, st0, _, Nat.zero_le _, rfl, rfl, HST⟩
  case round =>
    clear HST
    obtain ⟨k, s, had, hk, rfl, rfl, HK⟩ := hrel
    have hpne : p ≠ hb := HK.out.2.2.2.2.1
    have hnw1 := HK.out.1.win.lo
    have hnw2 := HK.out.1.top
    obtain ⟨nw, hnw⟩ : ∃ x, Hid (s.nw = x) := ⟨_, rfl⟩
    rw [hnw.out] at hnw1 hnw2 ⊢
    by_cases hlt : k < n
    · have hlti : (k : Int) < (n : Int) := by omega
      have hki : (k : Int) ≤ 17592186044416 := by omega
      obtain ⟨_, b, off, hA, hbn, hcs⟩ := HL.out.rd.int (by rw [hn.out]; omega)
      subst hA
      obtain ⟨x, hx⟩ : ∃ x, Hid (l.getD k 0 = x) := ⟨_, rfl⟩
      have hcx : wr.cell? ⟨b, off + k, none⟩ = some (.int .i64 x) := by
        rw [HK.out.2.2.2.1.cell (p := ⟨b, off + k, none⟩) hbn, hcs k (by rw [hn.out]; omega), hx.out]
      clear hcs
      have HPK := Lib.hid (fun W => pick_any x 400 W (by omega) (by omega))
      have hq0 := Int.emod_nonneg x (show (400 : Int) ≠ 0 by omega)
      have hq1 := Int.emod_lt_of_pos x (show (0 : Int) < 400 by omega)
      obtain ⟨q, hq⟩ : ∃ q : Nat, x % 400 = (q : Int) := ⟨(x % 400).toNat, by omega⟩
      rw [hq] at HPK hq0 hq1
      clear hq
      have hq4 : q < 400 := by omega
      obtain ⟨el, hel⟩ : ∃ el, Hid ((if k < n1 then l1.getD k false else false) = el) := ⟨_, rfl⟩
      have HNO : Hid (Calls Try.prog 31 #[.pointer (some ⟨p, 0, none⟩), .int .i64 (q : Int), .bool el] wr fun e w' => e = .returned (.bool (noteB s q)) ∧ SeenIn w' p (noteS s q el) ∧ wr.grownBy w' (some p)) := note_any s HK.out.1.win p q el wr HK.out.2.1
      have HLen : Hid (had.length = 400) := HK.out.1.len
      have HOI : Hid (OnceI 400 s had) := HK.out.1
      have HHD : Hid (∀ w', wr.grownBy w' (some p) → HadIn w' hb 67 had ∧ Below w.heap.size w w') := fun w' hg =>
        ⟨(hg.block hb HK.out.2.2.1.lt (by simp; omega)).trans HK.out.2.2.1, HK.out.2.2.2.1.grown hg HK.out.2.2.2.1.size (fun g hg => by simp at hg; subst hg; exact HK.out.2.2.2.2.2.1)⟩
      have HGE : Hid (w.heap.size ≤ p ∧ w.heap.size ≤ hb) := HK.out.2.2.2.2.2
      have hce : k < n1 → ∃ b1 o1, A1 = some ⟨b1, o1, none⟩ ∧ wr.cell? ⟨b1, o1 + k, none⟩ = some (.bool el) := fun h => by
        obtain ⟨b1, o1, e1, h1, h2⟩ := HE.out.get k (by rw [hn1.out]; exact h)
        refine ⟨b1, o1, e1, ?_⟩
        rw [HK.out.2.2.2.1.cell (p := ⟨b1, o1 + k, none⟩) h1, h2, ← hel.out, if_pos h]
      have hcn : ¬ k < n1 → el = false := fun h => by rw [← hel.out, if_neg h]
      clear HK hel
      by_cases hlt1 : k < n1
      all_goals
        first
        | (obtain ⟨b1, o1, e1, hce1⟩ := hce hlt1; subst e1; have hlt1i : (k : Int) < (n1 : Int) := by omega)
        | (obtain rfl := hcn hlt1; have hlt1i : ¬ (k : Int) < (n1 : Int) := by omega)
        clear hce hcn
        go_wp2_with fail
        refine (HPK.out _).mono ?_
        rintro e w' ⟨rfl, rfl⟩
        go_wp2_with fail
        refine HNO.out.mono ?_
        rintro e wn ⟨rfl, h1, h2⟩
        have HSN := Lib.hid h1
        obtain ⟨g1, g2⟩ := HHD.out wn h2
        have HHN := Lib.hid g1
        have HBN := Lib.hid g2
        obtain ⟨hhc, hhf⟩ := g1.get q (by rw [HLen.out]; omega)
        clear h1 h2 g1 g2 HNO HHD
        cases hnb : noteB s q with
        | true =>
          have HY3 : Hid (∀ e, OnceI 400 (noteS s q e) (had.set q true)) := fun e => (HOI.out.yes (by omega) q hq4 e hnb).2.2
          obtain ⟨y1, y2, _⟩ := HOI.out.yes (by omega) q hq4 true hnb
          rw [y1] at hhc
          have HNW : Hid (∀ e, (noteS s q e).nw = max nw q) := fun e => by rw [noteS_yes hnb, ← hnw.out]
          rw [hnw.out] at y2
          clear y1 hnb
          go_wp2_with fail
          go_roundw
          case rel => exact ⟨k + 1, noteS s q _, had.set q true, by omega, by go_num, by rw [HNW.out], HY3.out _, HSN.out.but HHN.out hpne, HHN.out.set q true, HBN.out.setCell (p := ⟨hb, q, none⟩) HGE.out.2 _, hpne, HGE.out⟩
          case measure => simp [intOf]; omega
        | false =>
          have HNS : Hid (∀ e, noteS s q e = s) := fun e => noteS_no hnb
          have hno := HOI.out.no (by omega) q hq4 hnb
          rw [hnw.out] at hno
          cases hhq : had.getD q false with
          | true =>
            rw [hhq] at hhc
            clear hno hnb hhq
            go_wp2_with fail
            go_roundw
            case rel => exact ⟨k + 1, s, had, by omega, by go_num, by rw [hnw.out], HOI.out, by have := HSN.out; rwa [HNS.out] at this, HHN.out, HBN.out, hpne, HGE.out⟩
            case measure => simp [intOf]; omega
          | false =>
            have h3 := hno hhq
            have h4 : ¬ nw - 64 ≤ (q : Int) := by omega
            rw [hhq] at hhc
            clear hno hnb hhq
            go_wp2_with fail
            go_roundw
            case rel => exact ⟨k + 1, s, had, by omega, by go_num, by rw [hnw.out], HOI.out, by have := HSN.out; rwa [HNS.out] at this, HHN.out, HBN.out, hpne, HGE.out⟩
            case measure => simp [intOf]; omega
    · obtain rfl : k = n := by omega
      have hlti : ¬ (k : Int) < (k : Int) := by omega
      have HOI : Hid (OnceI 400 s had) := HK.out.1
      have HSR : Hid (SeenIn wr p s) := HK.out.2.1
      have HHR : Hid (HadIn wr hb 67 had) := HK.out.2.2.1
      have HBR : Hid (Below w.heap.size w wr) := HK.out.2.2.2.1
      clear HK
      obtain ⟨wo, rfl⟩ : ∃ wo : World, wo = wr := ⟨_, rfl⟩
      by_cases hneg : nw < 0
      · obtain rfl : nw = -1 := by omega
        have HFN : Hid (Calls Try.prog 30 #[.pointer (some ⟨p, 0, none⟩)] wo fun e w' => e = .returned (.tuple #[.agg #[.int .i64 0, .int .i64 0, .int .i64 0, .int .i64 0, .int .i64 0, .int .i64 0, .bool false, .slice none 0 0, .slice none 0 0], .bool false]) ∧ Below wo.heap.size wo w') := frame_no s HOI.out.win (by rw [hnw.out]; omega) p wo HSR.out
        clear hneg hnw1 hnw2
        go_wp2_with fail
        refine HFN.out.mono ?_
        rintro e w3 ⟨rfl, h1⟩
        have HB3 : Hid (Below w.heap.size w w3) := HBR.out.trans (h1.mono HBR.out.size)
        clear h1 HFN
        go_wp2_with fail
        go_ret
        exact ⟨rfl, HB3.out.alloc HB3.out.size _⟩
      · have hnn : 0 ≤ s.nw := by rw [hnw.out]; omega
        have HAF := Lib.hid (ack_facts HOI.out.win hnn)
        have HRA := Lib.hid (right_ack HOI.out.win hnn)
        obtain ⟨M, hM⟩ : ∃ M, Hid (min (s.es.length / 2) 8 = M) := ⟨_, rfl⟩
        obtain ⟨sp, hsp⟩ : ∃ x, Hid ((ackF s.es).spans = x) := ⟨_, rfl⟩
        have HFY : Hid (Calls Try.prog 30 #[.pointer (some ⟨p, 0, none⟩)] wo fun e w' => ∃ Af cf, e = .returned (.tuple #[.agg #[.int .i64 2, .int .i64 0, .int .i64 0, .int .i64 0, .int .i64 0, .int .i64 0, .bool false, .slice none 0 0, .slice Af M cf], .bool true]) ∧ w'.ownsRow wo.heap.size 57 2 (.slice Af M cf) M (ints sp) ∧ Below wo.heap.size wo w') := by
          have := frame_yes s HOI.out.win hnn p wo HSR.out
          rw [hM.out, hsp.out] at this
          refine this.mono ?_
          rintro e w' ⟨A, c, rfl, h1, h2⟩
          exact ⟨A, c, by rw [← hM.out]; rfl, h1, h2⟩
        rw [hM.out, hsp.out] at HAF
        rw [hM.out, hsp.out] at HRA
        have hM1 : 1 ≤ M := HAF.out.1
        have hM8 : M ≤ 8 := by rw [← hM.out]; omega
        have hM8i : (M : Int) ≤ 8 := by omega
        clear hnn hneg
        go_wp2_with fail
        refine HFY.out.mono ?_
        rintro e w3 ⟨Af, cf, rfl, h1, h2⟩
        have HOW := Lib.hid h1
        have HB3 : Hid (Below wo.heap.size wo w3) := h2
        obtain ⟨_, _, ev, hMc, _, _, hrd⟩ := own_form h1
        simp only [Value.slice.injEq] at ev
        obtain ⟨rfl, _, rfl⟩ := ev
        have HRD := Lib.hid hrd
        have hMci : (M : Int) ≤ (cf : Int) := by omega
        clear h1 h2 hrd HFY
        obtain ⟨g, hg⟩ : ∃ g, Hid (w3.heap.size = g) := ⟨_, rfl⟩
        go_wp2_with fail
        obtain ⟨w4, hw4⟩ : ∃ w4, Hid (w3.alloc (.cells #[.int .i64 2, .int .i64 0, .int .i64 0, .int .i64 0, .int .i64 0, .int .i64 0, .bool false, .slice none 0 0, .slice Af M cf] 51) = w4) := ⟨_, rfl⟩
        have HG4 : Hid (w4.heap[g]? = some (.cells #[.int .i64 2, .int .i64 0, .int .i64 0, .int .i64 0, .int .i64 0, .int .i64 0, .bool false, .slice none 0 0, .slice Af M cf] 51 (0, 0)) ∧ w4.heap.size = g + 1 ∧ Below w3.heap.size w3 w4) := by
          rw [← hw4.out, ← hg.out]
          exact ⟨heap_alloc_new _ _, by simp, (Below.refl _ _).alloc (Nat.le_refl _) _⟩
        rw [hw4.out, hg.out]
        go_loopw [88] (fun i wx => ∃ j : Nat, j ≤ M ∧ i = .int .i64 j ∧ Hid (Below w4.heap.size w4 wx)) (fun i _ => M - (intOf i).toNat)
        case atStart => exact ⟨0, Nat.zero_le _, rfl, Below.refl _ _⟩
        case round =>
          obtain ⟨j, hj, rfl, HKB⟩ := hrel
          have HB5 : Hid (Below w3.heap.size w3 wr) := HG4.out.2.2.trans (HKB.out.mono (by have := HG4.out.2.1; have := hg.out; omega))
          have HBo : Hid (Below wo.heap.size wo wr) := HB3.out.trans (HB5.out.mono HB3.out.size)
          have hgw : wr.heap[g]? = some (.cells #[.int .i64 2, .int .i64 0, .int .i64 0, .int .i64 0, .int .i64 0, .int .i64 0, .bool false, .slice none 0 0, .slice Af M cf] 51 (0, 0)) := (HKB.out.block g (by have := HG4.out.2.1; omega)).trans HG4.out.1
          obtain ⟨b, off, hA, hbn, hcs⟩ := HRD.out.2 (by omega)
          subst hA
          by_cases hjM : j < M
          · have hji : (j : Int) < (M : Int) := by omega
            obtain ⟨r0, r1, r2, r4⟩ := HAF.out.2.2.2 j hjM
            have hsl := HAF.out.2.1
            obtain ⟨x, hx⟩ : ∃ x, Hid (sp.getD (2 * j) 0 = x) := ⟨_, rfl⟩
            obtain ⟨y, hy⟩ : ∃ y, Hid (sp.getD (2 * j + 1) 0 = y) := ⟨_, rfl⟩
            rw [hx.out] at r0 r1 r4
            rw [hy.out] at r1 r2 r4
            have hcx : wr.cell? ⟨b, off + j * 2, none⟩ = some (.int .i64 x) := by
              rw [HB5.out.cell (p := ⟨b, off + j * 2, none⟩) hbn, show off + j * 2 = off + 2 * j by omega, hcs (2 * j) _ (ints_get sp _ (by omega)), hx.out]
            have hcy : wr.cell? ⟨b, off + j * 2 + 1, none⟩ = some (.int .i64 y) := by
              rw [HB5.out.cell (p := ⟨b, off + j * 2 + 1, none⟩) hbn, show off + j * 2 + 1 = off + (2 * j + 1) by omega, hcs (2 * j + 1) _ (ints_get sp _ (by omega)), hy.out]
            have HR4 := Lib.hid r4
            clear hcs hsl r4 hgw
            go_wp2_with fail
            obtain ⟨wx, hwx⟩ : ∃ wx, Hid (wr.alloc (.cells #[.int .i64 x, .int .i64 y] 57) = wx) := ⟨_, rfl⟩
            obtain ⟨gx, hgx⟩ : ∃ gx, Hid (wr.heap.size = gx) := ⟨_, rfl⟩
            have hbx : wx.heap[gx]? = some (.cells #[.int .i64 x, .int .i64 y] 57 (0, 0)) := by
              rw [← hwx.out, ← hgx.out]; exact heap_alloc_new _ _
            have HXB : Hid (Below w4.heap.size w4 wx ∧ Below wo.heap.size wo wx) := by
              rw [← hwx.out]; exact ⟨HKB.out.alloc HKB.out.size _, HBo.out.alloc HBo.out.size _⟩
            have x1 := cell_slot (o := 1) hbx rfl
            have x0 := cell_slot (o := 0) hbx rfl
            rw [hwx.out, hgx.out]
            clear hbx
            go_loop [15] (fun v => ∃ kk : Int, v = .int .i64 kk ∧ x ≤ kk ∧ kk ≤ y + 1) (fun v => (y + 1 - intOf v).toNat)
            case atStart => exact ⟨x, rfl, by omega, by omega⟩
            case round =>
              obtain ⟨kk, rfl, hk1, hk2⟩ := hrel
              by_cases hky : kk ≤ y
              · have hmm := HR4.out kk hk1 hky
                have hwin := HOI.out.win.win kk hmm
                rw [hnw.out] at hwin
                obtain ⟨kn, rfl⟩ := Int.eq_ofNat_of_zero_le (show 0 ≤ kk by omega)
                have hkn : kn < 400 := by omega
                have his := HOI.out.is kn hkn
                rw [hmm, hnw.out, decide_eq_true hwin.1, Bool.and_true] at his
                have hhc : wx.cell? ⟨hb, kn, none⟩ = some (.bool true) := by
                  rw [HXB.out.2.cell (p := ⟨hb, kn, none⟩) HHR.out.lt, (HHR.out.get kn (by rw [HOI.out.len]; exact hkn)).1, ← his]
                have c1 : ¬ (400 : Int) ≤ (kn : Int) := by omega
                have c2 : ¬ (kn : Int) < nw - 64 := by omega
                clear hmm his hwin
                go_wp2_with fail
                go_round
                case rel => exact ⟨(kn : Int) + 1, rfl, by omega, by omega⟩
                case measure => simp [intOf]; omega
              · go_wp2_with fail
                go_roundw
                case rel => exact ⟨j + 1, by omega, by go_num, HXB.out.1⟩
                case measure => simp [intOf]; omega
          · have hjm : j = M := by omega
            subst hjm
            have hji : ¬ (j : Int) < (j : Int) := by omega
            have hsl := HAF.out.2.1
            have hcy : wr.cell? ⟨b, off + 1, none⟩ = some (.int .i64 nw) := by
              rw [HB5.out.cell (p := ⟨b, off + 1, none⟩) hbn, hcs 1 _ (ints_get sp _ (by omega)), HAF.out.2.2.1, hnw.out]
            have HOX : Hid (wr.ownsRow 0 57 2 (.slice (some ⟨b, off, none⟩) j cf) j (ints sp)) := own_base (own_below HOW.out HB5.out) (Nat.zero_le _)
            have HSX : Hid (SeenIn wr p s) := HSR.out.below HBo.out
            have HCN := Lib.hid HOI.out.win.cnt
            have y0 := cell_slot (o := 0) hgw rfl
            have y1 := cell_slot (o := 1) hgw rfl
            have y2 := cell_slot (o := 2) hgw rfl
            have y3 := cell_slot (o := 3) hgw rfl
            have y4 := cell_slot (o := 4) hgw rfl
            have y5 := cell_slot (o := 5) hgw rfl
            have y6 := cell_slot (o := 6) hgw rfl
            have y7 := cell_slot (o := 7) hgw rfl
            have y8 := cell_slot (o := 8) hgw rfl
            clear hcs hsl hgw
            go_wp2_with fail
            refine (HRA.out _ _ wr HOX.out).mono ?_
            rintro e w6 ⟨rfl, h1⟩
            have z8 : w6.cell? ⟨g, 8, none⟩ = some (.slice (some ⟨b, off, none⟩) j cf) := (h1.cell (p := ⟨g, 8, none⟩) (by have := HKB.out.size; have := HG4.out.2.1; show g < wr.heap.size; omega)).trans y8
            have zc : w6.cell? ⟨b, off + 1, none⟩ = some (.int .i64 nw) := (h1.cell (p := ⟨b, off + 1, none⟩) (Nat.lt_of_lt_of_le hbn HB5.out.size)).trans hcy
            have HS6 : Hid (SeenIn w6 p s) := HSX.out.below h1
            have HB6 : Hid (Below w.heap.size w w6) := HBR.out.trans ((HBo.out.trans (h1.mono HBo.out.size)).mono HBR.out.size)
            have HCT : Hid (Calls Try.prog 26 #[.pointer (some ⟨p, 0, none⟩)] w6 fun e w' => e = .returned (.int .i64 (cnt s.es)) ∧ Below w6.heap.size w6 w') := by
              obtain ⟨v, h⟩ := HS6.out
              exact count_any s.es p 0 _ _ w6 h (by have := HOI.out.win.len; omega)
            have hcn := HCN.out
            obtain ⟨cv, hcv⟩ : ∃ x, Hid (cnt s.es = x) := ⟨_, rfl⟩
            rw [hcv.out] at HCT hcn
            have hc65 : cv ≤ 65 := hcn.2
            clear h1 hcy y0 y1 y2 y3 y4 y5 y6 y7 y8 hcn
            go_wp2_with fail
            refine HCT.out.mono ?_
            rintro e w7 ⟨rfl, h1⟩
            have HB7 : Hid (Below w.heap.size w w7) := HB6.out.trans (h1.mono HB6.out.size)
            clear h1
            go_wp2_with fail
            go_ret
            exact ⟨rfl, HB7.out⟩
end Go.Proofs.Ytoglpjgmnojdjaa.Sp
