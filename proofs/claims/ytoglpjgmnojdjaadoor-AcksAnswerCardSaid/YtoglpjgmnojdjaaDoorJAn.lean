/- AcksAnswer: the walk. Conditions: the listed tables read as listed; as the theorem lists them. -/
import Derived.Test.YtoglpjgmnojdjaaDoorJA6
import Derived.Test.YtoglpjgmnojdjaaDoorJAk
import Derived.Test.YtoglpjgmnojdjaaDoorJ5b
import Derived.Test.YtoglpjgmnojdjaaDoorJLaw1
set_option linter.unusedSimpArgs false
set_option linter.unusedVariables false

namespace Go.Proofs.YtoglpjgmnojdjaaDoor.Sp
open Go Go.RowKit

theorem tabs_at {W w : World} (h : laidMetH Tryd.prog laids W) (hb : Below W.heap.size W w) : Tabs w := by
  have c2 := fun i hi => (tabs h).2.cell (g := 1) (by kernel_rfl) i hi
  have key : ∀ (i : Nat) (u : Value), W.cell? ⟨1, i, none⟩ = some u → w.cell? ⟨1, i, none⟩ = some u := fun i u hu => (hb.cell (p := ⟨1, i, none⟩) (block_lt_of_cell hu)).trans hu
  exact ⟨key _ _ (c2 0 (by decide)), key _ _ (c2 1 (by decide)), key _ _ (c2 3 (by decide)), key _ _ (c2 7 (by decide))⟩

/-- Behind some numbers: what is in the set, in the array. -/
def AnsW (w wr : World) (p hb : Nat) (s : St) (had : List Bool) : Prop := OnceI 40 s had ∧ SeenIn wr p s ∧ HadIn wr hb 44 had ∧ Below w.heap.size w wr ∧ p ≠ hb ∧ w.heap.size ≤ p ∧ w.heap.size ≤ hb

set_option maxRecDepth 100000 in
set_option maxHeartbeats 16000000 in
theorem answer_walk (A : Option Addr) (c : Nat) (l : List Int) (w : World) (hL : laidMetH Tryd.prog laids w) (hl : IsInts w A c l) :
    Calls Tryd.prog 4 #[.slice A l.length c] w fun e w' => e = .returned (.bool true) ∧ Below w.heap.size w w' := by
  have HL := Lib.hid hl
  have HLd := Lib.hid hL
  obtain ⟨n, hn⟩ : ∃ n, Hid (l.length = n) := ⟨_, rfl⟩
  have hnc : n ≤ c := by rw [← hn.out]; exact hl.cap
  have hnm : (n : Int) ≤ 17592186044416 := by have := hl.reach; rw [hn.out] at this; omega
  rw [hn.out]
  clear hl hL
  go_enter Tryd.func4, Tryd.ntmps4
  go_wp2_with fail
  refine (new_any _).mono ?_
  rintro e w1 ⟨p, rfl, hpw, hs, hb⟩
  have HS1 := Lib.hid hs
  have HB1 := Lib.hid hb
  clear hs hb
  go_wp2_with fail
  refine (AkKnown.known_any _).mono ?_
  rintro e w2 ⟨rfl, hb⟩
  have HS2 := Lib.hid (HS1.out.below hb)
  have HB2 : Hid (Below w.heap.size w w2) := HB1.out.trans (hb.mono HB1.out.size)
  clear hb HS1 HB1
  go_wp2_with fail
  obtain ⟨hb, hhb⟩ : ∃ g, Hid (w2.heap.size = g) := ⟨_, rfl⟩
  have HST : Hid (AnsW w (w2.alloc (Obj.cells ((List.replicate 40 false).map Value.bool).toArray 44)) p hb st0 (List.replicate 40 false)) := by
    have hlt := HS2.out.lt
    have h2 := HB2.out.size
    have h3 := hhb.out
    refine ⟨once0 40, HS2.out.below ((Below.refl _ _).alloc (Nat.le_refl _) _), ?_, HB2.out.alloc HB2.out.size _, by omega, hpw, by omega⟩
    rw [← hhb.out]
    exact heap_alloc_new _ _
  rw [hhb.out]
  go_loopw [30] (fun i wr => ∃ (k : Nat) (s : St) (had : List Bool), k ≤ n ∧ i = .int .i64 k ∧ Hid ((0 < k → 0 ≤ s.nw) ∧ (k = 0 → s.nw = -1)) ∧ Hid (AnsW w wr p hb s had)) (fun i _ => n - (intOf i).toNat)
  case atStart => exact ⟨0, st0, _, Nat.zero_le _, rfl, ⟨fun h => absurd h (by omega), fun _ => rfl⟩, HST⟩
  case round =>
    clear HST
    obtain ⟨k, s, had, hk, rfl, HZ, HK⟩ := hrel
    have hpne : p ≠ hb := HK.out.2.2.2.2.1
    by_cases hlt : k < n
    · have hlti : (k : Int) < (n : Int) := by omega
      have hki : (k : Int) ≤ 17592186044416 := by omega
      obtain ⟨_, b, off, hA, hbn, hcs⟩ := HL.out.rd.int (by rw [hn.out]; omega)
      subst hA
      obtain ⟨x, hx⟩ : ∃ x, Hid (l.getD k 0 = x) := ⟨_, rfl⟩
      have hcx : wr.cell? ⟨b, off + k, none⟩ = some (.int .i64 x) := by
        rw [HK.out.2.2.2.1.cell (p := ⟨b, off + k, none⟩) hbn, hcs k (by rw [hn.out]; omega), hx.out]
      clear hcs
      have HPK := Lib.hid (fun W => pick_any x 40 W (by omega) (by omega))
      have hq0 := Int.emod_nonneg x (show (40 : Int) ≠ 0 by omega)
      have hq1 := Int.emod_lt_of_pos x (show (0 : Int) < 40 by omega)
      obtain ⟨q, hq⟩ : ∃ q : Nat, x % 40 = (q : Int) := ⟨(x % 40).toNat, by omega⟩
      rw [hq] at HPK hq0 hq1
      clear hq
      have hq4 : q < 40 := by omega
      have HNO : Hid (Calls Tryd.prog 21 #[.pointer (some ⟨p, 0, none⟩), .int .i64 (q : Int), .bool true] wr fun e w' => e = .returned (.bool (noteB s q)) ∧ SeenIn w' p (noteS s q true) ∧ wr.grownBy w' (some p)) := note_any s HK.out.1.win p q true wr HK.out.2.1
      have HLen : Hid (had.length = 40) := HK.out.1.len
      have HOI : Hid (OnceI 40 (noteS s q true) (had.set q true) ∧ 0 ≤ (noteS s q true).nw) := ⟨HK.out.1.all (by omega) q hq4 true, HK.out.1.some (by omega) q hq4 true⟩
      have HHD : Hid (∀ w', wr.grownBy w' (some p) → HadIn w' hb 44 had ∧ Below w.heap.size w w') := fun w' hg =>
        ⟨(hg.block hb HK.out.2.2.1.lt (by simp; omega)).trans HK.out.2.2.1, HK.out.2.2.2.1.grown hg HK.out.2.2.2.1.size (fun g hg => by simp at hg; subst hg; exact HK.out.2.2.2.2.2.1)⟩
      have HGE : Hid (w.heap.size ≤ p ∧ w.heap.size ≤ hb) := HK.out.2.2.2.2.2
      clear HK HZ
      go_wp2_with fail
      refine (HPK.out _).mono ?_
      rintro e w' ⟨rfl, rfl⟩
      go_wp2_with fail
      refine HNO.out.mono ?_
      rintro e wn ⟨rfl, h1, h2⟩
      have HSN := Lib.hid h1
      obtain ⟨g1, g2⟩ := HHD.out wn h2
      have HHN := Lib.hid g1
      have HBN := Lib.hid g2
      obtain ⟨hhc, hhf⟩ := g1.get q (by rw [HLen.out]; omega)
      clear h1 h2 g1 g2 HNO HHD
      go_wp2_with fail
      go_roundw
      case rel => exact ⟨k + 1, noteS s q true, had.set q true, by omega, by go_num, ⟨fun _ => HOI.out.2, fun h => absurd h (by omega)⟩, HOI.out.1, HSN.out.but HHN.out hpne, HHN.out.set q true, HBN.out.setCell (p := ⟨hb, q, none⟩) HGE.out.2 _, hpne, HGE.out⟩
      case measure => simp [intOf]; omega
    · obtain rfl : k = n := by omega
      have hlti : ¬ (k : Int) < (k : Int) := by omega
      have HOI : Hid (OnceI 40 s had) := HK.out.1
      have HSR : Hid (SeenIn wr p s) := HK.out.2.1
      have HHR : Hid (HadIn wr hb 44 had) := HK.out.2.2.1
      have HBR : Hid (Below w.heap.size w wr) := HK.out.2.2.2.1
      clear HK
      obtain ⟨wo, rfl⟩ : ∃ wo : World, wo = wr := ⟨_, rfl⟩
      by_cases hk0 : k = 0
      · subst hk0
        have hneg : s.nw < 0 := by rw [HZ.out.2 rfl]; decide
        have HFN : Hid (Calls Tryd.prog 22 #[.pointer (some ⟨p, 0, none⟩)] wo fun e w' => e = .returned (.tuple #[.agg #[.int .i64 0, .int .i64 0, .int .i64 0, .int .i64 0, .int .i64 0, .int .i64 0, .bool false, .slice none 0 0, .slice none 0 0], .bool false]) ∧ Below wo.heap.size wo w') := frame_no s HOI.out.win hneg p wo HSR.out
        clear hneg
        go_wp2_with fail
        refine HFN.out.mono ?_
        rintro e w3 ⟨rfl, h1⟩
        have HB3 : Hid (Below w.heap.size w w3) := HBR.out.trans (h1.mono HBR.out.size)
        clear h1 HFN
        go_wp2_with fail
        go_ret
        exact ⟨rfl, HB3.out.alloc HB3.out.size _⟩
      · have hnn : 0 ≤ s.nw := HZ.out.1 (by omega)
        have HNN := Lib.hid hnn
        have HAF := Lib.hid (ack_facts HOI.out.win hnn)
        have HOK := Lib.hid (ack_ok HOI.out.win hnn)
        have HTB := Lib.hid (fun j hj => tel_bound HOI.out.win hnn j hj)
        have HEND := Lib.hid (answer_end HOI.out hnn)
        obtain ⟨M, hM⟩ : ∃ M, Hid (min (s.es.length / 2) 8 = M) := ⟨_, rfl⟩
        obtain ⟨sp, hsp⟩ : ∃ x, Hid ((ackF s.es).spans = x) := ⟨_, rfl⟩
        have HFY : Hid (Calls Tryd.prog 22 #[.pointer (some ⟨p, 0, none⟩)] wo fun e w' => ∃ Af cf, e = .returned (.tuple #[.agg #[.int .i64 2, .int .i64 0, .int .i64 0, .int .i64 0, .int .i64 0, .int .i64 0, .bool false, .slice none 0 0, .slice Af M cf], .bool true]) ∧ w'.ownsRow wo.heap.size 54 2 (.slice Af M cf) M (ints sp) ∧ Below wo.heap.size wo w') := by
          have := frame_yes s HOI.out.win hnn p wo HSR.out
          rw [hM.out, hsp.out] at this
          refine this.mono ?_
          rintro e w' ⟨A, c, rfl, h1, h2⟩
          exact ⟨A, c, by rw [← hM.out]; rfl, h1, h2⟩
        rw [hM.out, hsp.out] at HAF HEND
        rw [hM.out, hsp.out] at HTB
        have hM1 : 1 ≤ M := HAF.out.1
        have hM8 : M ≤ 8 := by rw [← hM.out]; omega
        have hM8i : (M : Int) ≤ 8 := by omega
        clear hnn
        go_wp2_with fail
        refine HFY.out.mono ?_
        rintro e w3 ⟨Af, cf, rfl, h1, h2⟩
        have HOW := Lib.hid h1
        have HB3 : Hid (Below wo.heap.size wo w3) := h2
        clear h1 h2 HFY
        go_wp2_with fail
        have hba : Below w3.heap.size w3 ((w3.alloc (.cells #[.int .i64 2, .int .i64 0, .int .i64 0, .int .i64 0, .int .i64 0, .int .i64 0, .bool false, .slice none 0 0, .slice Af M cf] 48)).alloc (.cells #[.int .i64 2, .int .i64 0, .int .i64 0, .int .i64 0, .int .i64 0, .int .i64 0, .bool false, .slice none 0 0, .slice Af M cf] 48)) := ((Below.refl _ _).alloc (Nat.le_refl _) _).alloc (by simp) _
        obtain ⟨g, hg⟩ : ∃ g, Hid (w3.heap.size + 1 = g) := ⟨_, rfl⟩
        obtain ⟨w4, hw4⟩ : ∃ w4, Hid ((w3.alloc (.cells #[.int .i64 2, .int .i64 0, .int .i64 0, .int .i64 0, .int .i64 0, .int .i64 0, .bool false, .slice none 0 0, .slice Af M cf] 48)).alloc (.cells #[.int .i64 2, .int .i64 0, .int .i64 0, .int .i64 0, .int .i64 0, .int .i64 0, .bool false, .slice none 0 0, .slice Af M cf] 48) = w4) := ⟨_, rfl⟩
        rw [hw4.out] at hba
        have HB4 : Hid (Below wo.heap.size wo w4) := HB3.out.trans (hba.mono HB3.out.size)
        have HFS : Hid (Frs w4 (some ⟨g, 0, none⟩) 1 1 [ackF s.es]) := by
          refine frs_one g (cs := frC (ackF s.es) (.slice none 0 0) (.slice Af M cf)) ?_ ⟨none, 0, 0, Af, M, cf, rfl, rfl, by rw [hsp.out]; exact HAF.out.2.1, own_nil _ _ _ _, by rw [hsp.out]; exact own_base (own_below HOW.out hba) (Nat.zero_le _)⟩
          rw [← hw4.out, ← hg.out]
          exact heap_alloc2_new _ _ _
        rw [hw4.out, hg.out]
        clear hba HOW
        have hokl : ∀ f ∈ [ackF s.es], OkF f := fun f hf => by simp at hf; subst hf; exact HOK.out
        refine (lay_ok [ackF s.es] _ 1 1 w4 (tabs_at HLd.out (HBR.out.trans (HB4.out.mono HBR.out.size))) HFS.out hokl (by omega)).mono ?_
        rintro e w5 ⟨Ao, no, co, rfl, hlo, hoo, hb5⟩
        have HRE : Hid (Calls Tryd.prog 24 #[.slice Ao no co] w5 fun e w' => ∃ Ag cg, e = .returned (.tuple #[.slice Ag 1 cg, .int .i64 0]) ∧ FrsOwn w' w5.heap.size (.slice Ag 1 cg) [bare (ackF s.es)] ∧ Below w5.heap.size w5 w') := by
          obtain ⟨_, _, ev, hnc2, _, _, hrd⟩ := own_form hoo
          simp only [Value.slice.injEq] at ev
          obtain ⟨rfl, _, rfl⟩ := ev
          rw [Nat.mul_one] at hrd
          have hrd' : Rd w5 w5.heap.size Ao (layF [ackF s.es]).length (bv (layF [ackF s.es])) := by rw [hlo]; exact hrd
          have hlt : ∀ x ∈ layF [ackF s.es], x < 256 := fun x hx => by
            obtain ⟨f, hf, hx⟩ := List.mem_flatMap.1 hx
            exact encF_lt (hokl f hf) x hx
          have hll := layF_len hokl
          have := read_ok (layF [ackF s.es]) Ao co w5 hrd' hlt (by rw [hlo]; exact hnc2) (by simp only [List.length_cons, List.length_nil] at hll; omega)
          rw [read_enc [ackF s.es] _ hokl (Nat.le_refl _), hlo] at this
          refine this.mono ?_
          rintro e w' ⟨h1, _, h3⟩
          obtain ⟨Ag, cg, he, ho⟩ := h1 rfl
          exact ⟨Ag, cg, he, ho, h3⟩
        have HB5 : Hid (Below wo.heap.size wo w5) := HB4.out.trans (hb5.mono HB4.out.size)
        clear hokl hlo hoo hb5
        go_wp2_with fail
        refine HRE.out.mono ?_
        rintro e w6 ⟨Ag, cg, rfl, hog, hb6⟩
        have HB6 : Hid (Below wo.heap.size wo w6) := HB5.out.trans (hb6.mono HB5.out.size)
        obtain ⟨bg, og, f6, A2, n2, c2, A3, n3, c3, hAg, hbl, hf6, hfc, hcell⟩ := (hog.frs rfl).get 0 (by omega)
        subst hAg
        have e6 : f6 = bare (ackF s.es) := by simpa using hf6.symm
        subst e6
        obtain ⟨_, p2, p3, _, p5⟩ := frc_parts hfc
        have p2' : (ackF s.es).spans.length = n3 * 2 := p2
        have p5' : Rd w6 w6.heap.size A3 (n3 * 2) (ints (ackF s.es).spans) := p5
        rw [hsp.out] at p2' p5'
        obtain rfl : n3 = M := by have := HAF.out.2.1; omega
        have HSP := Lib.hid p5'
        have y8 : w6.cell? ⟨bg, og + 8, none⟩ = some (.slice A3 n3 c3) := by have := hcell 8 _ rfl; simpa using this
        have hg1 : 1 ≤ cg := (hog.frs rfl).2.1
        have hMci : (n3 : Int) ≤ (c3 : Int) := by omega
        have HY8 : Hid (bg < w6.heap.size ∧ w6.cell? ⟨bg, og + 8, none⟩ = some (.slice A3 n3 c3)) := ⟨hbl, y8⟩
        clear hog hb6 hf6 hfc hcell p2 p5 p2' p5' HRE
        go_wp2_with fail
        obtain ⟨b, off, hA, hbn, hcs⟩ := HSP.out.2 (by omega)
        subst hA
        have HCS := Lib.hid hcs
        clear hcs y8
        go_loopw [14, 79] (fun tv i wx => ∃ (j : Nat) (td : Int), j ≤ n3 ∧ i = .int .i64 j ∧ tv = .int .i64 td ∧ Hid (td = tel sp j ∧ Below w6.heap.size w6 wx)) (fun _ i _ => n3 - (intOf i).toNat)
        case atStart => exact ⟨0, 0, Nat.zero_le _, rfl, rfl, rfl, Below.refl _ _⟩
        case round =>
          obtain ⟨j, td, hj, rfl, rfl, HKB⟩ := hrel
          have htd := HTB.out j hj
          rw [← HKB.out.1] at htd
          by_cases hjM : j < n3
          · have hji : (j : Int) < (n3 : Int) := by omega
            obtain ⟨r0, r1, r2, r4⟩ := HAF.out.2.2.2 j hjM
            have hsl := HAF.out.2.1
            have htd2 := HTB.out (j + 1) hjM
            have htel : tel sp (j + 1) = tel sp j + (sp.getD (2 * j + 1) 0 - sp.getD (2 * j) 0 + 1) := rfl
            rw [htel, ← HKB.out.1] at htd2
            obtain ⟨x, hx⟩ : ∃ x, Hid (sp.getD (2 * j) 0 = x) := ⟨_, rfl⟩
            obtain ⟨y, hy⟩ : ∃ y, Hid (sp.getD (2 * j + 1) 0 = y) := ⟨_, rfl⟩
            rw [hx.out] at r0 r1 r4 htel htd2
            rw [hy.out] at r1 r2 r4 htel htd2
            rw [← HKB.out.1] at htel
            have HTL := Lib.hid htel
            have hcx : wr.cell? ⟨b, off + j * 2, none⟩ = some (.int .i64 x) := by
              rw [HKB.out.2.cell (p := ⟨b, off + j * 2, none⟩) hbn, show off + j * 2 = off + 2 * j by omega, HCS.out (2 * j) _ (ints_get sp _ (by omega)), hx.out]
            have hcy : wr.cell? ⟨b, off + j * 2 + 1, none⟩ = some (.int .i64 y) := by
              rw [HKB.out.2.cell (p := ⟨b, off + j * 2 + 1, none⟩) hbn, show off + j * 2 + 1 = off + (2 * j + 1) by omega, HCS.out (2 * j + 1) _ (ints_get sp _ (by omega)), hy.out]
            have HR4 := Lib.hid r4
            clear hsl r4 htel
            go_wp2_with fail
            obtain ⟨wx, hwx⟩ : ∃ wx, Hid (wr.alloc (.cells #[.int .i64 x, .int .i64 y] 54) = wx) := ⟨_, rfl⟩
            obtain ⟨gx, hgx⟩ : ∃ gx, Hid (wr.heap.size = gx) := ⟨_, rfl⟩
            have hbx : wx.heap[gx]? = some (.cells #[.int .i64 x, .int .i64 y] 54 (0, 0)) := by
              rw [← hwx.out, ← hgx.out]; exact heap_alloc_new _ _
            have HXB : Hid (Below w6.heap.size w6 wx ∧ Below wo.heap.size wo wx) := by
              rw [← hwx.out]
              have h6 := HKB.out.2.alloc HKB.out.2.size (.cells #[.int .i64 x, .int .i64 y] 54)
              exact ⟨h6, HB6.out.trans (h6.mono HB6.out.size)⟩
            have x1 := cell_slot (o := 1) hbx rfl
            have x0 := cell_slot (o := 0) hbx rfl
            rw [hwx.out, hgx.out]
            clear hbx
            go_loop [14, 17] (fun tv v => ∃ kk : Int, v = .int .i64 kk ∧ x ≤ kk ∧ kk ≤ y + 1 ∧ tv = .int .i64 (td + (kk - x))) (fun _ v => (y + 1 - intOf v).toNat)
            case atStart => exact ⟨x, rfl, by omega, by omega, by rw [Int.sub_self, Int.add_zero]⟩
            case round =>
              obtain ⟨kk, rfl, hk1, hk2, rfl⟩ := hrel
              by_cases hky : kk ≤ y
              · have hmm := HR4.out kk hk1 hky
                have hwin := HOI.out.win.win kk hmm
                have htop := HOI.out.top
                obtain ⟨kn, rfl⟩ := Int.eq_ofNat_of_zero_le (show 0 ≤ kk by omega)
                have hkn : kn < 40 := by omega
                have his := HOI.out.set (by omega) kn hkn
                rw [hmm] at his
                have hhc : wx.cell? ⟨hb, kn, none⟩ = some (.bool true) := by
                  rw [HXB.out.2.cell (p := ⟨hb, kn, none⟩) HHR.out.lt, (HHR.out.get kn (by rw [HOI.out.len]; exact hkn)).1, ← his]
                have c1 : ¬ (40 : Int) ≤ (kn : Int) := by omega
                obtain ⟨t1, ht1⟩ : ∃ t, t = td + ((kn : Int) - x) := ⟨_, rfl⟩
                have ht1b : 0 ≤ t1 ∧ t1 ≤ 65 := by omega
                have HT1 := Lib.hid ht1
                rw [← ht1]
                clear hmm his hwin htop ht1
                go_wp2_with fail
                go_round
                case rel => exact ⟨(kn : Int) + 1, rfl, by omega, by omega, by have := HT1.out; rw [show td + ((kn : Int) + 1 - x) = t1 + 1 by omega]⟩
                case measure => simp [intOf]; omega
              · have hkk : kk = y + 1 := by omega
                have HTE : Hid (td + (kk - x) = tel sp (j + 1)) := by rw [HTL.out, hkk]; show _ = _; omega
                go_wp2_with fail
                go_roundw
                case rel => exact ⟨j + 1, td + (kk - x), by omega, by go_num, rfl, HTE.out, HXB.out.1⟩
                case measure => simp [intOf]; omega
          · have hjm : j = n3 := by omega
            subst hjm
            have hji : ¬ (j : Int) < (j : Int) := by omega
            obtain ⟨wy, rfl⟩ : ∃ wy : World, wy = wr := ⟨_, rfl⟩
            have HBY : Hid (Below wo.heap.size wo wy) := HB6.out.trans (HKB.out.2.mono HB6.out.size)
            have HHY : Hid (∀ k, k < 40 → wy.cell? ⟨hb, k, none⟩ = some (.bool (mem s.es (k : Int)))) := fun k hk => by
              rw [HBY.out.cell (p := ⟨hb, k, none⟩) HHR.out.lt, (HHR.out.get k (by rw [HOI.out.len]; exact hk)).1, HOI.out.set (by omega) k hk]
            go_wp2_with fail
            go_loop [18, 19, 106] (fun rv cv iv => ∃ k : Nat, k ≤ 40 ∧ iv = .int .i64 k ∧ rv = .int .i64 (card k (rise s.es) : Nat) ∧ cv = .int .i64 (card k (mem s.es) : Nat)) (fun _ _ iv => 40 - (intOf iv).toNat)
            case atStart => exact ⟨0, by omega, rfl, rfl, rfl⟩
            case round =>
              obtain ⟨k, hk, rfl, rfl, rfl⟩ := hrel
              have b1 := card_le k (rise s.es)
              have b2 := card_le k (mem s.es)
              by_cases hk40 : k < 40
              · have hki : (k : Int) < 40 := by omega
                have hck := HHY.out k hk40
                cases hm : mem s.es (k : Int) with
                | false =>
                  rw [hm] at hck
                  have HC1 : Hid (card (k + 1) (mem s.es) = card k (mem s.es)) := card_step k _ false hm
                  have HC2 : Hid (card (k + 1) (rise s.es) = card k (rise s.es)) := card_step k _ false (by unfold rise; rw [hm]; rfl)
                  clear hm
                  go_wp2_with fail
                  go_round
                  case rel => exact ⟨k + 1, by omega, by go_num, by rw [HC2.out], by rw [HC1.out]⟩
                  case measure => simp [intOf]; omega
                | true =>
                  rw [hm] at hck
                  have HC1 : Hid (card (k + 1) (mem s.es) = card k (mem s.es) + 1) := card_step k _ true hm
                  by_cases hk0' : k = 0
                  · subst hk0'
                    have HC2 : Hid (card (0 + 1) (rise s.es) = card 0 (rise s.es) + 1) := card_step 0 _ true (by unfold rise; rw [hm, mem_out HOI.out.win.ok _ (.inl (by omega))]; rfl)
                    clear hm
                    go_wp2_with fail
                    go_round
                    case rel => exact ⟨0 + 1, by omega, by go_num, by rw [HC2.out]; go_num, by rw [HC1.out]; go_num⟩
                    case measure => simp [intOf]
                  · obtain ⟨kp, rfl⟩ : ∃ kp, k = kp + 1 := ⟨k - 1, by omega⟩
                    have hcp := HHY.out kp (by omega)
                    have hkz : ((kp : Int) + 1 == 0) = false := by simp; omega
                    rw [show ((kp + 1 : Nat) : Int) = (kp : Int) + 1 from rfl]
                    have s1 : ((kp : Int) + 1 - 1) = (kp : Int) := by omega
                    have s2 : ((kp : Int) + 1).toNat = kp + 1 := by omega
                    cases hm2 : mem s.es (kp : Int) with
                    | true =>
                      rw [hm2] at hcp
                      have HC2 : Hid (card (kp + 1 + 1) (rise s.es) = card (kp + 1) (rise s.es)) := card_step (kp + 1) _ false (by unfold rise; rw [hm, show ((kp + 1 : Nat) : Int) - 1 = (kp : Int) by omega, hm2]; rfl)
                      clear hm hm2
                      go_wp2_with fail
                      go_round
                      case rel => exact ⟨kp + 1 + 1, by omega, by go_num, by rw [HC2.out], by rw [HC1.out]; go_num⟩
                      case measure => simp [intOf]; omega
                    | false =>
                      rw [hm2] at hcp
                      have HC2 : Hid (card (kp + 1 + 1) (rise s.es) = card (kp + 1) (rise s.es) + 1) := card_step (kp + 1) _ true (by unfold rise; rw [hm, show ((kp + 1 : Nat) : Int) - 1 = (kp : Int) by omega, hm2]; rfl)
                      clear hm hm2
                      go_wp2_with fail
                      go_round
                      case rel => exact ⟨kp + 1 + 1, by omega, by go_num, by rw [HC2.out]; go_num, by rw [HC1.out]; go_num⟩
                      case measure => simp [intOf]; omega
              · obtain rfl : k = 40 := by omega
                obtain ⟨q1, q2, q3, q4⟩ := HEND.out
                rw [← HKB.out.1] at q1 q2 q4
                obtain ⟨rr, hrr⟩ : ∃ x, Hid (card 40 (rise s.es) = x) := ⟨_, rfl⟩
                obtain ⟨cc, hcc⟩ : ∃ x, Hid (card 40 (mem s.es) = x) := ⟨_, rfl⟩
                rw [hrr.out] at q3 b1 ⊢
                rw [hcc.out] at q1 q4 b2 ⊢
                have hMq := hM.out
                rw [← q3] at hMq q4
                have hmin : ((j : Int) == min (rr : Int) 8) = true := by simp; omega
                have y8 : wy.cell? ⟨bg, og + 8, none⟩ = some (.slice (some ⟨b, off, none⟩) j c3) := (HKB.out.2.cell (p := ⟨bg, og + 8, none⟩) HY8.out.1).trans HY8.out.2
                have HFIN : Hid (Below w.heap.size w wy) := HBR.out.trans (HBY.out.mono HBR.out.size)
                by_cases h8 : rr ≤ 8
                · have he : (td == (cc : Int)) = true := by simp; exact q4 h8
                  have h8i : (rr : Int) ≤ 8 := by omega
                  clear q2 q3 q4 hMq
                  go_wp2_with fail
                  go_ret
                  exact ⟨rfl, HFIN.out⟩
                · have h8i : ¬ (rr : Int) ≤ 8 := by omega
                  clear q2 q3 q4 hMq
                  go_wp2_with fail
                  go_ret
                  exact ⟨rfl, HFIN.out⟩
end Go.Proofs.YtoglpjgmnojdjaaDoor.Sp
