/- SpansCopies: the walk. Conditions: the arguments' rows. -/
import Derived.Test.YtbddphoiccbjnabC1
namespace Go.Proofs.Ytbddphoiccbjnab.Copies
open Go Go.RowKit

/-- While x is written over. -/
def P2 (w wx : World) (k : Nat) (A3 : Option Addr) (c3 ps : Nat) (es : List Int) (As : Option Addr) (cs N : Nat) (Aw : Option Addr) : Prop :=
  ∃ xs, wx.ownsRow w.heap.size 3 1 (.slice A3 k c3) k xs ∧ wx.heap[ps]? = some (.cells #[.slice As es.length cs] 24 (0, 0)) ∧ Rd wx wx.heap.size As es.length (ints es) ∧ Rd wx wx.heap.size Aw (N * 2) (ints es) ∧ Below w.heap.size w wx

set_option maxRecDepth 100000 in
set_option maxHeartbeats 16000000 in
theorem walk (l : List Int) (A : Option Addr) (cap : Nat) (A1 : Option Addr) (n1 cap1 : Nat) (zs : List Int) (w : World) (hl : IsInts w A cap l) (hr : IsRows w A1 cap1 n1 3 zs) :
    Calls Try.prog 6 #[.slice A l.length cap, .slice A1 n1 cap1] w fun e w' => e = .returned (.bool true) ∧ Below w.heap.size w w' := by
  have HI := Lib.hid hl
  have HR := Lib.hid hr
  obtain ⟨n, hn⟩ : ∃ n, Hid (l.length = n) := ⟨_, rfl⟩
  have hcap := hl.cap
  rw [hn.out] at hcap ⊢
  have hcapI : (n : Int) ≤ (cap : Int) := by omega
  have hnb : n ≤ 17592186043904 := by have := hl.reach; have := hn.out; omega
  have hnI : (n : Int) ≤ 17592186043904 := by omega
  have hn1I : (n1 : Int) ≤ 17592186044416 := by have := hr.reach; omega
  have hc1I : (n1 : Int) ≤ (cap1 : Int) := by have := hr.cap; omega
  have hc1 := hr.cap
  obtain ⟨i0, hii, hz0, hz1, hz2⟩ := info_parts infoI
  have HIn := Lib.hid (And.intro hii (And.intro hz0 (And.intro hz1 hz2)))
  clear hl hr hii hz0 hz1 hz2
  go_enter Try.func6, Try.ntmps6
  go_wp2_with fail
  go_loopw [5, 22] (fun v i wr => ∃ k : Nat, k ≤ n ∧ i = .int .i64 k ∧ (∃ A3 c3, v = .slice A3 k c3) ∧ Hid (wr.ownsRow w.heap.size 3 1 v k (ints (tens l k)) ∧ Below w.heap.size w wr)) (fun _ i _ => n - (intOf i).toNat)
  case atStart => exact ⟨0, Nat.zero_le _, rfl, ⟨_, _, rfl⟩, own_nil _ _ _ _, Below.refl _ _⟩
  case round =>
    obtain ⟨k, hk, rfl, ⟨A3, c3, rfl⟩, HK⟩ := hrel
    by_cases hlt : k < n
    · have hlti : (k : Int) < (n : Int) := by omega
      obtain ⟨b, off, hA, hbn, hcs⟩ := HI.out.rd.2 (by have := hn.out; omega)
      subst hA
      have hk' : k < l.length := by rw [hn.out]; exact hlt
      obtain ⟨x, hx⟩ : ∃ x, Hid (l[k]'hk' = x) := ⟨_, rfl⟩
      have hcell : wr.cell? ⟨b, off + k, none⟩ = some (.int .i64 x) := by
        rw [HK.out.2.cell (p := ⟨b, off + k, none⟩) hbn, hcs k _ (ints_get l k hk')]
        simp [List.getD, hk', hx.out]
      obtain ⟨y, hy⟩ : ∃ y, Hid (x % 90 = y) := ⟨_, rfl⟩
      have HP : Hid (∀ W, Calls Try.prog 23 #[.int .i64 x, .int .i64 90] W fun e w' => e = .returned (.int .i64 y) ∧ W = w') := fun W => by
        have := pick_any x 90 W (by decide) (by decide)
        rwa [hy.out] at this
      have hsn := Lib.hid (tens_snoc l k hk' x y hx.out hy.out)
      have HSW : Hid (w.heap.size ≤ wr.heap.size) := HK.out.2.size
      have hd1 : Hid (Rd (wr.alloc (.cells #[.int .i64 y] 3)) (wr.heap.size + 1) (some ⟨wr.heap.size, 0, none⟩) (1 * 1) (ints [y])) := rd_new _ _ _ _ _ _ _ rfl (by omega) rfl rfl
      have hd2 : Hid (k + 1 ≤ maxLen) := by show _ ≤ _; unfold maxLen; omega
      have hd3 : Hid ((k + 1) * 8 ≤ 140737488355328) := by show _ ≤ _; omega
      have hd4 : Hid (w.heap.size ≤ (wr.alloc (.cells #[.int .i64 y] 3)).heap.size) := by have := HSW.out; show _ ≤ _; simp only [World.size_alloc]; omega
      clear hcs
      go_wp2_with fail
      refine (HP.out _).mono ?_; rintro e w' ⟨rfl, rfl⟩
      go_wp2_with (at_builtin; refine wpList_app _ rfl (.tmp 26) (.tmp 29) 22 rfl w.heap.size 3 i0 (.int .i64 0) 1 8 Try.underlying22 HIn.out.1 HIn.out.2.1 HIn.out.2.2.1 HIn.out.2.2.2 rfl (by decide) (.slice A3 k c3) k (ints (tens l k)) rfl (HK.out.1.alloc _) (wr.heap.size + 1) (some ⟨wr.heap.size, 0, none⟩) 1 _ (ints [y]) rfl hd1.out (ones_ints _) hd2.out hd3.out hd4.out ?_)
      intro v5 w5 hown5 hgrow5
      have HN : Hid (w5.ownsRow w.heap.size 3 1 v5 (k + 1) (ints (tens l (k + 1))) ∧ Below w.heap.size w w5) := by
        rw [hsn.out]
        exact ⟨hown5, (HK.out.2.alloc HSW.out _).grown hgrow5 hd4.out (fun j hj => (HK.out.1.lt j hj).1)⟩
      clear hown5 hgrow5 hcell
      obtain ⟨A5, c5, e5, _⟩ := own_form HN.out.1
      subst e5
      go_wp2_with fail
      go_roundw
      case rel => exact ⟨k + 1, by omega, by go_num, ⟨_, _, rfl⟩, HN⟩
      case measure => simp [intOf]; omega
    · have hlti : ¬ (k : Int) < (n : Int) := by omega
      obtain rfl : k = n := by omega
      obtain ⟨X, hX⟩ : ∃ X, Hid (tens l k = X) := ⟨_, rfl⟩
      have hXl : Hid (X.length = k) := by show _ = _; rw [← hX.out]; exact tens_len l k (by rw [hn.out]; exact Nat.le_refl _)
      rw [hX.out] at HK
      obtain ⟨_, _, e3, hc3, _, _, hrd3⟩ := own_form HK.out.1
      simp only [Value.slice.injEq, true_and] at e3
      obtain ⟨rfl, rfl⟩ := e3
      have hc3I : (k : Int) ≤ (c3 : Int) := by omega
      have HO := of_any X wr.heap.size A3 c3 wr (by rw [hXl.out]; rw [Nat.mul_one] at hrd3; exact hrd3) (Nat.le_refl _) (by rw [hXl.out]; exact hc3) (by rw [hXl.out]; omega) (.inl fun v hv => by
        rw [← hX.out] at hv
        have := tens_in l k v hv
        omega) (fun v hv => by
        rw [← hX.out] at hv
        have := tens_in l k v hv
        omega)
      rw [hXl.out] at HO
      have HO := Lib.hid HO
      clear hrd3
      go_wp2_with fail
      refine HO.out.mono ?_
      rintro e w2 ⟨es, As, cs, rfl, hsv, hmem, hlen, hb, hfr⟩
      have HV := Lib.hid hsv
      have HM : Hid (∀ x, mem es x = (mayN x && X.contains x)) := hmem
      have HLe : Hid (es.length ≤ 2097152) := by
        have h := Sm.len (N := 99) (Sm.of_mem hsv.1 fun x hx => by
          rw [← hX.out] at hmem
          exact tens_mem l _ es hmem x (by omega))
        show _ ≤ _
        omega
      have HFr := Lib.hid hfr
      have HOw2 : Hid (w2.ownsRow w.heap.size 3 1 (.slice A3 k c3) k (ints X)) := own_below HK.out.1 hb
      have HB2 : Hid (Below w.heap.size w w2) := HK.out.2.trans (hb.mono HK.out.2.size)
      have HXlt : Hid (∀ g, (Value.slice A3 k c3).ownBlock = some g → w.heap.size ≤ g ∧ g < wr.heap.size) := HK.out.1.lt
      have HSz : Hid (wr.heap.size ≤ w2.heap.size) := hb.size
      clear hsv hmem hlen hb hfr HO HK
      go_wp2_with fail
      obtain ⟨ps, hps⟩ : ∃ p, Hid (w2.heap.size = p) := ⟨_, rfl⟩
      obtain ⟨w3, hw3⟩ : ∃ w3, w2.alloc (.cells #[.slice As es.length cs] 24) = w3 := ⟨_, rfl⟩
      have HS3 : Hid (SetIn w3 ps es) := by rw [← hw3, ← hps.out]; exact HV.out.put
      have hb3 : Below w2.heap.size w2 w3 := by rw [← hw3]; exact (Below.refl _ _).alloc (Nat.le_refl _) _
      have HHs3 : Hid (w3.heap[ps]? = some (.cells #[.slice As es.length cs] 24 (0, 0))) := by rw [← hw3, ← hps.out]; exact heap_alloc_new w2 _
      have HV3 : Hid (Rd w3 w3.heap.size As es.length (ints es)) := (HV.out.2.2.2.below hb3 (Nat.le_refl _)).more hb3.size
      have HOw3 := Lib.hid (own_below HOw2.out hb3)
      have HB3 : Hid (Below w.heap.size w w3) := HB2.out.trans (hb3.mono HB2.out.size)
      have HZ3 : Hid (w2.heap.size ≤ w3.heap.size) := hb3.size
      rw [hw3]
      try rw [hps.out]
      clear hw3 hb3 HOw2
      refine (spans_in es ps w3 HS3.out (by have := HLe.out; omega)).mono ?_
      rintro e w4 ⟨Aw, cw, rfl, hcw, how, hrw, hb4⟩
      obtain ⟨N, hN⟩ : ∃ N, Hid (es.length / 2 = N) := ⟨_, rfl⟩
      rw [hN.out] at hcw how hrw ⊢
      have HWas := Lib.hid hrw
      have HOwas := Lib.hid how
      have HS4 := Lib.hid (HS3.out.below hb4)
      have HHs4 : Hid (w4.heap[ps]? = some (.cells #[.slice As es.length cs] 24 (0, 0))) := (hb4.block ps HS3.out.lt).trans HHs3.out
      have HV4 : Hid (Rd w4 w4.heap.size As es.length (ints es)) := (HV3.out.below hb4 (Nat.le_refl _)).more hb4.size
      have HOw4 := Lib.hid (own_below HOw3.out hb4)
      have HB4 : Hid (Below w.heap.size w w4) := HB3.out.trans (hb4.mono HB3.out.size)
      clear hrw how hb4 HS3 HHs3 HV3 HOw3 HB3
      go_wp2_with fail
      obtain ⟨H0, hH0⟩ : ∃ H, Hid (wr.heap.size = H) := ⟨_, rfl⟩
      rw [hH0.out] at HXlt HSz
      have HFa : Hid (∀ a, As = some a → H0 ≤ a.block) := fun a ha => by have := HFr.out a ha; rwa [hH0.out] at this
      have HFw : Hid (∀ a, Aw = some a → H0 ≤ a.block) := fun a ha => by
        subst ha
        have := (HOwas.out.lt a.block rfl).1
        have := HSz.out; have := HZ3.out
        omega
      have HPs : Hid (H0 ≤ ps ∧ w.heap.size ≤ ps) := by have := HSz.out; have := hps.out; have := HB2.out.size; exact ⟨by omega, by omega⟩
      have hP0 : Hid (P2 w w4 k A3 c3 ps es As cs N Aw) := ⟨_, HOw4.out, HHs4.out, HV4.out, HWas.out, HB4.out⟩
      have HVok : Hid (Ok es ∧ es.length ≤ cs ∧ okA As es.length cs) := ⟨HV.out.1, HV.out.2.1, HV.out.2.2.1⟩
      clear HOw4 HHs4 HV4 HWas HB4 HOwas HFr HV HB2 HSz HZ3 HS4
      go_loopw [37] (fun i wx => ∃ j : Nat, j ≤ k ∧ i = .int .i64 j ∧ Hid (P2 w wx k A3 c3 ps es As cs N Aw)) (fun i _ => k - (intOf i).toNat)
      case atStart => exact ⟨0, Nat.zero_le _, rfl, hP0⟩
      case round =>
        obtain ⟨j, hj, rfl, HK⟩ := hrel
        clear hP0
        by_cases hjk : j < k
        · have hjkI : (j : Int) < (k : Int) := by omega
          obtain ⟨xs, hown, hhp, hv, hw, hbe⟩ := HK.out
          obtain ⟨g, hA3⟩ : ∃ g, A3 = some ⟨g, 0, none⟩ := by
            rcases hown.2 with ⟨_, e⟩ | ⟨g, _, _, e, _⟩
            · omega
            · simp only [Value.slice.injEq] at e; exact ⟨g, e.1⟩
          subst hA3
          have hglt := HXlt.out g rfl
          have hxl : xs.length = k := by have := hown.1; rwa [Nat.mul_one] at this
          have hcell : wr.cell? ⟨g, j, none⟩ = some (xs[j]'(by omega)) := by rw [hown.cellAt j (by omega)]; exact List.getElem?_eq_getElem _
          have hfz : wr.frozen? ⟨g, j, none⟩ = false := hown.frozenAt j
          have HN : Hid (P2 w (wr.setCell ⟨g, j, none⟩ (.int .i64 95)) k (some ⟨g, 0, none⟩) c3 ps es As cs N Aw) := by
            obtain ⟨h1, h2⟩ := hown.stored j (.int .i64 95)
            have hq := lt_of_block hhp
            refine ⟨_, h1, (h2.block ps hq (by have := HPs.out.1; simp; omega)).trans hhp, ?_, ?_, hbe.setCell hglt.1 _⟩
            · exact (hv.past (Nat.le_refl _) h2 fun a ha => by have := HFa.out a ha; omega).more h2.size
            · exact (hw.past (Nat.le_refl _) h2 fun a ha => by have := HFw.out a ha; omega).more h2.size
          obtain ⟨ux, hux⟩ : ∃ u, xs[j]'(by omega) = u := ⟨_, rfl⟩
          rw [hux] at hcell
          clear hown hhp hv hw hbe hxl hux HK
          have hj3 : j < c3 := by omega
          go_wp2_with fail
          go_roundw
          case rel => exact ⟨j + 1, by omega, by go_num, HN⟩
          case measure => simp [intOf]; omega
        · have hjkI : ¬ (j : Int) < (k : Int) := by omega
          obtain rfl : j = k := by omega
          obtain ⟨xs, _, hhp, hv, hw, hbe⟩ := HK.out
          have HV := Lib.hid hv
          have HW := Lib.hid hw
          have HBe := Lib.hid hbe
          have HHp := Lib.hid hhp
          have hcell : wr.cell? ⟨ps, 0, none⟩ = some (.slice As es.length cs) := cell_of_one hhp
          have hpsl : ps < wr.heap.size := lt_of_block hhp
          have hpsn : wr.heap.size ≠ ps := by omega
          clear hhp hv hw hbe HK
          go_wp2_with fail
          obtain ⟨pt, hpt⟩ : ∃ p, Hid (wr.heap.size = p) := ⟨_, rfl⟩
          rw [hpt.out]
          obtain ⟨pl, hpl⟩ : ∃ p, Hid (pt + 1 = p) := ⟨_, rfl⟩
          rw [hpl.out]
          obtain ⟨w5, hw5⟩ : ∃ w5, (wr.alloc (.cells #[.slice As es.length cs] 24)).alloc (.cells #[.slice As es.length cs, .slice As es.length cs] 24) = w5 := ⟨_, rfl⟩
          have hb5 : Below wr.heap.size wr w5 := by rw [← hw5]; exact ((Below.refl _ _).alloc (Nat.le_refl _) _).alloc (by simp) _
          have HS5 : Hid (SetIn w5 ps es) := ⟨HVok.out.1, As, cs, (hb5.block ps hpsl).trans HHp.out, HVok.out.2.1, HVok.out.2.2, (HV.out.below hb5 (Nat.le_refl _)).more hb5.size⟩
          have HT5 : Hid (SetIn w5 pt es) := by
            have h1 := SetVal.put (w := wr) (es := es) (A := As) (c := cs) ⟨HVok.out.1, HVok.out.2.1, HVok.out.2.2, HV.out⟩
            have h2 := h1.below ((Below.refl _ _).alloc (Nat.le_refl _) (.cells #[.slice As es.length cs, .slice As es.length cs] 24))
            rw [hw5, hpt.out] at h2
            exact h2
          have HPb : Hid (w5.heap[pl]? = some (.cells #[.slice As es.length cs, .slice As es.length cs] 24 (0, 0))) := by
            rw [← hw5, ← hpl.out, ← hpt.out]
            have := heap_alloc_new (wr.alloc (.cells #[.slice As es.length cs] 24)) (.cells #[.slice As es.length cs, .slice As es.length cs] 24)
            rw [show (wr.alloc (.cells #[.slice As es.length cs] 24)).heap.size = wr.heap.size + 1 by simp] at this
            exact this
          have HV5 : Hid (Rd w5 w5.heap.size As es.length (ints es)) := (HV.out.below hb5 (Nat.le_refl _)).more hb5.size
          have HW5 : Hid (Rd w5 w5.heap.size Aw (N * 2) (ints es)) := (HW.out.below hb5 (Nat.le_refl _)).more hb5.size
          have HB5 : Hid (Below w.heap.size w w5) := HBe.out.trans (hb5.mono HBe.out.size)
          have HPo : Hid (w.heap.size ≤ ps ∧ ps < pt ∧ pt < pl ∧ pl < w5.heap.size) := by
            have := HPs.out; have := hpt.out; have := hpl.out; have := lt_of_block HPb.out
            exact ⟨by omega, by omega, by omega, by omega⟩
          rw [hw5]
          clear hw5 hb5 hcell hpsl hpsn HHp HV HW HBe
          have hle := HLe.out
          have HUn := Lib.hid (union_any [(es, As, cs), (es, As, cs)] w5.heap.size (some ⟨pl, 0, none⟩) 2 w5 (rd_block w5 pl _ _ _ HPb.out (Nat.le_refl _)) (Nat.le_refl _) (by simp) (by simp) (by
            intro q hq
            simp only [List.mem_cons, List.not_mem_nil, or_false, or_self] at hq
            subst hq
            exact ⟨HVok.out.1, HVok.out.2.1, by show es.length * 8 ≤ _; omega, HV5.out⟩) (by
            have e1 := prs_len es HVok.out.1.2.1
            simp [allRuns, e1]; omega))
          refine HUn.out.mono ?_
          rintro e w6 ⟨eu, Au, cu, rfl, hsv, hmem, _, hb6⟩
          have hue : eu = es := ok_eq hsv.1 HVok.out.1 fun x => by rw [hmem]; simp
          subst hue
          have HVu := Lib.hid hsv
          have HS6 := Lib.hid (HS5.out.below hb6)
          have HT6 := Lib.hid (HT5.out.below hb6)
          have HL6 : Hid (w6.cell? ⟨pl, 0, none⟩ = some (.slice As eu.length cs)) := by
            rw [hb6.cell (p := ⟨pl, 0, none⟩) HPo.out.2.2.2]
            exact (Am.cell_of w5 pl 0 _ _ (0, 0) HPb.out).trans rfl
          have HV6 : Hid (Rd w6 w6.heap.size As eu.length (ints eu)) := (HV5.out.below hb6 (Nat.le_refl _)).more hb6.size
          have HW6 : Hid (Rd w6 w6.heap.size Aw (N * 2) (ints eu)) := (HW5.out.below hb6 (Nat.le_refl _)).more hb6.size
          have HB6 : Hid (Below w.heap.size w w6) := HB5.out.trans (hb6.mono HB5.out.size)
          have HZ6 : Hid (pl < w6.heap.size) := Nat.lt_of_lt_of_le HPo.out.2.2.2 hb6.size
          clear hsv hmem hb6 HUn HS5 HT5 HPb HV5 HW5 HB5
          go_wp2_with fail
          obtain ⟨pu, hpu⟩ : ∃ p, Hid (w6.heap.size = p) := ⟨_, rfl⟩
          rw [hpu.out]
          obtain ⟨w7, hw7⟩ : ∃ w7, w6.alloc (.cells #[.slice Au eu.length cu] 24) = w7 := ⟨_, rfl⟩
          have HPl : Hid (w.heap.size ≤ ps ∧ ps < pt ∧ pt < pl ∧ pl < pu) := by have := HPo.out; have := HZ6.out; have := hpu.out; exact ⟨by omega, by omega, by omega, by omega⟩
          have HSt : Hid (St ps pt pl pu As cs N Aw w w7 eu eu eu eu) := by
            have hb7 : Below w6.heap.size w6 w7 := by rw [← hw7]; exact (Below.refl _ _).alloc (Nat.le_refl _) _
            have hu7 : SetIn w7 pu eu := by rw [← hw7, ← hpu.out]; exact HVu.out.put
            exact ⟨HS6.out.below hb7, HT6.out.below hb7, hu7, (hb7.cell (p := ⟨pl, 0, none⟩) HZ6.out).trans HL6.out, (HV6.out.below hb7 (Nat.le_refl _)).more hb7.size, (HW6.out.below hb7 (Nat.le_refl _)).more hb7.size, HB6.out.trans (hb7.mono HB6.out.size), HPl.out⟩
          have HSmE : Hid (Sm 99 eu) := Sm.of_mem HVok.out.1 fun x hx => by
            have h := HM.out
            rw [← hX.out] at h
            exact tens_mem l _ eu h x (by omega)
          rw [hw7]
          clear hw7 HS6 HT6 HL6 HV6 HW6 HB6 HZ6 HVu
          obtain ⟨es, hes⟩ : ∃ es, eu = es := ⟨_, rfl⟩
          subst hes
          go_loopw [52] (fun i wx => ∃ m : Nat, m ≤ n1 ∧ i = .int .i64 m ∧ Hid (∃ et eq, St ps pt pl pu As cs N Aw w wx eu eu et eq ∧ Sm 99 et ∧ Sm 99 eq)) (fun i _ => n1 - (intOf i).toNat)
          case atStart => exact ⟨0, Nat.zero_le _, rfl, eu, eu, HSt.out, HSmE.out, HSmE.out⟩
          case round =>
            obtain ⟨m, hm, rfl, HK⟩ := hrel
            clear HSt
            by_cases hmn : m < n1
            · have hmnI : (m : Int) < (n1 : Int) := by omega
              obtain ⟨et, eq, hst, hsm1, hsm2⟩ := HK.out
              obtain ⟨b, off, hA1, hbn, hcs⟩ := HR.out.rd.2 (by omega)
              subst hA1
              have hzl := HR.out.len
              have hrd : ∀ q v, q < n1 * 3 → zs.getD q 0 = v → wr.cell? ⟨b, off + q, none⟩ = some (.int .i64 v) := fun q v hq hv => by
                rw [hst.be.cell (p := ⟨b, off + q, none⟩) hbn, hcs q _ (ints_get zs q (by omega)), hv]
              obtain ⟨x0, hx0⟩ : ∃ v, Hid (zs.getD (m * 3) 0 = v) := ⟨_, rfl⟩
              obtain ⟨x1, hx1⟩ : ∃ v, Hid (zs.getD (m * 3 + 1) 0 = v) := ⟨_, rfl⟩
              obtain ⟨x2, hx2⟩ : ∃ v, Hid (zs.getD (m * 3 + 2) 0 = v) := ⟨_, rfl⟩
              have cx0 := hrd (m * 3) x0 (by omega) hx0.out
              have cx1 : wr.cell? ⟨b, off + m * 3 + 1, none⟩ = some (.int .i64 x1) := hrd (m * 3 + 1) x1 (by omega) hx1.out
              have cx2 : wr.cell? ⟨b, off + m * 3 + 2, none⟩ = some (.int .i64 x2) := hrd (m * 3 + 2) x2 (by omega) hx2.out
              have nb := World.new_ne wr _ cx0
              have hbw : b < wr.heap.size := World.block_lt_of_cell? wr _ cx0
              obtain ⟨f1, hf1⟩ : ∃ v, Hid (x1 % 90 = v) := ⟨_, rfl⟩
              obtain ⟨t1, ht1⟩ : ∃ v, Hid (x2 % 99 = v) := ⟨_, rfl⟩
              obtain ⟨f2, hf2⟩ : ∃ v, Hid (x2 % 90 = v) := ⟨_, rfl⟩
              obtain ⟨t2, ht2⟩ : ∃ v, Hid (x1 % 99 = v) := ⟨_, rfl⟩
              have f1b : f1 ≤ ((99 : Nat) : Int) := by have := hf1.out; omega
              have t1b : t1 ≤ ((99 : Nat) : Int) := by have := ht1.out; omega
              have f2b : f2 ≤ ((99 : Nat) : Int) := by have := hf2.out; omega
              have t2b : t2 ≤ ((99 : Nat) : Int) := by have := ht2.out; omega
              have Pf1 : Hid (∀ W, Calls Try.prog 23 #[.int .i64 x1, .int .i64 90] W fun e w' => e = .returned (.int .i64 f1) ∧ w' = W) := fun W => by
                refine (pick_any x1 90 W (by decide) (by decide)).mono ?_; rintro e w' ⟨rfl, rfl⟩; exact ⟨by rw [hf1.out], rfl⟩
              have Pt1 : Hid (∀ W, Calls Try.prog 23 #[.int .i64 x2, .int .i64 99] W fun e w' => e = .returned (.int .i64 t1) ∧ w' = W) := fun W => by
                refine (pick_any x2 99 W (by decide) (by decide)).mono ?_; rintro e w' ⟨rfl, rfl⟩; exact ⟨by rw [ht1.out], rfl⟩
              have Pf2 : Hid (∀ W, Calls Try.prog 23 #[.int .i64 x2, .int .i64 90] W fun e w' => e = .returned (.int .i64 f2) ∧ w' = W) := fun W => by
                refine (pick_any x2 90 W (by decide) (by decide)).mono ?_; rintro e w' ⟨rfl, rfl⟩; exact ⟨by rw [hf2.out], rfl⟩
              have Pt2 : Hid (∀ W, Calls Try.prog 23 #[.int .i64 x1, .int .i64 99] W fun e w' => e = .returned (.int .i64 t2) ∧ w' = W) := fun W => by
                refine (pick_any x1 99 W (by decide) (by decide)).mono ?_; rintro e w' ⟨rfl, rfl⟩; exact ⟨by rw [ht2.out], rfl⟩
              have HSm := Lib.hid (And.intro hsm1 hsm2)
              have HS0 := Lib.hid hst
              clear hcs hrd hst hsm1 hsm2 HK
              go_wp2_with fail
              obtain ⟨px, hpx⟩ : ∃ p, Hid (wr.heap.size = p) := ⟨_, rfl⟩
              obtain ⟨wv, hwv⟩ : ∃ wv, wr.alloc (.cells #[.int .i64 x0, .int .i64 x1, .int .i64 x2] 45) = wv := ⟨_, rfl⟩
              have HT : Hid (St ps pt pl pu As cs N Aw w wv eu eu et eq) := by rw [← hwv]; exact HS0.out.below ((Below.refl _ _).alloc (Nat.le_refl _) _)
              have HC1 : Hid (wv.cell? ⟨px, 1, none⟩ = some (.int .i64 x1)) := by rw [← hwv, ← hpx.out]; exact World.cell?_alloc_at _ _ _ _ rfl
              have HC2 : Hid (wv.cell? ⟨px, 2, none⟩ = some (.int .i64 x2)) := by rw [← hwv, ← hpx.out]; exact World.cell?_alloc_at _ _ _ _ rfl
              have HLx : Hid (pu < px ∧ px < wv.heap.size) := by
                have := HS0.out.u.lt
                rw [← hwv, ← hpx.out]; exact ⟨this, by simp⟩
              rw [hwv, hpx.out]
              clear hwv cx0 cx1 cx2 nb hbw HS0
              refine still_tail 6 (by kernel_rfl) (by kernel_rfl) ?_
              intro wz hwz
              have HZ0 := HT.out.below ((Below.refl _ _).drew)
              rw [← hwz] at HZ0
              have HZ := Lib.hid HZ0
              have kz1 : wz.cell? ⟨px, 1, none⟩ = some (.int .i64 x1) := by rw [hwz]; exact HC1.out
              have kz2 : wz.cell? ⟨px, 2, none⟩ = some (.int .i64 x2) := by rw [hwz]; exact HC2.out
              have HLz : Hid (pu < px ∧ px < wz.heap.size) := by rw [hwz]; exact HLx.out
              clear hwz HT HZ0 HC1 HC2 HLx
              simp only [List.take_succ_cons, List.take_zero, List.drop_succ_cons, List.drop_zero]
              still_step
              still_step
              still_call (Pf1.out _)
              still_step
              still_step
              still_call (Pt1.out _)
              refine wpStill_nil ?_
              go_wp2_with fail
              refine (add_any _ pt f1 t1 wz HZ.out.t (by have := HSm.out.1.len; omega)).mono ?_
              rintro e wy ⟨rfl, q1, q2⟩
              have HT := Lib.hid (HZ.out.putT q1 q2)
              have HC1 : Hid (wy.cell? ⟨px, 1, none⟩ = some (.int .i64 x1)) := q2.cell kz1 (by have := HLz.out; have := HPl.out; simp; omega)
              have HC2 : Hid (wy.cell? ⟨px, 2, none⟩ = some (.int .i64 x2)) := q2.cell kz2 (by have := HLz.out; have := HPl.out; simp; omega)
              have HLx : Hid (pu < px ∧ px < wy.heap.size) := ⟨HLz.out.1, Nat.lt_of_lt_of_le HLz.out.2 q2.size⟩
              clear q1 q2 kz1 kz2 HZ HLz
              go_wp2_with fail
              refine still_tail 6 (by kernel_rfl) (by kernel_rfl) ?_
              intro wz hwz
              have HZ0 := HT.out.below ((Below.refl _ _).drew)
              rw [← hwz] at HZ0
              have HZ := Lib.hid HZ0
              have kz1 : wz.cell? ⟨px, 1, none⟩ = some (.int .i64 x1) := by rw [hwz]; exact HC1.out
              have kz2 : wz.cell? ⟨px, 2, none⟩ = some (.int .i64 x2) := by rw [hwz]; exact HC2.out
              have HLz : Hid (pu < px ∧ px < wz.heap.size) := by rw [hwz]; exact HLx.out
              clear hwz HT HZ0 HC1 HC2 HLx
              simp only [List.take_succ_cons, List.take_zero, List.drop_succ_cons, List.drop_zero]
              still_step
              still_step
              still_call (Pf2.out _)
              still_step
              still_step
              still_call (Pt2.out _)
              refine wpStill_nil ?_
              go_wp2_with fail
              refine (drop_any _ pu f2 t2 wz HZ.out.u (by have := HSm.out.2.len; omega)).mono ?_
              rintro e wy ⟨rfl, q1, q2⟩
              have HT := Lib.hid (HZ.out.putU q1 q2)
              have HC1 : Hid (wy.cell? ⟨px, 1, none⟩ = some (.int .i64 x1)) := q2.cell kz1 (by have := HLz.out; have := HPl.out; simp; omega)
              have HC2 : Hid (wy.cell? ⟨px, 2, none⟩ = some (.int .i64 x2)) := q2.cell kz2 (by have := HLz.out; have := HPl.out; simp; omega)
              have HLx : Hid (pu < px ∧ px < wy.heap.size) := ⟨HLz.out.1, Nat.lt_of_lt_of_le HLz.out.2 q2.size⟩
              clear q1 q2 kz1 kz2 HZ HLz
              have HN : Hid (∃ et eq, St ps pt pl pu As cs N Aw w wy eu eu et eq ∧ Sm 99 et ∧ Sm 99 eq) := ⟨_, _, HT.out, HSm.out.1.turn _ _ _ f1b t1b, HSm.out.2.turn _ _ _ f2b t2b⟩
              clear HT HC1 HC2 HLx
              go_wp2_with fail
              go_roundw
              case rel => exact ⟨m + 1, by omega, by go_num, HN⟩
              case measure => simp [intOf]; omega
            · have hmnI : ¬ (m : Int) < (n1 : Int) := by omega
              obtain rfl : m = n1 := by omega
              obtain ⟨et, eq, hst, hsm1, hsm2⟩ := HK.out
              have HS0 := Lib.hid hst
              have HSm := Lib.hid hsm1
              clear hst hsm1 hsm2 HK
              go_wp2_with fail
              have het := HSm.out.len
              have hle2 := HSmE.out.len
              refine (spans_in et pt wr HS0.out.t (by omega)).mono ?_
              rintro e wa ⟨An, cn, rfl, hcn, _, hrn, hba⟩
              obtain ⟨N2, hN2⟩ : ∃ N, Hid (et.length / 2 = N) := ⟨_, rfl⟩
              rw [hN2.out] at hcn hrn ⊢
              have HNow := Lib.hid hrn
              have HSa := Lib.hid (HS0.out.below hba)
              clear hrn hba HS0
              go_wp2_with fail
              refine (add_any eu ps 91 94 wa HSa.out.s (by omega)).mono ?_
              rintro e wb ⟨rfl, q1, q2⟩
              have HNowb : Hid (Rd wb wb.heap.size An (N2 * 2) (ints et)) := by
                obtain ⟨_, A0, c0, hh0, _⟩ := HSa.out.s
                exact (HNow.out.but (Nat.le_refl _) q2 hh0).more q2.size
              have HSb := Lib.hid (HSa.out.putS q1 q2)
              have HSm1 := Lib.hid (HSmE.out.turn 91 94 true (by decide) (by decide))
              clear q1 q2 HSa HNow
              go_wp2_with fail
              have hl1 := HSm1.out.len
              refine (drop_any _ ps 0 5 wb HSb.out.s (by omega)).mono ?_
              rintro e wq ⟨rfl, q1, q2⟩
              have HNowq : Hid (Rd wq wq.heap.size An (N2 * 2) (ints et)) := by
                obtain ⟨_, A0, c0, hh0, _⟩ := HSb.out.s
                exact (HNowb.out.but (Nat.le_refl _) q2 hh0).more q2.size
              have HSq := Lib.hid (HSb.out.putS q1 q2)
              have HSm2 := Lib.hid (HSm1.out.turn 0 5 false (by decide) (by decide))
              obtain ⟨e2, he2⟩ : ∃ e2, Hid (turn (turn eu 91 94 true) 0 5 false = e2) := ⟨_, rfl⟩
              have Hm95 : Hid (mem e2 95 = false) := by
                rw [← he2.out]
                show _ = _
                rw [mem_drop HSm1.out.1 0 5 (by decide) (by decide), mem_add HSmE.out.1 91 94 (by decide) (by decide)]
                have h := HM.out
                rw [← hX.out] at h
                rw [tens_mem l _ eu h 95 (by decide)]
                decide
              have Hm92 : Hid (mem e2 92 = true) := by
                rw [← he2.out]
                show _ = _
                rw [mem_drop HSm1.out.1 0 5 (by decide) (by decide), mem_add HSmE.out.1 91 94 (by decide) (by decide)]
                have : inRun 92 (91, 94) = true := by decide
                rw [this, Bool.or_true]
                decide
              rw [he2.out] at HSq HSm2
              have hl2 := HSm2.out.len
              clear q1 q2 HSb HNowb hl1 HSm1
              go_wp2_with fail
              refine (spans_in e2 ps wq HSq.out.s (by omega)).mono ?_
              rintro e wt ⟨At, ct, rfl, hct, hot, _, hbt⟩
              obtain ⟨N3, hN3⟩ : ∃ N, Hid (e2.length / 2 = N) := ⟨_, rfl⟩
              have hN3b : N3 ≤ 50 := by have := hN3.out; omega
              have hN3I : (N3 : Int) ≤ 50 := by omega
              rw [hN3.out] at hct hot ⊢
              have hctI : (N3 : Int) ≤ (ct : Int) := by omega
              have HL4 : Hid (∃ xs, wt.ownsRow wq.heap.size 32 2 (.slice At N3 ct) N3 xs ∧ Below wq.heap.size wq wt) := ⟨_, hot, hbt⟩
              clear hot hbt
              go_wp2_with fail
              go_loopw [77] (fun i wx => ∃ q : Nat, q ≤ N3 ∧ i = .int .i64 q ∧ Hid (∃ xs, wx.ownsRow wq.heap.size 32 2 (.slice At N3 ct) N3 xs ∧ Below wq.heap.size wq wx)) (fun i _ => N3 - (intOf i).toNat)
              case atStart => exact ⟨0, Nat.zero_le _, rfl, HL4⟩
              case round =>
                obtain ⟨q, hq, rfl, HK⟩ := hrel
                clear HL4
                by_cases hqn : q < N3
                · have hqnI : (q : Int) < (N3 : Int) := by omega
                  obtain ⟨xs, hown, hbx⟩ := HK.out
                  obtain ⟨g, hAt⟩ : ∃ g, At = some ⟨g, 0, none⟩ := by
                    rcases hown.2 with ⟨_, e⟩ | ⟨g, _, _, e, _⟩
                    · omega
                    · simp only [Value.slice.injEq] at e; exact ⟨g, e.1⟩
                  subst hAt
                  have hxl := hown.1
                  have hglt := hown.lt g rfl
                  have k1 : wr.cell? ⟨g, q * 2, none⟩ = some (xs[q * 2]'(by omega)) := by rw [hown.cellAt (q * 2) (by omega)]; exact List.getElem?_eq_getElem _
                  have k2 : wr.cell? ⟨g, q * 2 + 1, none⟩ = some (xs[q * 2 + 1]'(by omega)) := by rw [hown.cellAt (q * 2 + 1) (by omega)]; exact List.getElem?_eq_getElem _
                  have k3 : wr.frozen? ⟨g, q * 2, none⟩ = false := hown.frozenAt _
                  have k4 : wr.frozen? ⟨g, q * 2 + 1, none⟩ = false := hown.frozenAt _
                  have HN : Hid (∃ xs, ((wr.setCell ⟨g, q * 2, none⟩ (.int .i64 7)).setCell ⟨g, q * 2 + 1, none⟩ (.int .i64 8)).ownsRow wq.heap.size 32 2 (.slice (some ⟨g, 0, none⟩) N3 ct) N3 xs ∧ Below wq.heap.size wq ((wr.setCell ⟨g, q * 2, none⟩ (.int .i64 7)).setCell ⟨g, q * 2 + 1, none⟩ (.int .i64 8))) :=
                    ⟨_, ((hown.stored (q * 2) (.int .i64 7)).1.stored (q * 2 + 1) (.int .i64 8)).1, (hbx.setCell hglt.1 _).setCell hglt.1 _⟩
                  obtain ⟨u1, hu1⟩ : ∃ u, xs[q * 2]'(by omega) = u := ⟨_, rfl⟩
                  obtain ⟨u2, hu2⟩ : ∃ u, xs[q * 2 + 1]'(by omega) = u := ⟨_, rfl⟩
                  rw [hu1] at k1
                  rw [hu2] at k2
                  clear hown hbx hxl hu1 hu2 HK
                  go_wp2_with fail
                  go_roundw
                  case rel => exact ⟨q + 1, by omega, by go_num, HN⟩
                  case measure => simp [intOf]; omega
                · have hqnI : ¬ (q : Int) < (N3 : Int) := by omega
                  obtain rfl : q = N3 := by omega
                  obtain ⟨xs, _, hbx⟩ := HK.out
                  have HSx := Lib.hid (HSq.out.below hbx)
                  have HNx : Hid (Rd wr wr.heap.size An (N2 * 2) (ints et)) := (HNowq.out.below hbx (Nat.le_refl _)).more hbx.size
                  have hcl : wr.cell? ⟨pl, 0, none⟩ = some (.slice As eu.length cs) := HSx.out.l
                  have hpll : pl < wr.heap.size := World.block_lt_of_cell? wr _ hcl
                  have hpln : wr.heap.size ≠ pl := by omega
                  clear hbx HK HSq HNowq
                  go_wp2_with fail
                  obtain ⟨w8, hw8⟩ : ∃ w8, wr.alloc (.cells #[.slice As eu.length cs] 24) = w8 := ⟨_, rfl⟩
                  have HF : Hid (Fin ps pt wr.heap.size Aw An N N2 w w8 eu et e2) := by
                    have hb8 : Below wr.heap.size wr w8 := by rw [← hw8]; exact (Below.refl _ _).alloc (Nat.le_refl _) _
                    have hsx := HSx.out.below hb8
                    refine ⟨hsx.s, hsx.t, ?_, hsx.was, (HNx.out.below hb8 (Nat.le_refl _)).more hb8.size, hsx.be⟩
                    rw [← hw8]
                    exact SetVal.put ⟨HVok.out.1, HVok.out.2.1, HVok.out.2.2, HSx.out.v⟩
                  rw [hw8]
                  obtain ⟨pv, hpv⟩ : ∃ p, Hid (wr.heap.size = p) := ⟨_, rfl⟩
                  rw [hpv.out] at HF ⊢
                  clear hw8 hcl hpll hpln HSx HNx
                  refine (Known.known_any w8).mono ?_
                  rintro e y1 ⟨rfl, hb⟩
                  have F1 := Lib.hid (HF.out.below hb)
                  clear hb HF
                  go_wp2_with fail
                  refine (spans_in eu pv y1 F1.out.v (by omega)).mono ?_
                  rintro e y2 ⟨B1, d1, rfl, hd1, _, hr1, hb⟩
                  rw [hN.out] at hd1 hr1 ⊢
                  have F2 := Lib.hid (F1.out.below hb)
                  have R1 := Lib.hid hr1
                  clear hb hr1 F1
                  have hNb : N ≤ 100 := by have := hN.out; omega
                  have hN2b : N2 ≤ 100 := by have := hN2.out; omega
                  go_wp2_with fail
                  refine (same_any eu eu y2.heap.size B1 Aw d1 cw N N y2 R1.out F2.out.was (Nat.le_refl _) (by omega) (by omega) hd1 hcw true (by simp)).mono ?_
                  rintro e y3 ⟨rfl, hb⟩
                  have F3 := Lib.hid (F2.out.below hb)
                  clear hb F2 R1 hd1
                  go_wp2_with fail
                  refine (spans_in et pt y3 F3.out.t (by omega)).mono ?_
                  rintro e y4 ⟨B2, d2, rfl, hd2, _, hr2, hb⟩
                  rw [hN2.out] at hd2 hr2 ⊢
                  have F4 := Lib.hid (F3.out.below hb)
                  have R2 := Lib.hid hr2
                  clear hb hr2 F3
                  go_wp2_with fail
                  refine (same_any et et y4.heap.size B2 An d2 cn N2 N2 y4 R2.out F4.out.now (Nat.le_refl _) (by omega) (by omega) hd2 hcn true (by simp)).mono ?_
                  rintro e y5 ⟨rfl, hb⟩
                  have F5 := Lib.hid (F4.out.below hb)
                  clear hb F4 R2 hd2
                  go_wp2_with fail
                  have C1 := has_in e2 ps 95 y5 F5.out.s (by omega)
                  rw [Hm95.out] at C1
                  refine C1.mono ?_
                  rintro e y6 ⟨rfl, hb⟩
                  have F6 := Lib.hid (F5.out.below hb)
                  clear hb F5 C1
                  go_wp2_with fail
                  have C2 := has_in e2 ps 92 y6 F6.out.s (by omega)
                  rw [Hm92.out] at C2
                  refine C2.mono ?_
                  rintro e y7 ⟨rfl, hb⟩
                  have F7 := Lib.hid (F6.out.below hb)
                  clear hb F6 C2
                  go_wp2_with fail
                  go_ret
                  exact ⟨rfl, F7.out.be⟩
end Go.Proofs.Ytbddphoiccbjnab.Copies
