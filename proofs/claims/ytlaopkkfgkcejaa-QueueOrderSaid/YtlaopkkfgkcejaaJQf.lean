/- slices.DeleteFunc of items by Drop's closure, the queue's Drop: contracts. Conditions: as each theorem lists them. -/
import Derived.Test.YtlaopkkfgkcejaaJQe
set_option linter.unusedSimpArgs false
set_option linter.unusedVariables false

namespace Go.Proofs.Ytlaopkkfgkcejaa.Qu
open Go Go.RowKit Go.Proofs.Ytlaopkkfgkcejaa

/-- The row on its way: what is kept lies at its beginning, what is not looked at yet at its places. -/
structure DAt (w0 w : World) (p lo m : Nat) (ks : List It) (kept : List It) (j : Nat) : Prop where
  q : QAt w p lo kept m
  rest : ∀ t q, j ≤ t → ks[t]? = some q → ∀ e u, e < 2 → (itC q)[e]? = some u → w.cell? ⟨p, t * 2 + e, none⟩ = some u
  grown : w0.grownBy w (some p)
theorem DAt.below {w0 w w' : World} {p lo m j : Nat} {ks kept : List It} (h : DAt w0 w p lo m ks kept j) (hb : Below w.heap.size w w') : DAt w0 w' p lo m ks kept j :=
  ⟨h.q.below hb, fun t q ht hq e u he hu => (hb.cell (p := ⟨p, t * 2 + e, none⟩) h.q.lt).trans (h.rest t q ht hq e u he hu), grown_trans h.grown (grown_of_below p hb)⟩
theorem DAt.skip {w0 w : World} {p lo m j : Nat} {ks kept : List It} (h : DAt w0 w p lo m ks kept j) : DAt w0 w p lo m ks kept (j + 1) := ⟨h.q, fun t q ht => h.rest t q (by omega), h.grown⟩
theorem DAt.put {w0 w : World} {p lo m m0 j i : Nat} {ks kept : List It} {q : It} (h : DAt w0 w p lo m ks kept j) (h0 : QAt w0 p lo ks m0) (hq : ks[j]? = some q) (hi : kept.length = i) (hij : i < j) (hjn : j < 32) :
    DAt w0 ((w.setCell ⟨p, i * 2, none⟩ (.int .i64 q.k)).setCell ⟨p, i * 2 + 1, none⟩ (.slice q.A q.n q.c)) p lo m ks (kept ++ [q]) (j + 1) := by
  have hw : QAt (w.setCells p (i * 2) (itC q)) p lo (kept ++ [q]) m := by
    refine h.q.write (i * 2) (itC q) (kept ++ [q]) (by show _ + 2 ≤ _; omega) (fun t u hu => ⟨fun h1 h2 => ?_, fun h1 => ?_⟩) (fun x hx => ?_) (by simp; omega)
    · rw [its_app, List.getElem?_append_right (by rw [its_len]; omega), its_len, hi] at hu
      simpa [its] using hu
    · have h2 : (itC q).length = 2 := rfl
      rw [its_app] at hu
      by_cases h3 : t < i * 2
      · rwa [List.getElem?_append_left (by rw [its_len]; omega)] at hu
      · rw [List.getElem?_append_right (by rw [its_len]; omega), its_len, hi] at hu
        have := (List.getElem?_eq_some_iff.1 hu).1
        rw [its_len] at this
        simp at this
        omega
    · rw [List.mem_append] at hx
      rcases hx with hx | hx
      · exact h.q.items x hx
      · have : x = q := by simpa using hx
        subst this
        have := h0.items x (List.mem_of_getElem? hq)
        exact ⟨this.1.grown h.grown h0.plo, this.2⟩
  refine ⟨hw, fun t x ht hx e u he hu => ?_, grown_set (grown_set h.grown _ _) _ _⟩
  have := h.rest t x (by omega) hx e u he hu
  rw [World.cell?_setCell_other _ _ _ _ (by simp <;> omega), World.cell?_setCell_other _ _ _ _ (by simp <;> omega)]
  exact this

set_option maxRecDepth 100000 in
set_option maxHeartbeats 4000000 in
theorem deletefunc_any {w : World} {p lo m0 : Nat} {ks : List It} (hq : QAt w p lo ks m0) (l : List Int) (h m c : Nat) (B : Option Addr) (hN : NotesIn w p h B m c l) :
    Calls Try.prog 19 #[.slice (some ⟨p, 0, none⟩) ks.length 32, .func (.func 20) #[] #[.pointer (some ⟨h, 0, none⟩)]] w
      fun e w' => e = .returned (.slice (some ⟨p, 0, none⟩) (ks.filter (keeps l)).length 32) ∧ QAt w' p lo (ks.filter (keeps l)) m0 ∧ w.grownBy w' (some p) := by
  obtain ⟨n, hn⟩ : ∃ n, ks.length = n := ⟨_, rfl⟩
  have HL := Lib.hid hn
  have HQ := Lib.hid hq
  have HN := Lib.hid hN
  have hnI : (n : Int) ≤ 32 := by have := hq.le; omega
  have HI := Lib.hid (indexfunc_any hq l h m c B hN)
  rw [hn] at HI ⊢
  clear hq hN
  go_enter Try.func19, Try.ntmps19
  go_wp2_with fail
  go_at_call 25
  refine HI.out.mono ?_
  rintro e w5 ⟨⟨rfl, hf⟩ | ⟨i, hi, rfl, hf⟩, hb5⟩
  · have HF : Hid (ks.filter (keeps l) = ks) := hf
    have HB5 := Lib.hid hb5
    clear hf hb5
    go_wp2_with fail
    go_ret
    rw [HF.out]
    exact ⟨by rw [HL.out]; rfl, HQ.out.below HB5.out, grown_of_below p HB5.out⟩
  · have HF : Hid ((ks.take (i + 1)).filter (keeps l) = ks.take i) := hf
    have HB5 := Lib.hid hb5
    rw [HL.out] at hi
    have HD : Hid (DAt w w5 p lo m0 ks (ks.take i) (i + 1)) := by
      have hq5 := HQ.out.below HB5.out
      refine ⟨⟨fun t u hu => hq5.cells t u ?_, hq5.num, hq5.room, hq5.plo, hq5.lt, ?_, fun x hx => hq5.items x (List.mem_of_mem_take hx)⟩, fun t q _ hq e u he hu => hq5.cells (t * 2 + e) u ?_, grown_of_below p HB5.out⟩
      · have h1 := (List.getElem?_eq_some_iff.1 hu).1
        have := its_app (ks.take i) (ks.drop i)
        rw [List.take_append_drop] at this
        rw [this, List.getElem?_append_left h1]
        exact hu
      · have := hq5.le; rw [List.length_take]; omega
      · rw [its_get ks t q hq e he]; exact hu
    have hneg : ((i : Int) == -1) = false := by simp <;> omega
    have hlen : Hid ((ks.take i).length = i) := by show _ = _; rw [List.length_take]; have := HL.out; omega
    clear hf hb5 HI
    go_wp2_with fail
    go_loopw [5, 6, 7] (fun vi vj _ wr => ∃ (i j : Nat) (kept : List It), i < j ∧ j ≤ n ∧ vi = .int .i64 (i : Int) ∧ vj = .int .i64 (j : Int) ∧ Hid (kept.length = i ∧ (ks.take j).filter (keeps l) = kept ∧ DAt w wr p lo m0 ks kept j)) (fun _ vj _ _ => n - (intOf vj).toNat)
    case atStart => exact ⟨i, i + 1, ks.take i, by omega, by omega, rfl, by go_num, hlen.out, HF.out, HD.out⟩
    case round =>
      obtain ⟨i, j, kept, hij, hj, rfl, rfl, HK⟩ := hrel
      by_cases hlt : j < n
      · have hltI : (j : Int) < (n : Int) := by omega
        have hjI : (0 : Int) ≤ (j : Int) := by omega
        have hiI : (i : Int) < (n : Int) := by omega
        have hi0I : (0 : Int) ≤ (i : Int) := by omega
        obtain ⟨hki, hkf, hD⟩ := HK.out
        obtain ⟨q, hqj⟩ : ∃ q, ks[j]? = some q := ⟨_, List.getElem?_eq_getElem (by have := HL.out; omega)⟩
        have c0 : wr.cell? ⟨p, j * 2, none⟩ = some (.int .i64 q.k) := hD.rest j q (Nat.le_refl _) hqj 0 _ (by omega) rfl
        have c1 : wr.cell? ⟨p, j * 2 + 1, none⟩ = some (.slice q.A q.n q.c) := hD.rest j q (Nat.le_refl _) hqj 1 _ (by omega) rfl
        have hbx : Below wr.heap.size wr (wr.alloc (.cells #[.int .i64 q.k, .slice q.A q.n q.c] 24)) := (Below.refl _ _).alloc (Nat.le_refl _) _
        have hDx := hD.below hbx
        have hpn : p ≠ wr.heap.size := by have := hD.q.lt; omega
        have HC := Lib.hid (drop1_any l p h m c B q.k q.A q.n q.c _ (HN.out.grown hDx.grown))
        have HDX := Lib.hid hDx
        have HKI := Lib.hid hki
        have HKF : Hid ((ks.take (j + 1)).filter (keeps l) = kept ++ (if keeps l q then [q] else [])) := by show _ = _; rw [take_one ks j q hqj, List.filter_append, hkf]; simp [List.filter_cons]
        have HQJ := Lib.hid hqj
        have HDD : Hid (keeps l q = !decide (q.k ∈ l)) := rfl
        obtain ⟨d, hd⟩ : ∃ d, decide (q.k ∈ l) = d := ⟨_, rfl⟩
        rw [hd] at HC HDD
        have hjn : j < 32 := by omega
        clear hki hkf hD hqj hbx hDx HK hd
        go_wp2_with fail
        go_at_call 20
        refine HC.out.mono ?_
        rintro e w6 ⟨rfl, hb6⟩
        have d0 : w6.cell? ⟨wr.heap.size, 0, none⟩ = some (.int .i64 q.k) := (hb6.cell (p := ⟨wr.heap.size, 0, none⟩) (by simp)).trans (by simp)
        have d1 : w6.cell? ⟨wr.heap.size, 1, none⟩ = some (.slice q.A q.n q.c) := (hb6.cell (p := ⟨wr.heap.size, 1, none⟩) (by simp)).trans (by simp)
        have hD6 := HDX.out.below hb6
        obtain ⟨r0, f0⟩ := hD6.q.room (i * 2) (by omega)
        obtain ⟨r1, f1⟩ := hD6.q.room (i * 2 + 1) (by omega)
        obtain ⟨x0, r0⟩ := Option.isSome_iff_exists.1 r0
        obtain ⟨x1, r1⟩ := Option.isSome_iff_exists.1 r1
        have HD6 := Lib.hid hD6
        clear hD6 hb6
        cases d
        · have HP := Lib.hid (HD6.out.put HQ.out HQJ.out HKI.out hij hjn)
          go_wp2_with fail
          refine ⟨⟨i + 1, j + 1, kept ++ [q], by omega, by omega, by go_num, by go_num, by simp [HKI.out], by rw [HKF.out, HDD.out]; rfl, HP.out⟩, ?_⟩
          simp [intOf]; omega
        · go_wp2_with fail
          refine ⟨⟨i, j + 1, kept, by omega, by omega, rfl, by go_num, HKI.out, by rw [HKF.out, HDD.out]; simp, HD6.out.skip⟩, ?_⟩
          simp [intOf]; omega
      · have hltI : ¬ (j : Int) < (n : Int) := by omega
        obtain rfl : j = n := by omega
        obtain ⟨hki, hkf, hD⟩ := HK.out
        rw [List.take_of_length_le (by have := HL.out; omega)] at hkf
        have hi0I : (0 : Int) ≤ (i : Int) := by omega
        have hijI : (i : Int) ≤ (j : Int) := by omega
        obtain ⟨vs, hvl, hcl⟩ := run_clear_its wr p (i * 2) (j - i) (32 - i) (fun t ht => (hD.q.room (i * 2 + t) (by omega)).1) (fun t ht => (hD.q.room (i * 2 + t) (by omega)).2)
        have hqf : QAt (wr.setCells p (i * 2) vs) p lo kept m0 := hD.q.write (i * 2) vs kept (by omega) (fun t u hu => by
          have h1 := (List.getElem?_eq_some_iff.1 hu).1
          rw [its_len, hki] at h1
          exact ⟨fun h => by omega, fun _ => hu⟩) hD.q.items hD.q.le
        have HQF : Hid (kept.length = i ∧ ks.filter (keeps l) = kept ∧ QAt (wr.setCells p (i * 2) vs) p lo kept m0 ∧ w.grownBy (wr.setCells p (i * 2) vs) (some p)) := ⟨hki, hkf, hqf, grown_cells _ _ hD.grown⟩
        have hn32 : 32 ≠ i := by omega
        clear hki hkf hD hqf hvl HK
        go_wp2_with fail
        go_ret
        obtain ⟨h1, h2, h3, h4⟩ := HQF.out
        rw [h2, h1]
        exact ⟨rfl, h3, h4⟩
end Go.Proofs.Ytlaopkkfgkcejaa.Qu
