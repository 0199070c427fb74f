/- slices.Delete of the first item, the queue's Pop: contracts. Conditions: as each theorem lists them. -/
import Derived.Test.YtlaopkkfgkcejaaJQb
import Derived.Shelf.RegionOpenPlain
import Derived.WalkKit
import Derived.Deep.RegionLaw
set_option linter.unusedSimpArgs false
set_option linter.unusedVariables false

namespace Go.Proofs.Ytlaopkkfgkcejaa.Qu
open Go Go.RowKit Go.Proofs.Ytlaopkkfgkcejaa

theorem grown_refl (w : World) (p : Nat) : w.grownBy w (some p) := ⟨rfl, rfl, rfl, Nat.le_refl _, fun _ _ _ => rfl⟩
theorem grown_set {a w : World} {p : Nat} (h : a.grownBy w (some p)) (o : Nat) (u : Value) : a.grownBy (w.setCell ⟨p, o, none⟩ u) (some p) :=
  ⟨h.os, h.tape, h.output, by simpa [World.setCell] using h.size, fun k hk hne => (Below.heap_setCell _ _ _ _ (fun e => hne (by rw [e]))).trans (h.block k hk hne)⟩
theorem grown_cells {a : World} {p : Nat} : ∀ (vs : List Value) (o : Nat) {w : World}, a.grownBy w (some p) → a.grownBy (w.setCells p o vs) (some p)
  | [], _, _, h => h
  | v :: r, o, _, h => grown_cells r (o + 1) (grown_set h o v)
theorem grown_drew {a w : World} {p : Nat} (h : a.grownBy w (some p)) : a.grownBy w.drew (some p) := ⟨h.os, h.tape, h.output, h.size, h.block⟩
theorem grown_trans {a b c : World} {p : Nat} (h1 : a.grownBy b (some p)) (h2 : b.grownBy c (some p)) : a.grownBy c (some p) :=
  ⟨h2.os.trans h1.os, h2.tape.trans h1.tape, h2.output.trans h1.output, Nat.le_trans h1.size h2.size, fun k hk hne => (h2.block k (Nat.lt_of_lt_of_le hk h1.size) hne).trans (h1.block k hk hne)⟩
theorem grown_of_below {w w' : World} (p : Nat) (hb : Below w.heap.size w w') : w.grownBy w' (some p) := ⟨hb.os, hb.tape, hb.output, hb.size, fun k hk _ => hb.block k hk⟩
theorem below_of_grown {w w' : World} {B p : Nat} (hg : w.grownBy w' (some p)) (hB : B ≤ w.heap.size) (hp : B ≤ p) : Below B w w' :=
  ⟨hg.os, hg.tape, hg.output, hg.size, fun k hk => hg.block k (by omega) (by simp; omega)⟩

/-- Some of the queue's cells are written. -/
theorem QAt.write {w : World} {p lo m : Nat} {ks : List It} (h : QAt w p lo ks m) (o : Nat) (vs : List Value) (ks' : List It) (ho : o + vs.length ≤ 64)
    (hin : ∀ j u, (its ks')[j]? = some u → (o ≤ j → j < o + vs.length → vs[j - o]? = some u) ∧ (j < o ∨ o + vs.length ≤ j → (its ks)[j]? = some u))
    (hit : ∀ q ∈ ks', ItOk w lo q ∧ 0 < q.n ∧ q.n ≤ 116) (hle : ks'.length ≤ 32) : QAt (w.setCells p o vs) p lo ks' m := by
  have hg := grown_cells (a := w) vs o (grown_refl w p)
  refine ⟨fun j u hu => ?_, ?_, fun j hj => ⟨?_, ?_⟩, h.plo, Nat.lt_of_lt_of_le h.lt hg.size, hle, fun q hq => ⟨(hit q hq).1.grown hg h.plo, (hit q hq).2⟩⟩
  · obtain ⟨h1, h2⟩ := hin j u hu
    by_cases hj : o ≤ j ∧ j < o + vs.length
    · have := World.cell?_setCells_in p vs o w (fun i hi => (h.room (o + i) (by omega)).1) (j - o) (by omega)
      rw [show o + (j - o) = j by omega] at this
      rw [this]
      have e := h1 hj.1 hj.2
      rw [List.getElem?_eq_getElem (by omega)] at e
      exact e
    · rw [World.cell?_setCells_out p vs o w _ (fun _ _ => by simp; omega)]
      exact h.cells j u (h2 (by omega))
  · rw [World.cell?_setCells_out p vs o w _ (fun _ _ => Or.inr ho)]
    exact h.num
  · exact World.isSome_setCells p vs o w _ (h.room j hj).1
  · rw [World.frozen?_setCells]; exact (h.room j hj).2
theorem QAt.say {w : World} {p lo m : Nat} {ks : List It} (h : QAt w p lo ks m) (n : Nat) : QAt (w.setCell ⟨p, 64, none⟩ (.int .i64 (n : Int))) p lo ks n := by
  have hg := grown_set (a := w) (grown_refl w p) 64 (.int .i64 (n : Int))
  have hl : ∀ j u, (its ks)[j]? = some u → j < 64 := fun j u hu => by have h1 := (List.getElem?_eq_some_iff.1 hu).1; rw [its_len] at h1; have := h.le; omega
  refine ⟨fun j u hu => ?_, World.cell?_setCell_same _ _ _ h.num, fun j hj => ⟨?_, ?_⟩, h.plo, Nat.lt_of_lt_of_le h.lt hg.size, h.le, fun q hq => ⟨(h.items q hq).1.grown hg h.plo, (h.items q hq).2⟩⟩
  · rw [World.cell?_setCell_other _ _ _ _ (fun e => by have := hl j u hu; simp at e <;> omega)]
    exact h.cells j u hu
  · by_cases e : j = 64
    · subst e; rw [World.cell?_setCell_same _ _ _ h.num]; rfl
    · rw [World.cell?_setCell_other _ _ _ _ (fun e2 => by simp at e2 <;> omega)]; exact (h.room j hj).1
  · rw [World.frozen?_setCell]; exact (h.room j hj).2

set_option maxRecDepth 100000 in
set_option maxHeartbeats 4000000 in
theorem delete_any {w : World} {p lo m : Nat} {q : It} {ks : List It} (h : QAt w p lo (q :: ks) m) :
    Calls Try.prog 22 #[.slice (some ⟨p, 0, none⟩) (ks.length + 1) 32, .int .i64 0, .int .i64 1] w fun e w' => e = .returned (.slice (some ⟨p, 0, none⟩) ks.length 32) ∧ QAt w' p lo ks m ∧ w.grownBy w' (some p) := by
  obtain ⟨n, hn⟩ : ∃ n, ks.length = n := ⟨_, rfl⟩
  have hle : n + 1 ≤ 32 := by rw [← hn]; exact h.le
  obtain ⟨news, hnews⟩ : ∃ news, news = its ks := ⟨_, rfl⟩
  have hlen : news.length = n * 2 := by rw [hnews, its_len, hn]
  have hsrc : Hid (∀ t u, news[t]? = some u → w.drew.cell? ((⟨p, 2, none⟩ : Addr).add t) = some u) := fun t u hu => by
    rw [Addr.add_lit]
    refine h.cells (2 + t) u ?_
    show (itC q ++ its ks)[2 + t]? = _
    rw [List.getElem?_append_right (by show 2 ≤ _; omega)]
    show (its ks)[2 + t - 2]? = _
    rw [show 2 + t - 2 = t by omega, ← hnews]
    exact hu
  have s1 : Hid (news.length = n * 2) := hlen
  have s2 : Hid (∀ u ∈ news, u.oneCell' = true) := by rw [hnews]; exact ones_its ks
  have s3 : Hid (∀ t, t < news.length → (w.drew.cell? ⟨p, 0 + 0 * 2 + t, none⟩).isSome = true ∧ w.drew.frozen? ⟨p, 0 + 0 * 2 + t, none⟩ = false) := by
    intro t ht
    rw [hlen] at ht
    rw [show 0 + 0 * 2 + t = t by omega]
    exact h.room t (by omega)
  have hQ1 : QAt (w.drew.setCells p 0 news) p lo ks m := QAt.write (w := w.drew) (h.below (Below.refl _ _).drew) 0 news ks (by omega) (fun j u hu => ⟨fun _ _ => by rw [hnews, Nat.sub_zero]; exact hu, fun h => by
    have h1 := (List.getElem?_eq_some_iff.1 hu).1
    rw [its_len, hn] at h1
    omega⟩) (fun x hx => ⟨((h.items x (List.mem_cons_of_mem _ hx)).1).below (Below.refl _ _).drew, (h.items x (List.mem_cons_of_mem _ hx)).2⟩) (by omega)
  obtain ⟨W1, hW1⟩ : ∃ W1, W1 = w.drew.setCells p (0 + 0 * 2) news := ⟨_, rfl⟩
  have hQ1' : QAt W1 p lo ks m := by rw [hW1]; exact hQ1
  have hG1 : w.grownBy W1 (some p) := by rw [hW1]; exact grown_cells _ _ (grown_drew (grown_refl _ _))
  obtain ⟨vs, hvl, hcl⟩ := run_clear_its W1 p (n * 2) 1 (32 - n) (fun j hj => (hQ1'.room (n * 2 + j) (by omega)).1) (fun j hj => (hQ1'.room (n * 2 + j) (by omega)).2)
  have HQ2 : Hid (QAt (W1.setCells p (n * 2) vs) p lo ks m ∧ w.grownBy (W1.setCells p (n * 2) vs) (some p)) := ⟨hQ1'.write (n * 2) vs ks (by omega) (fun j u hu => by
    have h1 := (List.getElem?_eq_some_iff.1 hu).1
    rw [its_len, hn] at h1
    exact ⟨fun h => by omega, fun _ => hu⟩) hQ1'.items hQ1'.le, grown_cells _ _ hG1⟩
  have hW : Hid (W1 = w.drew.setCells p (0 + 0 * 2) news) := hW1
  obtain ⟨i0, hi, hz0, hz1, hz2⟩ := info_parts infoIt
  have HI := Lib.hid (And.intro hi hz1)
  have hnI : (n : Int) + 1 ≤ 32 := by omega
  have hn1 : (1 : Int) ≤ (n : Int) + 1 := by omega
  rw [hn]
  clear hW1 hQ1 hQ1' hG1 h hnews hlen hi hz0 hz1 hz2 hvl
  go_enter Try.func22, Try.ntmps22
  go_wp2_with fail
  go_region_law (refine step_append_room rfl (.tmp 22) (.tmp 25) 29 rfl 24 i0 2 Try.underlying29 HI.out.1 HI.out.2 p 0 0 32 (by simp [Act.eval, Act.put]) ⟨p, 2, none⟩ n 31 news (by simp [Act.eval, Act.put]) s1.out hsrc.out s2.out (by omega) s3.out ?_; rw [← hW.out])
  go_wp2_with fail
  go_ret
  exact ⟨rfl, HQ2.out⟩
/-- A cell of another block is frozen as it was. -/
theorem frozen_grown {w w' : World} {p b : Nat} (hg : w.grownBy w' (some p)) (o : Nat) (hb : b < w.heap.size) (hne : b ≠ p) : w'.frozen? ⟨b, o, none⟩ = w.frozen? ⟨b, o, none⟩ := by
  simp only [World.frozen?, hg.block b hb (by simp; omega)]
theorem cell_lt {w : World} {b o : Nat} {u : Value} (h : w.cell? ⟨b, o, none⟩ = some u) : b < w.heap.size := World.block_lt_of_cell? w ⟨b, o, none⟩ h
/-- The queue's block at another world, its items known from ahead of the call. -/
theorem QAt.from {w w8 w9 : World} {p lo m m0 : Nat} {ks ks0 : List It} (h8 : QAt w8 p lo ks m) (hp : w9.heap[p]? = w8.heap[p]?) (h0 : QAt w p lo ks0 m0) (hsub : ∀ q ∈ ks, q ∈ ks0) (hg : w.grownBy w9 (some p)) : QAt w9 p lo ks m := by
  have hc : ∀ j, w9.cell? ⟨p, j, none⟩ = w8.cell? ⟨p, j, none⟩ := fun j => by simp only [World.cell?, hp]
  have hf : ∀ j, w9.frozen? ⟨p, j, none⟩ = w8.frozen? ⟨p, j, none⟩ := fun j => by simp only [World.frozen?, hp]
  exact ⟨fun j u hu => (hc j).trans (h8.cells j u hu), (hc 64).trans h8.num, fun j hj => ⟨by rw [hc]; exact (h8.room j hj).1, by rw [hf]; exact (h8.room j hj).2⟩, h0.plo, Nat.lt_of_lt_of_le h0.lt hg.size, h8.le, fun q hq => ⟨(h0.items q (hsub q hq)).1.grown hg h0.plo, (h0.items q (hsub q hq)).2⟩⟩
theorem grown_new {a w : World} {p g : Nat} (h : a.grownBy w (some p)) (hg : a.heap.size ≤ g) (o : Nat) (u : Value) : a.grownBy (w.setCell ⟨g, o, none⟩ u) (some p) :=
  ⟨h.os, h.tape, h.output, by simpa [World.setCell] using h.size, fun k hk hne => (Below.heap_setCell _ _ _ _ (fun e => by simp at e; omega)).trans (h.block k hk hne)⟩
set_option maxRecDepth 100000 in
theorem pop_none {w : World} {p lo : Nat} (h : QIn w p lo []) :
    Calls Try.prog 10 #[.pointer (some ⟨p, 0, none⟩)] w fun e w' => e = .returned (.tuple #[.agg #[.int .i64 0, .slice none 0 0], .bool false]) ∧ Below w.heap.size w w' := by
  have hb : Below w.heap.size w (w.alloc (.cells #[.int .i64 0, .slice none 0 0] 24)) := (Below.refl _ _).alloc (Nat.le_refl _) _
  have HF := Lib.hid (first_none (h.below hb))
  have HB := Lib.hid hb
  have hp := h.lt
  clear h hb
  go_enter Try.func10, Try.ntmps10
  go_wp2_with fail
  go_at_call 11
  refine HF.out.mono ?_
  rintro e w5 ⟨rfl, hb5⟩
  have d0 : w5.cell? ⟨w.heap.size, 0, none⟩ = some (.int .i64 0) := (hb5.cell (p := ⟨w.heap.size, 0, none⟩) (by simp)).trans (by simp)
  have d1 : w5.cell? ⟨w.heap.size, 1, none⟩ = some (.slice none 0 0) := (hb5.cell (p := ⟨w.heap.size, 1, none⟩) (by simp)).trans (by simp)
  have e0 : w5.frozen? ⟨w.heap.size, 0, none⟩ = false := (hb5.frozen (p := ⟨w.heap.size, 0, none⟩) (by simp)).trans (by simp)
  have e1 : w5.frozen? ⟨w.heap.size, 1, none⟩ = false := (hb5.frozen (p := ⟨w.heap.size, 1, none⟩) (by simp)).trans (by simp)
  have hsz : w.heap.size < w5.heap.size := Nat.lt_of_lt_of_le (by simp) hb5.size
  have hne5 : w.heap.size ≠ w5.heap.size := by omega
  have HB5 := Lib.hid hb5
  clear hb5
  go_wp2_with fail
  refine ret_it2 (g := w.heap.size) (k := 0) (A := none) (n := 0) (c := 0) rfl rfl rfl ?_ ?_ ⟨rfl, ?_⟩
  · exact Lib.cell?_alloc_some _ ((World.cell?_setCell_other _ _ _ _ (by simp)).trans (World.cell?_setCell_same _ _ _ d0))
  · exact Lib.cell?_alloc_some _ (World.cell?_setCell_same _ _ _ ((World.cell?_setCell_other _ _ _ _ (by simp)).trans d1))
  · exact (((HB.out.trans (HB5.out.mono (by simp))).setCell (p := ⟨w.heap.size, 0, none⟩) (Nat.le_refl _) _).setCell (p := ⟨w.heap.size, 1, none⟩) (Nat.le_refl _) _).alloc (by simp [World.setCell]; omega) _

set_option maxRecDepth 100000 in
set_option maxHeartbeats 4000000 in
theorem pop_some {w : World} {p lo : Nat} {q : It} {ks : List It} (h0 : QIn w p lo (q :: ks)) :
    Calls Try.prog 10 #[.pointer (some ⟨p, 0, none⟩)] w fun e w' => ∃ q', e = .returned (.tuple #[.agg #[.int .i64 q'.k, .slice q'.A q'.n q'.c], .bool true]) ∧ dat q' = dat q ∧ ItOk w' w.heap.size q' ∧ QIn w' p lo ks ∧ w.grownBy w' (some p) := by
  have hb : Below w.heap.size w (w.alloc (.cells #[.int .i64 0, .slice none 0 0] 24)) := (Below.refl _ _).alloc (Nat.le_refl _) _
  have HF := Lib.hid (first_some (h0.below hb))
  have HB := Lib.hid hb
  have HQ := Lib.hid h0
  have hp := h0.lt
  obtain ⟨n, hn⟩ : ∃ n, ks.length = n := ⟨_, rfl⟩
  have hle : n + 1 ≤ 32 := by rw [← hn]; exact h0.le
  have hleI : (n : Int) + 1 ≤ 32 := by omega
  have hgeI : (0 : Int) ≤ (n : Int) + 1 := by omega
  clear h0 hb
  go_enter Try.func10, Try.ntmps10
  go_wp2_with fail
  go_at_call 11
  refine HF.out.mono ?_
  rintro e w5 ⟨⟨k5, A5, n5, c5, bs5⟩, rfl, hd5, hi5, hb5⟩
  have HD5 := Lib.hid hd5
  have HI5 := Lib.hid hi5
  clear hd5 hi5
  have d0 : w5.cell? ⟨w.heap.size, 0, none⟩ = some (.int .i64 0) := (hb5.cell (p := ⟨w.heap.size, 0, none⟩) (by simp)).trans (by simp)
  have d1 : w5.cell? ⟨w.heap.size, 1, none⟩ = some (.slice none 0 0) := (hb5.cell (p := ⟨w.heap.size, 1, none⟩) (by simp)).trans (by simp)
  have e0 : w5.frozen? ⟨w.heap.size, 0, none⟩ = false := (hb5.frozen (p := ⟨w.heap.size, 0, none⟩) (by simp)).trans (by simp)
  have e1 : w5.frozen? ⟨w.heap.size, 1, none⟩ = false := (hb5.frozen (p := ⟨w.heap.size, 1, none⟩) (by simp)).trans (by simp)
  have hsz : w.heap.size < w5.heap.size := Nat.lt_of_lt_of_le (by simp) hb5.size
  have hne5 : w.heap.size ≠ w5.heap.size := by omega
  have HB5 := Lib.hid hb5
  clear hb5
  have hpn : p ≠ w5.heap.size := by omega
  obtain ⟨g, hg⟩ : ∃ g, w.heap.size = g := ⟨_, rfl⟩
  obtain ⟨h, hh⟩ : ∃ h, w5.heap.size = h := ⟨_, rfl⟩
  have HQ7 : Hid (∀ W, Below h w5 W → QAt W p lo (q :: ks) (n + 1)) := fun W hW => by
    have := (HQ.out.below (HB.out.trans (HB5.out.mono (by simp)))).below (w' := W) (by rw [hh]; exact hW)
    unfold QIn at this
    rw [List.length_cons, hn] at this
    exact this
  go_wp2_with fail
  obtain ⟨w7, hw7⟩ : ∃ x, w5.alloc (.cells #[.int .i64 k5, .slice A5 n5 c5] 24) = x := ⟨_, rfl⟩
  have hB57 : Below h w5 w7 := by rw [← hw7]; exact (Below.refl _ _).alloc (by omega) _
  have HB7 : Hid (Below g w w7) := by rw [← hg]; exact (HB.out.trans (HB5.out.mono (by simp))).trans (hB57.mono (by omega))
  have X0 : Hid (w7.cell? ⟨h, 0, none⟩ = some (.int .i64 k5)) := by show _ = _; rw [← hw7, ← hh]; simp
  have X1 : Hid (w7.cell? ⟨h, 1, none⟩ = some (.slice A5 n5 c5)) := by show _ = _; rw [← hw7, ← hh]; simp
  have Y0 : Hid (w7.cell? ⟨g, 0, none⟩ = some (.int .i64 0)) := by show _ = _; rw [← hg]; exact (hB57.cell (p := ⟨w.heap.size, 0, none⟩) (by simp; omega)).trans d0
  have Y1 : Hid (w7.cell? ⟨g, 1, none⟩ = some (.slice none 0 0)) := by show _ = _; rw [← hg]; exact (hB57.cell (p := ⟨w.heap.size, 1, none⟩) (by simp; omega)).trans d1
  have Z0 : Hid (w7.frozen? ⟨g, 0, none⟩ = false) := by show _ = _; rw [← hg]; exact (hB57.frozen (p := ⟨w.heap.size, 0, none⟩) (by simp; omega)).trans e0
  have Z1 : Hid (w7.frozen? ⟨g, 1, none⟩ = false) := by show _ = _; rw [← hg]; exact (hB57.frozen (p := ⟨w.heap.size, 1, none⟩) (by simp; omega)).trans e1
  have HI7 : Hid (ItOk w7 (g + 1) ⟨k5, A5, n5, c5, bs5⟩) := by
    have := HI5.out.below (w' := w7) (by rw [hh]; exact hB57)
    simp only [World.size_alloc, hg] at this
    exact this
  have hq7 := HQ7.out w7 hB57
  have hpg : p < g := by omega
  have hgh : g < h := by omega
  have hpg1 : p ≠ g := by omega
  have hph1 : p ≠ h := by omega
  have hgp1 : g ≠ p := by omega
  have hhp1 : h ≠ p := by omega
  have hhg1 : h ≠ g := by omega
  have hgh1 : g ≠ h := by omega
  have c64 : w7.cell? ⟨p, 64, none⟩ = some (.int .i64 ((n : Int) + 1)) := hq7.num
  have HDEL := Lib.hid (delete_any (hq7.below (Below.refl _ _).drew))
  rw [hn] at HDEL
  rw [hw7]
  clear hq7 hB57 hw7 d0 d1 e0 e1 hpn hsz hne5 HQ7 HI5 HB5 HB HF
  refine wp_region_held_drew (S := (fun _ => True)) (by kernel_rfl) ?_ (fun hHeld => ?_)
  · exact trivial
  refine wpAnyH_take (i := 0) (v := ?_) rfl (by kernel_rfl) (by kernel_rfl) (by kernel_rfl) (fun _ _ _ h => h) (Or.inl ⟨by rfl, ?_⟩) (by assumption) ?_
  rotate_left
  · intro w hSw; (try dsimp only at hSw); go_simp; try with_reducible rfl
  go_simp
  refine wpAnyH_take (i := 1) (v := ?_) rfl (by kernel_rfl) (by kernel_rfl) (by kernel_rfl) (fun _ _ _ h => h) (Or.inl ⟨by rfl, ?_⟩) (by assumption) ?_
  rotate_left
  · intro w hSw; (try dsimp only at hSw); go_simp; try with_reducible rfl
  go_simp
  refine wpAnyH_take (i := 2) (v := ?_) rfl (by kernel_rfl) (by kernel_rfl) (by kernel_rfl) (fun _ _ _ h => h) (Or.inl ⟨by rfl, ?_⟩) (by assumption) ?_
  rotate_left
  · intro w hSw; (try dsimp only at hSw); go_simp; try with_reducible rfl
  go_simp
  refine wpAnyH_take (i := 3) (v := ?_) rfl (by kernel_rfl) (by kernel_rfl) (by kernel_rfl) (fun _ _ _ h => h) (Or.inl ⟨by rfl, ?_⟩) (by assumption) ?_
  rotate_left
  · intro w hSw; (try dsimp only at hSw); go_simp; try with_reducible rfl
  go_simp
  refine wpAnyH_take (i := 4) (v := ?_) rfl (by kernel_rfl) (by kernel_rfl) (by kernel_rfl) (fun _ _ _ h => h) (Or.inl ⟨by rfl, ?_⟩) (by assumption) ?_
  rotate_left
  · intro w hSw; (try dsimp only at hSw); go_simp; try with_reducible rfl
  go_simp
  refine wpAnyH_take (i := 5) (v := ?_) rfl (by kernel_rfl) (by kernel_rfl) (by kernel_rfl) (fun _ _ _ h => h) (Or.inl ⟨by rfl, ?_⟩) (by assumption) ?_
  rotate_left
  · intro w hSw; (try dsimp only at hSw); go_simp; try with_reducible rfl
  go_simp
  refine wpAnyH_take (i := 6) (v := ?_) rfl (by kernel_rfl) (by kernel_rfl) (by kernel_rfl) (fun _ _ _ h => h) (Or.inl ⟨by rfl, ?_⟩) (by assumption) ?_
  rotate_left
  · intro w hSw; (try dsimp only at hSw); go_simp; try with_reducible rfl
  go_simp
  refine wpAnyH_ready (rs := [7]) (by kernel_rfl) (by simp) ?_
  refine AllReadyH.cons rfl (fun K hK => ?_) AllReadyH.nil
  go_simp
  refine hK.out _ _ ?_ (fun hHeld => ?_)
  · exact trivial
  clear hK K
  go_simp
  refine wpAnyH_take (i := 8) (v := ?_) rfl (by kernel_rfl) (by kernel_rfl) (by kernel_rfl) (fun _ _ _ h => h) (Or.inl ⟨by rfl, ?_⟩) (by assumption) ?_
  rotate_left
  · intro w hSw; (try dsimp only at hSw); go_simp; try with_reducible rfl
  go_simp
  refine wpAnyH_ready (rs := [9]) (by kernel_rfl) (by simp) ?_
  refine AllReadyH.cons rfl (fun K hK => ?_) AllReadyH.nil
  go_simp
  refine HDEL.out.mono ?_
  rintro e w8 ⟨rfl, hq8, hg8⟩
  have n8 := hq8.num
  have f8 := (hq8.room 64 (by omega)).2
  have x0 : w8.cell? ⟨h, 0, none⟩ = some (.int .i64 k5) := hg8.cell X0.out (by simp; omega)
  have x1 : w8.cell? ⟨h, 1, none⟩ = some (.slice A5 n5 c5) := hg8.cell X1.out (by simp; omega)
  have y0 : w8.cell? ⟨g, 0, none⟩ = some (.int .i64 0) := hg8.cell Y0.out (by simp; omega)
  have y1 : w8.cell? ⟨g, 1, none⟩ = some (.slice none 0 0) := hg8.cell Y1.out (by simp; omega)
  have z0 : w8.frozen? ⟨g, 0, none⟩ = false := (frozen_grown hg8 _ (cell_lt Y0.out) (by omega)).trans Z0.out
  have z1 : w8.frozen? ⟨g, 1, none⟩ = false := (frozen_grown hg8 _ (cell_lt Y1.out) (by omega)).trans Z1.out
  have HQ8 := Lib.hid hq8
  have HG8 := Lib.hid hg8
  clear hq8 hg8
  refine hK.out _ _ ?_ (fun hHeld => ?_)
  · exact trivial
  clear hK K
  go_simp
  refine wpAnyH_take (i := 10) (v := ?_) rfl (by kernel_rfl) (by kernel_rfl) (by kernel_rfl) (fun _ _ _ h => h) (Or.inl ⟨by rfl, ?_⟩) (by assumption) ?_
  rotate_left
  · intro w hSw; (try dsimp only at hSw); go_simp; try with_reducible rfl
  go_simp
  refine wpAnyH_take (i := 11) (v := ?_) rfl (by kernel_rfl) (by kernel_rfl) (by kernel_rfl) (fun _ _ _ h => h) (Or.inl ⟨by rfl, ?_⟩) (by assumption) ?_
  rotate_left
  · intro w hSw; (try dsimp only at hSw); go_simp; try with_reducible rfl
  go_simp
  refine wpAnyH_take (i := 12) (v := ?_) rfl (by kernel_rfl) (by kernel_rfl) (by kernel_rfl) (fun _ _ _ h => h) (Or.inl ⟨by rfl, ?_⟩) (by assumption) ?_
  rotate_left
  · intro w hSw; (try dsimp only at hSw); go_simp; try with_reducible rfl
  go_simp
  refine wpAnyH_ready (rs := [13]) (by kernel_rfl) (by simp) ?_
  refine AllReadyH.cons rfl (fun K hK => ?_) AllReadyH.nil
  go_simp
  refine hK.out _ _ ?_ (fun hHeld => ?_)
  · exact trivial
  clear hK K
  go_simp
  refine wpAnyH_done (by kernel_rfl) ?_ _
  go_wp2_with fail
  have hq9 := HQ8.out.say n
  have hg9 : w.grownBy (w8.setCell ⟨p, 64, none⟩ (.int .i64 (n : Int))) (some p) := grown_set (grown_trans (grown_drew (grown_of_below p (by rw [hg]; exact HB7.out))) HG8.out) 64 _
  have hg11 : w.grownBy (((w8.setCell ⟨p, 64, none⟩ (.int .i64 (n : Int))).setCell ⟨g, 0, none⟩ (.int .i64 k5)).setCell ⟨g, 1, none⟩ (.slice A5 n5 c5)) (some p) := grown_new (grown_new hg9 (by omega) _ _) (by omega) _ _
  have hne : ∀ (v : Value) (j : Nat) (W : World) (b : Nat), b ≠ g → (W.setCell ⟨g, j, none⟩ v).heap[b]? = W.heap[b]? := fun v j W b hb => Below.heap_setCell _ _ _ _ (fun e => hb e)
  have hqf : QIn (((w8.setCell ⟨p, 64, none⟩ (.int .i64 (n : Int))).setCell ⟨g, 0, none⟩ (.int .i64 k5)).setCell ⟨g, 1, none⟩ (.slice A5 n5 c5)) p lo ks := by
    unfold QIn
    rw [hn]
    exact hq9.from ((hne _ _ _ _ hpg1).trans (hne _ _ _ _ hpg1)) HQ.out (fun x hx => List.mem_cons_of_mem _ hx) hg11
  have y2 : (w8.setCell ⟨p, 64, none⟩ (.int .i64 (n : Int))).cell? ⟨g, 0, none⟩ = some (.int .i64 0) := (World.cell?_setCell_other _ _ _ _ (by simp <;> omega)).trans y0
  have y3 : (w8.setCell ⟨p, 64, none⟩ (.int .i64 (n : Int))).cell? ⟨g, 1, none⟩ = some (.slice none 0 0) := (World.cell?_setCell_other _ _ _ _ (by simp <;> omega)).trans y1
  refine ret_it2 (g := g) (k := k5) (A := A5) (n := n5) (c := c5) rfl rfl rfl ?_ ?_ ⟨⟨k5, A5, n5, c5, bs5⟩, rfl, HD5.out, ?_, hqf, hg11⟩
  · exact (World.cell?_setCell_other _ _ _ _ (by simp)).trans (World.cell?_setCell_same _ _ _ y2)
  · exact World.cell?_setCell_same _ _ _ ((World.cell?_setCell_other _ _ _ _ (by simp)).trans y3)
  · have h8 : ItOk w8 (g + 1) ⟨k5, A5, n5, c5, bs5⟩ := (HI7.out.below (Below.refl _ _).drew).grown HG8.out (by omega)
    refine (h8.same (by simp [World.setCell]) fun b h1 h2 => ?_).less (by omega)
    exact (hne _ _ _ _ (by omega)).trans ((hne _ _ _ _ (by omega)).trans (Below.heap_setCell _ _ _ _ (fun e => by simp at e; omega)))
end Go.Proofs.Ytlaopkkfgkcejaa.Qu
