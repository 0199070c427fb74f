/- The reference's Lose: a contract. Conditions: as each theorem lists them. -/
import Derived.Test.YtebfjphmlggacaaGreatJXb
import Derived.Laws.Rows
set_option linter.unusedSimpArgs false
set_option linter.unusedVariables false

namespace Go.Proofs.YtebfjphmlggacaaGreat.Xr
open Go Go.RowKit Go.Proofs.YtebfjphmlggacaaGreat Go.Proofs.YtebfjphmlggacaaGreat.Sp Go.Proofs.YtebfjphmlggacaaGreat.Ld Go.Proofs.YtebfjphmlggacaaGreat.Pa

theorem infoB1 : (Tryz.prog.info? 4).map (fun i => (i.zero, i.size, i.bytes)) = some (some (.bool false), 1, 1) := by kernel_rfl
/-- Which ones go, as far as they were looked at. -/
def goneL (ks : List Pk) (f : Pk → Bool) (j : Nat) : List Bool := (ks.take j).map f ++ List.replicate (ks.length - j) false
theorem goneL_len (ks : List Pk) (f : Pk → Bool) (j : Nat) (h : j ≤ ks.length) : (goneL ks f j).length = ks.length := by
  unfold goneL
  rw [List.length_append, List.length_map, List.length_take, List.length_replicate]
  omega
theorem goneL_set (ks : List Pk) (f : Pk → Bool) (j : Nat) (k : Pk) (h : ks[j]? = some k) : (goneL ks f j).set j (f k) = goneL ks f (j + 1) := by
  have hj : j < ks.length := (List.getElem?_eq_some_iff.1 h).1
  have hl : ((ks.take j).map f).length = j := by rw [List.length_map, List.length_take]; omega
  unfold goneL
  rw [List.set_append_right _ _ (by omega), hl, Nat.sub_self, take_one ks j k h, List.map_append, List.append_assoc]
  congr 1
  obtain ⟨m, hm⟩ : ∃ m, ks.length - j = m + 1 := ⟨ks.length - j - 1, by omega⟩
  rw [hm, show ks.length - (j + 1) = m by omega]
  rfl
theorem goneL_all (ks : List Pk) (f : Pk → Bool) : goneL ks f ks.length = ks.map f := by
  unfold goneL
  rw [List.take_length, Nat.sub_self]
  simp
/-- Behind j packets: the list of those that go, in block g. -/
structure LoseI (w wr : World) (g : Nat) (ks : List Pk) (f : Pk → Bool) (j : Nat) : Prop where
  hp : wr.heap[g]? = some (.cells ((goneL ks f j).map Value.bool).toArray 4 (0, 0))
  new : w.heap.size ≤ g
  be : Below w.heap.size w wr
theorem LoseI.keep {w wr w' : World} {g : Nat} {ks : List Pk} {f : Pk → Bool} {j : Nat} (h : LoseI w wr g ks f j) (hb : Below wr.heap.size wr w') : LoseI w w' g ks f j :=
  ⟨(hb.block g (lt_of_block h.hp)).trans h.hp, h.new, h.be.trans (hb.mono h.be.size)⟩
theorem LoseI.put {w wr : World} {g : Nat} {ks : List Pk} {f : Pk → Bool} {j : Nat} {k : Pk} (h : LoseI w wr g ks f j) (_ : j < ks.length) (hk : ks[j]? = some k) (b : Bool) (hb : f k = b) : LoseI w (wr.setCell ⟨g, j, none⟩ (.bool b)) g ks f (j + 1) := by
  refine ⟨?_, h.new, h.be.setCell h.new _⟩
  rw [set_slot h.hp, ← goneL_set ks f j k hk, hb, List.map_set]
  simp

set_option maxRecDepth 100000 in
set_option maxHeartbeats 8000000 in
theorem rlose_any {w : World} {lo p o : Nat} {T : TypeId} {cur : Array Value} {ks : List Pk} {next acked : Nat} (h : RLed w lo p o T cur ks next acked) (hn : ks.length ≤ 1099511627776) (hac : acked ≤ 1099511627776) (hnum : ∀ k ∈ ks, k.num ≤ 1099511627776) (n l : Int) (hnl : -4611686018427387904 ≤ n ∧ n ≤ 4611686018427387904) (hll : 0 ≤ l ∧ l ≤ 1099511627776) :
    Calls Tryz.prog 43 #[.pointer (some ⟨p, o, none⟩), .int .i64 n, .int .i64 l] w fun e w' => ∃ A c cur', e = .returned (.slice A (ks.filter (selB 0 ((acked : Int) - 1) (oldB acked n l))).length c) ∧ (ks.filter (selB 0 ((acked : Int) - 1) (oldB acked n l))).length ≤ c ∧ w'.ownsRow w.heap.size 75 4 (.slice A (ks.filter (selB 0 ((acked : Int) - 1) (oldB acked n l))).length c) (ks.filter (selB 0 ((acked : Int) - 1) (oldB acked n l))).length (pks (ks.filter (selB 0 ((acked : Int) - 1) (oldB acked n l)))) ∧ RLed w' lo p o T cur' (ks.filter fun k => !selB 0 ((acked : Int) - 1) (oldB acked n l) k) next acked ∧ Same3 o cur cur' ∧ w.grownBy w' (some p) := by
  obtain ⟨f, hf⟩ : ∃ x, selB 0 ((acked : Int) - 1) (oldB acked n l) = x := ⟨_, rfl⟩
  have HSEL : Hid (∀ k : Pk, f k = (decide ((k.num : Int) < (acked : Int) - 1) && (decide ((3 : Int) ≤ (acked : Int) - 1 - (k.num : Int)) || decide (k.at' ≤ n - l)))) := fun k => by
    rw [← hf]
    unfold selB oldB
    rw [decide_eq_true (Nat.zero_le _), Bool.true_and]
    congr 2
    rw [Bool.eq_iff_iff]
    simp
    omega
  rw [hf]
  clear hf
  obtain ⟨i0, hi, hz0, hz1, hz2⟩ := info_parts infoB1
  have hmk := fun W => run_make (P := Tryz.prog) W 104 4 i0 (.bool false) Tryz.underlying104 hi hz0 .i64 .i64 (ks.length : Int) (ks.length : Int) (by omega) (by omega) (by rw [hz2]; omega) (by omega)
  simp only [hz1, Int.toNat_natCast] at hmk
  have H := Lib.hid h
  have HNM := Lib.hid hnum
  have hnI : (ks.length : Int) ≤ 1099511627776 := by omega
  have hacI : (acked : Int) ≤ 1099511627776 := by omega
  obtain ⟨hn1, hn2⟩ := hnl
  obtain ⟨hl1, hl2⟩ := hll
  obtain ⟨A0, c0, hA, hO, hlc⟩ := h.row
  have hc0 := cell_slot h.hp hA
  have hlcI : (ks.length : Int) ≤ (c0 : Int) := by omega
  have HRW := Lib.hid (And.intro hA hO)
  clear h hnum hi hz0 hz1 hz2 hA hO
  go_enter Tryz.func43, Tryz.ntmps43
  go_upto_region 2 with (fail)
  clear hmk
  obtain ⟨g, hg⟩ : ∃ x, w.heap.size = x := ⟨_, rfl⟩
  obtain ⟨w1, hw1⟩ : ∃ x, w.alloc (.cells (madeCells #[.bool false] ks.length) 4) = x := ⟨_, rfl⟩
  have HS1 : Hid (LoseI w w1 g ks f 0) := by
    refine ⟨?_, Nat.le_of_eq hg, hw1 ▸ (Below.refl _ _).alloc (Nat.le_refl _) _⟩
    have e : (madeCells #[Value.bool false] ks.length) = ((goneL ks f 0).map Value.bool).toArray := by
      rw [← Array.toList_inj, toList_madeCells_one]
      simp [goneL]
    rw [← hw1, ← hg, ← e]
    exact heap_alloc_new _ _
  rw [hw1, hg]
  have HPG : Hid (p < g) := by have := H.out.lt.2; show p < g; omega
  have HGW := Lib.hid hg
  clear hw1 hc0 hg
  go_wp2_with fail
  go_loopw [8] (fun i wr => ∃ j : Nat, j ≤ ks.length ∧ i = .int .i64 (j : Int) ∧ Hid (LoseI w wr g ks f j)) (fun i _ => ks.length - (intOf i).toNat)
  case atStart => exact ⟨0, Nat.zero_le _, rfl, HS1.out⟩
  case round =>
    clear HS1
    obtain ⟨j, hj, rfl, HK⟩ := hrel
    have HW := Lib.hid (H.out.keep HK.out.be)
    have hc0 : wr.cell? ⟨p, o, none⟩ = some (.slice A0 ks.length c0) := (HK.out.be.cell (p := ⟨p, o, none⟩) H.out.lt.2).trans (cell_slot H.out.hp HRW.out.1)
    by_cases hlt : j < ks.length
    · have hltI : (j : Int) < (ks.length : Int) := by omega
      obtain ⟨k, hk⟩ : ∃ k, ks[j]? = some k := ⟨_, List.getElem?_eq_getElem hlt⟩
      obtain ⟨b, off, hA2, hbl, d0, d1, d2, d3⟩ := pk_cells (Rd.of_own HRW.out.2) rfl j k hk
      subst hA2
      have e := fun i => HK.out.be.cell (p := ⟨b, off + j * 4 + i, none⟩) hbl
      have d0 : wr.cell? ⟨b, off + j * 4, none⟩ = _ := (e 0).trans d0
      have d1 := (e 1).trans d1
      have d2 := (e 2).trans d2
      have d3 := (e 3).trans d3
      have hknum := HNM.out k (List.mem_of_getElem? hk)
      have HK1 := Lib.hid hk
      have HFKV := HSEL.out k
      obtain ⟨q, hq⟩ : ∃ x, wr.heap.size = x := ⟨_, rfl⟩
      obtain ⟨w2, hw2⟩ : ∃ x, wr.alloc (.cells #[.int .i64 (k.num : Int), .int .i64 k.at', .bool k.el, .slice k.fa k.fn k.fc] 75) = x := ⟨_, rfl⟩
      have hb2 : Below wr.heap.size wr w2 := hw2 ▸ (Below.refl _ _).alloc (Nat.le_refl _) _
      have hqc : w2.heap[q]? = some (.cells #[.int .i64 (k.num : Int), .int .i64 k.at', .bool k.el, .slice k.fa k.fn k.fc] 75 (0, 0)) := by rw [← hw2, ← hq]; exact heap_alloc_new _ _
      have cq0 := cell_slot hqc (o := 0) rfl
      have cq1 := cell_slot hqc (o := 1) rfl
      have HS2 := Lib.hid (HK.out.keep hb2)
      have cac : w2.cell? ⟨p, o + 2, none⟩ = some (.int .i64 (acked : Int)) := (HW.out.keep hb2).cell.2.1
      have hfz : w2.frozen? ⟨g, j, none⟩ = false := free_slot HS2.out.hp
      have HQG : Hid (q ≠ g) := by have := lt_of_block HK.out.hp; show q ≠ g; omega
      go_upto_region 6 with (fail)
      clear hw2 hq hb2 hqc d0 d1 d2 d3 e HW hc0 HK hk
      obtain ⟨knum, hkn⟩ : ∃ x : Int, (k.num : Int) = x := ⟨_, rfl⟩
      obtain ⟨kat, hka⟩ : ∃ x : Int, k.at' = x := ⟨_, rfl⟩
      rw [hkn] at cq0 HFKV
      rw [hka] at cq1 HFKV
      have hkn0 : 0 ≤ knum := by omega
      have hkn1 : knum ≤ 1099511627776 := by omega
      obtain ⟨a1, ha1⟩ : ∃ x : Int, (acked : Int) - 1 = x := ⟨_, rfl⟩
      obtain ⟨y, hy⟩ : ∃ x : Int, a1 - knum = x := ⟨_, rfl⟩
      obtain ⟨z, hz⟩ : ∃ x : Int, n - l = x := ⟨_, rfl⟩
      rw [ha1, hy, hz] at HFKV
      have hwr1 : IntKind.i64.wrap ((acked : Int) - 1) = a1 := by rw [ha1]; exact IntWalk.i64_in _ (by omega)
      have hwr2 : IntKind.i64.wrap (a1 - knum) = y := by rw [hy]; exact IntWalk.i64_in _ (by omega)
      have hwr3 : IntKind.i64.wrap (n - l) = z := by rw [hz]; exact IntWalk.i64_in _ (by omega)
      clear ha1 hy hz
      clear hkn hka
      by_cases h1 : knum < a1
      · by_cases h2 : 3 ≤ y
        · have HFK : Hid (f k = true) := by show _ = _; rw [HFKV, decide_eq_true h1, decide_eq_true h2]; rfl
          clear HFKV
          have HCS : Hid (w2.drew.cell? ⟨q, 0, none⟩ = some (.int .i64 knum) ∧ w2.drew.cell? ⟨q, 1, none⟩ = some (.int .i64 kat) ∧ w2.drew.cell? ⟨p, o + 2, none⟩ = some (.int .i64 (acked : Int))) := ⟨cq0, cq1, cac⟩
          have HCT : Hid ((w2.drew.setCell ⟨g, j, none⟩ (.bool true)).cell? ⟨q, 0, none⟩ = some (.int .i64 knum) ∧ (w2.drew.setCell ⟨g, j, none⟩ (.bool true)).cell? ⟨q, 1, none⟩ = some (.int .i64 kat) ∧ (w2.drew.setCell ⟨g, j, none⟩ (.bool true)).cell? ⟨p, o + 2, none⟩ = some (.int .i64 (acked : Int))) := by
            have n1 : q ≠ g := HQG.out
            have n2 : p ≠ g := by have := HPG.out; omega
            have e : ∀ (x i : Nat), x ≠ g → (w2.drew.setCell ⟨g, j, none⟩ (.bool true)).cell? ⟨x, i, none⟩ = w2.drew.cell? ⟨x, i, none⟩ := fun x i hx => World.cell?_of_block (w := w2.drew) (Below.heap_setCell _ _ _ _ hx)
            rw [e q 0 n1, e q 1 n1, e p (o + 2) n2]
            exact HCS.out
          have hfz' : w2.drew.frozen? ⟨g, j, none⟩ = false := hfz
          obtain ⟨v0, hv0⟩ : ∃ v0 : Value, w2.drew.cell? ⟨g, j, none⟩ = some v0 := ⟨.bool ((goneL ks f j)[j]'(by rw [goneL_len _ _ _ hj]; exact hlt)), cell_slot HS2.out.hp (by simp [goneL_len _ _ _ hj, hlt])⟩
          clear cq0 cq1 cac hfz
          refine wp_region_held_drew (S := (fun W : World => W.cell? ⟨q, 0, none⟩ = some (.int .i64 knum) ∧ W.cell? ⟨q, 1, none⟩ = some (.int .i64 kat) ∧ W.cell? ⟨p, o + 2, none⟩ = some (.int .i64 (acked : Int)))) (by kernel_rfl) ?_ (fun hHeld => ?_)
          · exact HCS.out
          refine wpAnyH_take (i := 0) (v := ?_) rfl (by kernel_rfl) (by kernel_rfl) (by kernel_rfl) (fun _ _ _ h => h) (Or.inl ⟨by rfl, ?_⟩) (by assumption) ?_
          rotate_left
          · intro w hSw; (try dsimp only at hSw); go_simp; try with_reducible rfl
          go_simp
          refine wpAnyH_take (i := 1) (v := ?_) rfl (by kernel_rfl) (by kernel_rfl) (by kernel_rfl) (fun _ _ _ h => h) (Or.inl ⟨by rfl, ?_⟩) (by assumption) ?_
          rotate_left
          · intro w hSw; (try dsimp only at hSw); go_simp; try with_reducible rfl
          go_simp
          refine wpAnyH_take (i := 2) (v := ?_) rfl (by kernel_rfl) (by kernel_rfl) (by kernel_rfl) (fun _ _ _ h => h) (Or.inl ⟨by rfl, ?_⟩) (by assumption) ?_
          rotate_left
          · intro w hSw; (try dsimp only at hSw); go_simp; try with_reducible rfl
          go_simp
          refine wpAnyH_take (i := 3) (v := ?_) rfl (by kernel_rfl) (by kernel_rfl) (by kernel_rfl) (fun _ _ _ h => h) (Or.inl ⟨by rfl, ?_⟩) (by assumption) ?_
          rotate_left
          · intro w hSw; (try dsimp only at hSw); go_simp; try with_reducible rfl
          go_simp
          refine wpAnyH_take (i := 4) (v := ?_) rfl (by kernel_rfl) (by kernel_rfl) (by kernel_rfl) (fun _ _ _ h => h) (Or.inl ⟨by rfl, ?_⟩) (by assumption) ?_
          rotate_left
          · intro w hSw; (try dsimp only at hSw); go_simp; try with_reducible rfl
          go_simp
          refine wpAnyH_take (i := 5) (v := ?_) rfl (by kernel_rfl) (by kernel_rfl) (by kernel_rfl) (fun _ _ _ h => h) (Or.inl ⟨by rfl, ?_⟩) (by assumption) ?_
          rotate_left
          · intro w hSw; (try dsimp only at hSw); go_simp; try with_reducible rfl
          go_simp
          refine wpAnyH_take (i := 6) (v := ?_) rfl (by kernel_rfl) (by kernel_rfl) (by kernel_rfl) (fun _ _ _ h => h) (Or.inl ⟨by rfl, ?_⟩) (by assumption) ?_
          rotate_left
          · intro w hSw; (try dsimp only at hSw); go_simp; try with_reducible rfl
          go_simp
          refine wpAnyH_take (i := 7) (v := ?_) rfl (by kernel_rfl) (by kernel_rfl) (by kernel_rfl) (fun _ _ _ h => h) (Or.inl ⟨by rfl, ?_⟩) (by assumption) ?_
          rotate_left
          · intro w hSw; (try dsimp only at hSw); go_simp; try with_reducible rfl
          go_simp
          refine wpAnyH_take (i := 8) (v := ?_) rfl (by kernel_rfl) (by kernel_rfl) (by kernel_rfl) (fun _ _ _ h => h) (Or.inl ⟨by rfl, ?_⟩) (by assumption) ?_
          rotate_left
          · intro w hSw; (try dsimp only at hSw); go_simp; try with_reducible rfl
          go_simp
          refine wpAnyH_take (i := 9) (v := ?_) rfl (by kernel_rfl) (by kernel_rfl) (by kernel_rfl) (fun _ _ _ h => h) (Or.inl ⟨by rfl, ?_⟩) (by assumption) ?_
          rotate_left
          · intro w hSw; (try dsimp only at hSw); go_simp; try with_reducible rfl
          go_simp
          refine wpAnyH_take (i := 10) (v := ?_) rfl (by kernel_rfl) (by kernel_rfl) (by kernel_rfl) (fun _ _ _ h => h) (Or.inl ⟨by rfl, ?_⟩) (by assumption) ?_
          rotate_left
          · intro w hSw; (try dsimp only at hSw); go_simp; try with_reducible rfl
          go_simp
          refine wpAnyH_take (i := 11) (v := ?_) rfl (by kernel_rfl) (by kernel_rfl) (by kernel_rfl) (fun _ _ _ h => h) (Or.inl ⟨by rfl, ?_⟩) (by assumption) ?_
          rotate_left
          · intro w hSw; (try dsimp only at hSw); go_simp; try with_reducible rfl
          go_simp
          refine wpAnyH_take (i := 12) (v := ?_) rfl (by kernel_rfl) (by kernel_rfl) (by kernel_rfl) (fun _ _ _ h => h) (Or.inl ⟨by rfl, ?_⟩) (by assumption) ?_
          rotate_left
          · intro w hSw; (try dsimp only at hSw); go_simp; try with_reducible rfl
          go_simp
          refine wpAnyH_take (i := 13) (v := ?_) rfl (by kernel_rfl) (by kernel_rfl) (by kernel_rfl) (fun _ _ _ h => h) (Or.inl ⟨by rfl, ?_⟩) (by assumption) ?_
          rotate_left
          · intro w hSw; (try dsimp only at hSw); go_simp; try with_reducible rfl
          go_simp
          refine wpAnyH_take (i := 14) (v := ?_) rfl (by kernel_rfl) (by kernel_rfl) (by kernel_rfl) (fun _ _ _ h => h) (Or.inl ⟨by rfl, ?_⟩) (by assumption) ?_
          rotate_left
          · intro w hSw; (try dsimp only at hSw); go_simp; try with_reducible rfl
          go_simp
          refine wpAnyH_take (i := 15) (v := ?_) rfl (by kernel_rfl) (by kernel_rfl) (by kernel_rfl) (fun _ _ _ h => h) (Or.inl ⟨by rfl, ?_⟩) (by assumption) ?_
          rotate_left
          · intro w hSw; (try dsimp only at hSw); go_simp; try with_reducible rfl
          go_simp
          refine wpAnyH_take (i := 16) (v := ?_) rfl (by kernel_rfl) (by kernel_rfl) (by kernel_rfl) (fun _ _ _ h => h) (Or.inl ⟨by rfl, ?_⟩) (by assumption) ?_
          rotate_left
          · intro w hSw; (try dsimp only at hSw); go_simp; try with_reducible rfl
          go_simp
          refine wpAnyH_take (i := 17) (v := ?_) rfl (by kernel_rfl) (by kernel_rfl) (by kernel_rfl) (fun _ _ _ h => h) (Or.inl ⟨by rfl, ?_⟩) (by assumption) ?_
          rotate_left
          · intro w hSw; (try dsimp only at hSw); go_simp; try with_reducible rfl
          go_simp
          refine wpAnyH_take (i := 18) (v := ?_) rfl (by kernel_rfl) (by kernel_rfl) (by kernel_rfl) (fun _ _ _ h => h) (Or.inl ⟨by rfl, ?_⟩) (by assumption) ?_
          rotate_left
          · intro w hSw; (try dsimp only at hSw); go_simp; try with_reducible rfl
          go_simp
          refine wpAnyH_take (i := 19) (v := ?_) rfl (by kernel_rfl) (by kernel_rfl) (by kernel_rfl) (fun _ _ _ h => h) (Or.inl ⟨by rfl, ?_⟩) (by assumption) ?_
          rotate_left
          · intro w hSw; (try dsimp only at hSw); go_simp; try with_reducible rfl
          go_simp
          refine wpAnyH_take (i := 20) (v := ?_) rfl (by kernel_rfl) (by kernel_rfl) (by kernel_rfl) (fun _ _ _ h => h) (Or.inl ⟨by rfl, ?_⟩) (by assumption) ?_
          rotate_left
          · intro w hSw; (try dsimp only at hSw); go_simp; try with_reducible rfl
          go_simp
          refine wpAnyH_take (i := 21) (v := undef) rfl (by kernel_rfl) (by kernel_rfl) (by kernel_rfl) (fun _ _ _ h => h) (Or.inr ⟨by rfl, rfl⟩) (by assumption) ?_
          go_simp
          refine wpAnyH_take (i := 22) (v := undef) rfl (by kernel_rfl) (by kernel_rfl) (by kernel_rfl) (fun _ _ _ h => h) (Or.inr ⟨by rfl, rfl⟩) (by assumption) ?_
          go_simp
          refine wpAnyH_take (i := 23) (v := undef) rfl (by kernel_rfl) (by kernel_rfl) (by kernel_rfl) (fun _ _ _ h => h) (Or.inr ⟨by rfl, rfl⟩) (by assumption) ?_
          go_simp
          refine wpAnyH_take (i := 24) (v := undef) rfl (by kernel_rfl) (by kernel_rfl) (by kernel_rfl) (fun _ _ _ h => h) (Or.inr ⟨by rfl, rfl⟩) (by assumption) ?_
          go_simp
          refine wpAnyH_take (i := 25) (v := undef) rfl (by kernel_rfl) (by kernel_rfl) (by kernel_rfl) (fun _ _ _ h => h) (Or.inr ⟨by rfl, rfl⟩) (by assumption) ?_
          go_simp
          refine wpAnyH_take (i := 26) (v := undef) rfl (by kernel_rfl) (by kernel_rfl) (by kernel_rfl) (fun _ _ _ h => h) (Or.inr ⟨by rfl, rfl⟩) (by assumption) ?_
          go_simp
          refine wpAnyH_take (i := 27) (v := ?_) rfl (by kernel_rfl) (by kernel_rfl) (by kernel_rfl) (fun _ _ _ h => h) (Or.inl ⟨by rfl, ?_⟩) (by assumption) ?_
          rotate_left
          · intro w hSw; (try dsimp only at hSw); go_simp; try with_reducible rfl
          go_simp
          refine wpAnyH_take (i := 28) (v := ?_) rfl (by kernel_rfl) (by kernel_rfl) (by kernel_rfl) (fun _ _ _ h => h) (Or.inl ⟨by rfl, ?_⟩) (by assumption) ?_
          rotate_left
          · intro w hSw; (try dsimp only at hSw); go_simp; try with_reducible rfl
          go_simp
          refine wpAnyH_take (i := 29) (v := ?_) rfl (by kernel_rfl) (by kernel_rfl) (by kernel_rfl) (fun _ _ _ h => h) (Or.inl ⟨by rfl, ?_⟩) (by assumption) ?_
          rotate_left
          · intro w hSw; (try dsimp only at hSw); go_simp; try with_reducible rfl
          go_simp
          refine wpAnyH_ready (rs := [30]) (by kernel_rfl) (by simp) ?_
          refine AllReadyH.cons rfl (fun K hK => ?_) AllReadyH.nil
          go_simp
          refine hK.out _ _ ?_ (fun hHeld => ?_)
          · exact HCT.out
          clear hK K
          go_simp
          refine wpAnyH_done (by kernel_rfl) ?_ _
          have HN' : Hid (LoseI w (w2.drew.setCell ⟨g, j, none⟩ (.bool true)) g ks f (j + 1)) := (HS2.out.keep (Below.refl _ _).drew).put hlt HK1.out true HFK.out
          clear HS2
          go_wp2_with fail
          refine ⟨⟨j + 1, by omega, by go_num, HN'⟩, ?_⟩
          simp [intOf]; omega
        · by_cases h3 : kat ≤ z
          · have HFK : Hid (f k = true) := by show _ = _; rw [HFKV, decide_eq_true h1, decide_eq_false h2, decide_eq_true h3]; rfl
            clear HFKV
            have HCS : Hid (w2.drew.cell? ⟨q, 0, none⟩ = some (.int .i64 knum) ∧ w2.drew.cell? ⟨q, 1, none⟩ = some (.int .i64 kat) ∧ w2.drew.cell? ⟨p, o + 2, none⟩ = some (.int .i64 (acked : Int))) := ⟨cq0, cq1, cac⟩
            have HCT : Hid ((w2.drew.setCell ⟨g, j, none⟩ (.bool true)).cell? ⟨q, 0, none⟩ = some (.int .i64 knum) ∧ (w2.drew.setCell ⟨g, j, none⟩ (.bool true)).cell? ⟨q, 1, none⟩ = some (.int .i64 kat) ∧ (w2.drew.setCell ⟨g, j, none⟩ (.bool true)).cell? ⟨p, o + 2, none⟩ = some (.int .i64 (acked : Int))) := by
              have n1 : q ≠ g := HQG.out
              have n2 : p ≠ g := by have := HPG.out; omega
              have e : ∀ (x i : Nat), x ≠ g → (w2.drew.setCell ⟨g, j, none⟩ (.bool true)).cell? ⟨x, i, none⟩ = w2.drew.cell? ⟨x, i, none⟩ := fun x i hx => World.cell?_of_block (w := w2.drew) (Below.heap_setCell _ _ _ _ hx)
              rw [e q 0 n1, e q 1 n1, e p (o + 2) n2]
              exact HCS.out
            have hfz' : w2.drew.frozen? ⟨g, j, none⟩ = false := hfz
            obtain ⟨v0, hv0⟩ : ∃ v0 : Value, w2.drew.cell? ⟨g, j, none⟩ = some v0 := ⟨.bool ((goneL ks f j)[j]'(by rw [goneL_len _ _ _ hj]; exact hlt)), cell_slot HS2.out.hp (by simp [goneL_len _ _ _ hj, hlt])⟩
            clear cq0 cq1 cac hfz
            refine wp_region_held_drew (S := (fun W : World => W.cell? ⟨q, 0, none⟩ = some (.int .i64 knum) ∧ W.cell? ⟨q, 1, none⟩ = some (.int .i64 kat) ∧ W.cell? ⟨p, o + 2, none⟩ = some (.int .i64 (acked : Int)))) (by kernel_rfl) ?_ (fun hHeld => ?_)
            · exact HCS.out
            refine wpAnyH_take (i := 0) (v := ?_) rfl (by kernel_rfl) (by kernel_rfl) (by kernel_rfl) (fun _ _ _ h => h) (Or.inl ⟨by rfl, ?_⟩) (by assumption) ?_
            rotate_left
            · intro w hSw; (try dsimp only at hSw); go_simp; try with_reducible rfl
            go_simp
            refine wpAnyH_take (i := 1) (v := ?_) rfl (by kernel_rfl) (by kernel_rfl) (by kernel_rfl) (fun _ _ _ h => h) (Or.inl ⟨by rfl, ?_⟩) (by assumption) ?_
            rotate_left
            · intro w hSw; (try dsimp only at hSw); go_simp; try with_reducible rfl
            go_simp
            refine wpAnyH_take (i := 2) (v := ?_) rfl (by kernel_rfl) (by kernel_rfl) (by kernel_rfl) (fun _ _ _ h => h) (Or.inl ⟨by rfl, ?_⟩) (by assumption) ?_
            rotate_left
            · intro w hSw; (try dsimp only at hSw); go_simp; try with_reducible rfl
            go_simp
            refine wpAnyH_take (i := 3) (v := ?_) rfl (by kernel_rfl) (by kernel_rfl) (by kernel_rfl) (fun _ _ _ h => h) (Or.inl ⟨by rfl, ?_⟩) (by assumption) ?_
            rotate_left
            · intro w hSw; (try dsimp only at hSw); go_simp; try with_reducible rfl
            go_simp
            refine wpAnyH_take (i := 4) (v := ?_) rfl (by kernel_rfl) (by kernel_rfl) (by kernel_rfl) (fun _ _ _ h => h) (Or.inl ⟨by rfl, ?_⟩) (by assumption) ?_
            rotate_left
            · intro w hSw; (try dsimp only at hSw); go_simp; try with_reducible rfl
            go_simp
            refine wpAnyH_take (i := 5) (v := ?_) rfl (by kernel_rfl) (by kernel_rfl) (by kernel_rfl) (fun _ _ _ h => h) (Or.inl ⟨by rfl, ?_⟩) (by assumption) ?_
            rotate_left
            · intro w hSw; (try dsimp only at hSw); go_simp; try with_reducible rfl
            go_simp
            refine wpAnyH_take (i := 6) (v := ?_) rfl (by kernel_rfl) (by kernel_rfl) (by kernel_rfl) (fun _ _ _ h => h) (Or.inl ⟨by rfl, ?_⟩) (by assumption) ?_
            rotate_left
            · intro w hSw; (try dsimp only at hSw); go_simp; try with_reducible rfl
            go_simp
            refine wpAnyH_take (i := 7) (v := ?_) rfl (by kernel_rfl) (by kernel_rfl) (by kernel_rfl) (fun _ _ _ h => h) (Or.inl ⟨by rfl, ?_⟩) (by assumption) ?_
            rotate_left
            · intro w hSw; (try dsimp only at hSw); go_simp; try with_reducible rfl
            go_simp
            refine wpAnyH_take (i := 8) (v := ?_) rfl (by kernel_rfl) (by kernel_rfl) (by kernel_rfl) (fun _ _ _ h => h) (Or.inl ⟨by rfl, ?_⟩) (by assumption) ?_
            rotate_left
            · intro w hSw; (try dsimp only at hSw); go_simp; try with_reducible rfl
            go_simp
            refine wpAnyH_take (i := 9) (v := ?_) rfl (by kernel_rfl) (by kernel_rfl) (by kernel_rfl) (fun _ _ _ h => h) (Or.inl ⟨by rfl, ?_⟩) (by assumption) ?_
            rotate_left
            · intro w hSw; (try dsimp only at hSw); go_simp; try with_reducible rfl
            go_simp
            refine wpAnyH_take (i := 10) (v := ?_) rfl (by kernel_rfl) (by kernel_rfl) (by kernel_rfl) (fun _ _ _ h => h) (Or.inl ⟨by rfl, ?_⟩) (by assumption) ?_
            rotate_left
            · intro w hSw; (try dsimp only at hSw); go_simp; try with_reducible rfl
            go_simp
            refine wpAnyH_take (i := 11) (v := ?_) rfl (by kernel_rfl) (by kernel_rfl) (by kernel_rfl) (fun _ _ _ h => h) (Or.inl ⟨by rfl, ?_⟩) (by assumption) ?_
            rotate_left
            · intro w hSw; (try dsimp only at hSw); go_simp; try with_reducible rfl
            go_simp
            refine wpAnyH_take (i := 12) (v := ?_) rfl (by kernel_rfl) (by kernel_rfl) (by kernel_rfl) (fun _ _ _ h => h) (Or.inl ⟨by rfl, ?_⟩) (by assumption) ?_
            rotate_left
            · intro w hSw; (try dsimp only at hSw); go_simp; try with_reducible rfl
            go_simp
            refine wpAnyH_take (i := 13) (v := ?_) rfl (by kernel_rfl) (by kernel_rfl) (by kernel_rfl) (fun _ _ _ h => h) (Or.inl ⟨by rfl, ?_⟩) (by assumption) ?_
            rotate_left
            · intro w hSw; (try dsimp only at hSw); go_simp; try with_reducible rfl
            go_simp
            refine wpAnyH_take (i := 14) (v := ?_) rfl (by kernel_rfl) (by kernel_rfl) (by kernel_rfl) (fun _ _ _ h => h) (Or.inl ⟨by rfl, ?_⟩) (by assumption) ?_
            rotate_left
            · intro w hSw; (try dsimp only at hSw); go_simp; try with_reducible rfl
            go_simp
            refine wpAnyH_take (i := 15) (v := ?_) rfl (by kernel_rfl) (by kernel_rfl) (by kernel_rfl) (fun _ _ _ h => h) (Or.inl ⟨by rfl, ?_⟩) (by assumption) ?_
            rotate_left
            · intro w hSw; (try dsimp only at hSw); go_simp; try with_reducible rfl
            go_simp
            refine wpAnyH_take (i := 16) (v := ?_) rfl (by kernel_rfl) (by kernel_rfl) (by kernel_rfl) (fun _ _ _ h => h) (Or.inl ⟨by rfl, ?_⟩) (by assumption) ?_
            rotate_left
            · intro w hSw; (try dsimp only at hSw); go_simp; try with_reducible rfl
            go_simp
            refine wpAnyH_take (i := 17) (v := ?_) rfl (by kernel_rfl) (by kernel_rfl) (by kernel_rfl) (fun _ _ _ h => h) (Or.inl ⟨by rfl, ?_⟩) (by assumption) ?_
            rotate_left
            · intro w hSw; (try dsimp only at hSw); go_simp; try with_reducible rfl
            go_simp
            refine wpAnyH_take (i := 18) (v := ?_) rfl (by kernel_rfl) (by kernel_rfl) (by kernel_rfl) (fun _ _ _ h => h) (Or.inl ⟨by rfl, ?_⟩) (by assumption) ?_
            rotate_left
            · intro w hSw; (try dsimp only at hSw); go_simp; try with_reducible rfl
            go_simp
            refine wpAnyH_take (i := 19) (v := ?_) rfl (by kernel_rfl) (by kernel_rfl) (by kernel_rfl) (fun _ _ _ h => h) (Or.inl ⟨by rfl, ?_⟩) (by assumption) ?_
            rotate_left
            · intro w hSw; (try dsimp only at hSw); go_simp; try with_reducible rfl
            go_simp
            refine wpAnyH_take (i := 20) (v := ?_) rfl (by kernel_rfl) (by kernel_rfl) (by kernel_rfl) (fun _ _ _ h => h) (Or.inl ⟨by rfl, ?_⟩) (by assumption) ?_
            rotate_left
            · intro w hSw; (try dsimp only at hSw); go_simp; try with_reducible rfl
            go_simp
            refine wpAnyH_take (i := 21) (v := ?_) rfl (by kernel_rfl) (by kernel_rfl) (by kernel_rfl) (fun _ _ _ h => h) (Or.inl ⟨by rfl, ?_⟩) (by assumption) ?_
            rotate_left
            · intro w hSw; (try dsimp only at hSw); go_simp; try with_reducible rfl
            go_simp
            refine wpAnyH_take (i := 22) (v := ?_) rfl (by kernel_rfl) (by kernel_rfl) (by kernel_rfl) (fun _ _ _ h => h) (Or.inl ⟨by rfl, ?_⟩) (by assumption) ?_
            rotate_left
            · intro w hSw; (try dsimp only at hSw); go_simp; try with_reducible rfl
            go_simp
            refine wpAnyH_take (i := 23) (v := ?_) rfl (by kernel_rfl) (by kernel_rfl) (by kernel_rfl) (fun _ _ _ h => h) (Or.inl ⟨by rfl, ?_⟩) (by assumption) ?_
            rotate_left
            · intro w hSw; (try dsimp only at hSw); go_simp; try with_reducible rfl
            go_simp
            refine wpAnyH_take (i := 24) (v := ?_) rfl (by kernel_rfl) (by kernel_rfl) (by kernel_rfl) (fun _ _ _ h => h) (Or.inl ⟨by rfl, ?_⟩) (by assumption) ?_
            rotate_left
            · intro w hSw; (try dsimp only at hSw); go_simp; try with_reducible rfl
            go_simp
            refine wpAnyH_take (i := 25) (v := ?_) rfl (by kernel_rfl) (by kernel_rfl) (by kernel_rfl) (fun _ _ _ h => h) (Or.inl ⟨by rfl, ?_⟩) (by assumption) ?_
            rotate_left
            · intro w hSw; (try dsimp only at hSw); go_simp; try with_reducible rfl
            go_simp
            refine wpAnyH_take (i := 26) (v := ?_) rfl (by kernel_rfl) (by kernel_rfl) (by kernel_rfl) (fun _ _ _ h => h) (Or.inl ⟨by rfl, ?_⟩) (by assumption) ?_
            rotate_left
            · intro w hSw; (try dsimp only at hSw); go_simp; try with_reducible rfl
            go_simp
            refine wpAnyH_take (i := 27) (v := ?_) rfl (by kernel_rfl) (by kernel_rfl) (by kernel_rfl) (fun _ _ _ h => h) (Or.inl ⟨by rfl, ?_⟩) (by assumption) ?_
            rotate_left
            · intro w hSw; (try dsimp only at hSw); go_simp; try with_reducible rfl
            go_simp
            refine wpAnyH_take (i := 28) (v := ?_) rfl (by kernel_rfl) (by kernel_rfl) (by kernel_rfl) (fun _ _ _ h => h) (Or.inl ⟨by rfl, ?_⟩) (by assumption) ?_
            rotate_left
            · intro w hSw; (try dsimp only at hSw); go_simp; try with_reducible rfl
            go_simp
            refine wpAnyH_take (i := 29) (v := ?_) rfl (by kernel_rfl) (by kernel_rfl) (by kernel_rfl) (fun _ _ _ h => h) (Or.inl ⟨by rfl, ?_⟩) (by assumption) ?_
            rotate_left
            · intro w hSw; (try dsimp only at hSw); go_simp; try with_reducible rfl
            go_simp
            refine wpAnyH_ready (rs := [30]) (by kernel_rfl) (by simp) ?_
            refine AllReadyH.cons rfl (fun K hK => ?_) AllReadyH.nil
            go_simp
            refine hK.out _ _ ?_ (fun hHeld => ?_)
            · exact HCT.out
            clear hK K
            go_simp
            refine wpAnyH_done (by kernel_rfl) ?_ _
            have HN' : Hid (LoseI w (w2.drew.setCell ⟨g, j, none⟩ (.bool true)) g ks f (j + 1)) := (HS2.out.keep (Below.refl _ _).drew).put hlt HK1.out true HFK.out
            clear HS2
            go_wp2_with fail
            refine ⟨⟨j + 1, by omega, by go_num, HN'⟩, ?_⟩
            simp [intOf]; omega
          · have HFK : Hid (f k = false) := by show _ = _; rw [HFKV, decide_eq_true h1, decide_eq_false h2, decide_eq_false h3]; rfl
            clear HFKV
            have HCS : Hid (w2.drew.cell? ⟨q, 0, none⟩ = some (.int .i64 knum) ∧ w2.drew.cell? ⟨q, 1, none⟩ = some (.int .i64 kat) ∧ w2.drew.cell? ⟨p, o + 2, none⟩ = some (.int .i64 (acked : Int))) := ⟨cq0, cq1, cac⟩
            have HCT : Hid ((w2.drew.setCell ⟨g, j, none⟩ (.bool false)).cell? ⟨q, 0, none⟩ = some (.int .i64 knum) ∧ (w2.drew.setCell ⟨g, j, none⟩ (.bool false)).cell? ⟨q, 1, none⟩ = some (.int .i64 kat) ∧ (w2.drew.setCell ⟨g, j, none⟩ (.bool false)).cell? ⟨p, o + 2, none⟩ = some (.int .i64 (acked : Int))) := by
              have n1 : q ≠ g := HQG.out
              have n2 : p ≠ g := by have := HPG.out; omega
              have e : ∀ (x i : Nat), x ≠ g → (w2.drew.setCell ⟨g, j, none⟩ (.bool false)).cell? ⟨x, i, none⟩ = w2.drew.cell? ⟨x, i, none⟩ := fun x i hx => World.cell?_of_block (w := w2.drew) (Below.heap_setCell _ _ _ _ hx)
              rw [e q 0 n1, e q 1 n1, e p (o + 2) n2]
              exact HCS.out
            have hfz' : w2.drew.frozen? ⟨g, j, none⟩ = false := hfz
            obtain ⟨v0, hv0⟩ : ∃ v0 : Value, w2.drew.cell? ⟨g, j, none⟩ = some v0 := ⟨.bool ((goneL ks f j)[j]'(by rw [goneL_len _ _ _ hj]; exact hlt)), cell_slot HS2.out.hp (by simp [goneL_len _ _ _ hj, hlt])⟩
            clear cq0 cq1 cac hfz
            refine wp_region_held_drew (S := (fun W : World => W.cell? ⟨q, 0, none⟩ = some (.int .i64 knum) ∧ W.cell? ⟨q, 1, none⟩ = some (.int .i64 kat) ∧ W.cell? ⟨p, o + 2, none⟩ = some (.int .i64 (acked : Int)))) (by kernel_rfl) ?_ (fun hHeld => ?_)
            · exact HCS.out
            refine wpAnyH_take (i := 0) (v := ?_) rfl (by kernel_rfl) (by kernel_rfl) (by kernel_rfl) (fun _ _ _ h => h) (Or.inl ⟨by rfl, ?_⟩) (by assumption) ?_
            rotate_left
            · intro w hSw; (try dsimp only at hSw); go_simp; try with_reducible rfl
            go_simp
            refine wpAnyH_take (i := 1) (v := ?_) rfl (by kernel_rfl) (by kernel_rfl) (by kernel_rfl) (fun _ _ _ h => h) (Or.inl ⟨by rfl, ?_⟩) (by assumption) ?_
            rotate_left
            · intro w hSw; (try dsimp only at hSw); go_simp; try with_reducible rfl
            go_simp
            refine wpAnyH_take (i := 2) (v := ?_) rfl (by kernel_rfl) (by kernel_rfl) (by kernel_rfl) (fun _ _ _ h => h) (Or.inl ⟨by rfl, ?_⟩) (by assumption) ?_
            rotate_left
            · intro w hSw; (try dsimp only at hSw); go_simp; try with_reducible rfl
            go_simp
            refine wpAnyH_take (i := 3) (v := ?_) rfl (by kernel_rfl) (by kernel_rfl) (by kernel_rfl) (fun _ _ _ h => h) (Or.inl ⟨by rfl, ?_⟩) (by assumption) ?_
            rotate_left
            · intro w hSw; (try dsimp only at hSw); go_simp; try with_reducible rfl
            go_simp
            refine wpAnyH_take (i := 4) (v := ?_) rfl (by kernel_rfl) (by kernel_rfl) (by kernel_rfl) (fun _ _ _ h => h) (Or.inl ⟨by rfl, ?_⟩) (by assumption) ?_
            rotate_left
            · intro w hSw; (try dsimp only at hSw); go_simp; try with_reducible rfl
            go_simp
            refine wpAnyH_take (i := 5) (v := ?_) rfl (by kernel_rfl) (by kernel_rfl) (by kernel_rfl) (fun _ _ _ h => h) (Or.inl ⟨by rfl, ?_⟩) (by assumption) ?_
            rotate_left
            · intro w hSw; (try dsimp only at hSw); go_simp; try with_reducible rfl
            go_simp
            refine wpAnyH_take (i := 6) (v := ?_) rfl (by kernel_rfl) (by kernel_rfl) (by kernel_rfl) (fun _ _ _ h => h) (Or.inl ⟨by rfl, ?_⟩) (by assumption) ?_
            rotate_left
            · intro w hSw; (try dsimp only at hSw); go_simp; try with_reducible rfl
            go_simp
            refine wpAnyH_take (i := 7) (v := ?_) rfl (by kernel_rfl) (by kernel_rfl) (by kernel_rfl) (fun _ _ _ h => h) (Or.inl ⟨by rfl, ?_⟩) (by assumption) ?_
            rotate_left
            · intro w hSw; (try dsimp only at hSw); go_simp; try with_reducible rfl
            go_simp
            refine wpAnyH_take (i := 8) (v := ?_) rfl (by kernel_rfl) (by kernel_rfl) (by kernel_rfl) (fun _ _ _ h => h) (Or.inl ⟨by rfl, ?_⟩) (by assumption) ?_
            rotate_left
            · intro w hSw; (try dsimp only at hSw); go_simp; try with_reducible rfl
            go_simp
            refine wpAnyH_take (i := 9) (v := ?_) rfl (by kernel_rfl) (by kernel_rfl) (by kernel_rfl) (fun _ _ _ h => h) (Or.inl ⟨by rfl, ?_⟩) (by assumption) ?_
            rotate_left
            · intro w hSw; (try dsimp only at hSw); go_simp; try with_reducible rfl
            go_simp
            refine wpAnyH_take (i := 10) (v := ?_) rfl (by kernel_rfl) (by kernel_rfl) (by kernel_rfl) (fun _ _ _ h => h) (Or.inl ⟨by rfl, ?_⟩) (by assumption) ?_
            rotate_left
            · intro w hSw; (try dsimp only at hSw); go_simp; try with_reducible rfl
            go_simp
            refine wpAnyH_take (i := 11) (v := ?_) rfl (by kernel_rfl) (by kernel_rfl) (by kernel_rfl) (fun _ _ _ h => h) (Or.inl ⟨by rfl, ?_⟩) (by assumption) ?_
            rotate_left
            · intro w hSw; (try dsimp only at hSw); go_simp; try with_reducible rfl
            go_simp
            refine wpAnyH_take (i := 12) (v := ?_) rfl (by kernel_rfl) (by kernel_rfl) (by kernel_rfl) (fun _ _ _ h => h) (Or.inl ⟨by rfl, ?_⟩) (by assumption) ?_
            rotate_left
            · intro w hSw; (try dsimp only at hSw); go_simp; try with_reducible rfl
            go_simp
            refine wpAnyH_take (i := 13) (v := ?_) rfl (by kernel_rfl) (by kernel_rfl) (by kernel_rfl) (fun _ _ _ h => h) (Or.inl ⟨by rfl, ?_⟩) (by assumption) ?_
            rotate_left
            · intro w hSw; (try dsimp only at hSw); go_simp; try with_reducible rfl
            go_simp
            refine wpAnyH_take (i := 14) (v := ?_) rfl (by kernel_rfl) (by kernel_rfl) (by kernel_rfl) (fun _ _ _ h => h) (Or.inl ⟨by rfl, ?_⟩) (by assumption) ?_
            rotate_left
            · intro w hSw; (try dsimp only at hSw); go_simp; try with_reducible rfl
            go_simp
            refine wpAnyH_take (i := 15) (v := ?_) rfl (by kernel_rfl) (by kernel_rfl) (by kernel_rfl) (fun _ _ _ h => h) (Or.inl ⟨by rfl, ?_⟩) (by assumption) ?_
            rotate_left
            · intro w hSw; (try dsimp only at hSw); go_simp; try with_reducible rfl
            go_simp
            refine wpAnyH_take (i := 16) (v := ?_) rfl (by kernel_rfl) (by kernel_rfl) (by kernel_rfl) (fun _ _ _ h => h) (Or.inl ⟨by rfl, ?_⟩) (by assumption) ?_
            rotate_left
            · intro w hSw; (try dsimp only at hSw); go_simp; try with_reducible rfl
            go_simp
            refine wpAnyH_take (i := 17) (v := ?_) rfl (by kernel_rfl) (by kernel_rfl) (by kernel_rfl) (fun _ _ _ h => h) (Or.inl ⟨by rfl, ?_⟩) (by assumption) ?_
            rotate_left
            · intro w hSw; (try dsimp only at hSw); go_simp; try with_reducible rfl
            go_simp
            refine wpAnyH_take (i := 18) (v := ?_) rfl (by kernel_rfl) (by kernel_rfl) (by kernel_rfl) (fun _ _ _ h => h) (Or.inl ⟨by rfl, ?_⟩) (by assumption) ?_
            rotate_left
            · intro w hSw; (try dsimp only at hSw); go_simp; try with_reducible rfl
            go_simp
            refine wpAnyH_take (i := 19) (v := ?_) rfl (by kernel_rfl) (by kernel_rfl) (by kernel_rfl) (fun _ _ _ h => h) (Or.inl ⟨by rfl, ?_⟩) (by assumption) ?_
            rotate_left
            · intro w hSw; (try dsimp only at hSw); go_simp; try with_reducible rfl
            go_simp
            refine wpAnyH_take (i := 20) (v := ?_) rfl (by kernel_rfl) (by kernel_rfl) (by kernel_rfl) (fun _ _ _ h => h) (Or.inl ⟨by rfl, ?_⟩) (by assumption) ?_
            rotate_left
            · intro w hSw; (try dsimp only at hSw); go_simp; try with_reducible rfl
            go_simp
            refine wpAnyH_take (i := 21) (v := ?_) rfl (by kernel_rfl) (by kernel_rfl) (by kernel_rfl) (fun _ _ _ h => h) (Or.inl ⟨by rfl, ?_⟩) (by assumption) ?_
            rotate_left
            · intro w hSw; (try dsimp only at hSw); go_simp; try with_reducible rfl
            go_simp
            refine wpAnyH_take (i := 22) (v := ?_) rfl (by kernel_rfl) (by kernel_rfl) (by kernel_rfl) (fun _ _ _ h => h) (Or.inl ⟨by rfl, ?_⟩) (by assumption) ?_
            rotate_left
            · intro w hSw; (try dsimp only at hSw); go_simp; try with_reducible rfl
            go_simp
            refine wpAnyH_take (i := 23) (v := ?_) rfl (by kernel_rfl) (by kernel_rfl) (by kernel_rfl) (fun _ _ _ h => h) (Or.inl ⟨by rfl, ?_⟩) (by assumption) ?_
            rotate_left
            · intro w hSw; (try dsimp only at hSw); go_simp; try with_reducible rfl
            go_simp
            refine wpAnyH_take (i := 24) (v := ?_) rfl (by kernel_rfl) (by kernel_rfl) (by kernel_rfl) (fun _ _ _ h => h) (Or.inl ⟨by rfl, ?_⟩) (by assumption) ?_
            rotate_left
            · intro w hSw; (try dsimp only at hSw); go_simp; try with_reducible rfl
            go_simp
            refine wpAnyH_take (i := 25) (v := ?_) rfl (by kernel_rfl) (by kernel_rfl) (by kernel_rfl) (fun _ _ _ h => h) (Or.inl ⟨by rfl, ?_⟩) (by assumption) ?_
            rotate_left
            · intro w hSw; (try dsimp only at hSw); go_simp; try with_reducible rfl
            go_simp
            refine wpAnyH_take (i := 26) (v := ?_) rfl (by kernel_rfl) (by kernel_rfl) (by kernel_rfl) (fun _ _ _ h => h) (Or.inl ⟨by rfl, ?_⟩) (by assumption) ?_
            rotate_left
            · intro w hSw; (try dsimp only at hSw); go_simp; try with_reducible rfl
            go_simp
            refine wpAnyH_take (i := 27) (v := ?_) rfl (by kernel_rfl) (by kernel_rfl) (by kernel_rfl) (fun _ _ _ h => h) (Or.inl ⟨by rfl, ?_⟩) (by assumption) ?_
            rotate_left
            · intro w hSw; (try dsimp only at hSw); go_simp; try with_reducible rfl
            go_simp
            refine wpAnyH_take (i := 28) (v := ?_) rfl (by kernel_rfl) (by kernel_rfl) (by kernel_rfl) (fun _ _ _ h => h) (Or.inl ⟨by rfl, ?_⟩) (by assumption) ?_
            rotate_left
            · intro w hSw; (try dsimp only at hSw); go_simp; try with_reducible rfl
            go_simp
            refine wpAnyH_take (i := 29) (v := ?_) rfl (by kernel_rfl) (by kernel_rfl) (by kernel_rfl) (fun _ _ _ h => h) (Or.inl ⟨by rfl, ?_⟩) (by assumption) ?_
            rotate_left
            · intro w hSw; (try dsimp only at hSw); go_simp; try with_reducible rfl
            go_simp
            refine wpAnyH_ready (rs := [30]) (by kernel_rfl) (by simp) ?_
            refine AllReadyH.cons rfl (fun K hK => ?_) AllReadyH.nil
            go_simp
            refine hK.out _ _ ?_ (fun hHeld => ?_)
            · exact HCT.out
            clear hK K
            go_simp
            refine wpAnyH_done (by kernel_rfl) ?_ _
            have HN' : Hid (LoseI w (w2.drew.setCell ⟨g, j, none⟩ (.bool false)) g ks f (j + 1)) := (HS2.out.keep (Below.refl _ _).drew).put hlt HK1.out false HFK.out
            clear HS2
            go_wp2_with fail
            refine ⟨⟨j + 1, by omega, by go_num, HN'⟩, ?_⟩
            simp [intOf]; omega
      · have HFK : Hid (f k = false) := by show _ = _; rw [HFKV, decide_eq_false h1]; rfl
        clear HFKV
        have HCS : Hid (w2.drew.cell? ⟨q, 0, none⟩ = some (.int .i64 knum) ∧ w2.drew.cell? ⟨q, 1, none⟩ = some (.int .i64 kat) ∧ w2.drew.cell? ⟨p, o + 2, none⟩ = some (.int .i64 (acked : Int))) := ⟨cq0, cq1, cac⟩
        have HCT : Hid ((w2.drew.setCell ⟨g, j, none⟩ (.bool false)).cell? ⟨q, 0, none⟩ = some (.int .i64 knum) ∧ (w2.drew.setCell ⟨g, j, none⟩ (.bool false)).cell? ⟨q, 1, none⟩ = some (.int .i64 kat) ∧ (w2.drew.setCell ⟨g, j, none⟩ (.bool false)).cell? ⟨p, o + 2, none⟩ = some (.int .i64 (acked : Int))) := by
          have n1 : q ≠ g := HQG.out
          have n2 : p ≠ g := by have := HPG.out; omega
          have e : ∀ (x i : Nat), x ≠ g → (w2.drew.setCell ⟨g, j, none⟩ (.bool false)).cell? ⟨x, i, none⟩ = w2.drew.cell? ⟨x, i, none⟩ := fun x i hx => World.cell?_of_block (w := w2.drew) (Below.heap_setCell _ _ _ _ hx)
          rw [e q 0 n1, e q 1 n1, e p (o + 2) n2]
          exact HCS.out
        have hfz' : w2.drew.frozen? ⟨g, j, none⟩ = false := hfz
        obtain ⟨v0, hv0⟩ : ∃ v0 : Value, w2.drew.cell? ⟨g, j, none⟩ = some v0 := ⟨.bool ((goneL ks f j)[j]'(by rw [goneL_len _ _ _ hj]; exact hlt)), cell_slot HS2.out.hp (by simp [goneL_len _ _ _ hj, hlt])⟩
        clear cq0 cq1 cac hfz
        refine wp_region_held_drew (S := (fun W : World => W.cell? ⟨q, 0, none⟩ = some (.int .i64 knum) ∧ W.cell? ⟨q, 1, none⟩ = some (.int .i64 kat) ∧ W.cell? ⟨p, o + 2, none⟩ = some (.int .i64 (acked : Int)))) (by kernel_rfl) ?_ (fun hHeld => ?_)
        · exact HCS.out
        refine wpAnyH_take (i := 0) (v := ?_) rfl (by kernel_rfl) (by kernel_rfl) (by kernel_rfl) (fun _ _ _ h => h) (Or.inl ⟨by rfl, ?_⟩) (by assumption) ?_
        rotate_left
        · intro w hSw; (try dsimp only at hSw); go_simp; try with_reducible rfl
        go_simp
        refine wpAnyH_take (i := 1) (v := ?_) rfl (by kernel_rfl) (by kernel_rfl) (by kernel_rfl) (fun _ _ _ h => h) (Or.inl ⟨by rfl, ?_⟩) (by assumption) ?_
        rotate_left
        · intro w hSw; (try dsimp only at hSw); go_simp; try with_reducible rfl
        go_simp
        refine wpAnyH_take (i := 2) (v := ?_) rfl (by kernel_rfl) (by kernel_rfl) (by kernel_rfl) (fun _ _ _ h => h) (Or.inl ⟨by rfl, ?_⟩) (by assumption) ?_
        rotate_left
        · intro w hSw; (try dsimp only at hSw); go_simp; try with_reducible rfl
        go_simp
        refine wpAnyH_take (i := 3) (v := ?_) rfl (by kernel_rfl) (by kernel_rfl) (by kernel_rfl) (fun _ _ _ h => h) (Or.inl ⟨by rfl, ?_⟩) (by assumption) ?_
        rotate_left
        · intro w hSw; (try dsimp only at hSw); go_simp; try with_reducible rfl
        go_simp
        refine wpAnyH_take (i := 4) (v := ?_) rfl (by kernel_rfl) (by kernel_rfl) (by kernel_rfl) (fun _ _ _ h => h) (Or.inl ⟨by rfl, ?_⟩) (by assumption) ?_
        rotate_left
        · intro w hSw; (try dsimp only at hSw); go_simp; try with_reducible rfl
        go_simp
        refine wpAnyH_take (i := 5) (v := ?_) rfl (by kernel_rfl) (by kernel_rfl) (by kernel_rfl) (fun _ _ _ h => h) (Or.inl ⟨by rfl, ?_⟩) (by assumption) ?_
        rotate_left
        · intro w hSw; (try dsimp only at hSw); go_simp; try with_reducible rfl
        go_simp
        refine wpAnyH_take (i := 6) (v := ?_) rfl (by kernel_rfl) (by kernel_rfl) (by kernel_rfl) (fun _ _ _ h => h) (Or.inl ⟨by rfl, ?_⟩) (by assumption) ?_
        rotate_left
        · intro w hSw; (try dsimp only at hSw); go_simp; try with_reducible rfl
        go_simp
        refine wpAnyH_take (i := 7) (v := ?_) rfl (by kernel_rfl) (by kernel_rfl) (by kernel_rfl) (fun _ _ _ h => h) (Or.inl ⟨by rfl, ?_⟩) (by assumption) ?_
        rotate_left
        · intro w hSw; (try dsimp only at hSw); go_simp; try with_reducible rfl
        go_simp
        refine wpAnyH_take (i := 8) (v := ?_) rfl (by kernel_rfl) (by kernel_rfl) (by kernel_rfl) (fun _ _ _ h => h) (Or.inl ⟨by rfl, ?_⟩) (by assumption) ?_
        rotate_left
        · intro w hSw; (try dsimp only at hSw); go_simp; try with_reducible rfl
        go_simp
        refine wpAnyH_take (i := 9) (v := ?_) rfl (by kernel_rfl) (by kernel_rfl) (by kernel_rfl) (fun _ _ _ h => h) (Or.inl ⟨by rfl, ?_⟩) (by assumption) ?_
        rotate_left
        · intro w hSw; (try dsimp only at hSw); go_simp; try with_reducible rfl
        go_simp
        refine wpAnyH_take (i := 10) (v := ?_) rfl (by kernel_rfl) (by kernel_rfl) (by kernel_rfl) (fun _ _ _ h => h) (Or.inl ⟨by rfl, ?_⟩) (by assumption) ?_
        rotate_left
        · intro w hSw; (try dsimp only at hSw); go_simp; try with_reducible rfl
        go_simp
        refine wpAnyH_take (i := 11) (v := undef) rfl (by kernel_rfl) (by kernel_rfl) (by kernel_rfl) (fun _ _ _ h => h) (Or.inr ⟨by rfl, rfl⟩) (by assumption) ?_
        go_simp
        refine wpAnyH_take (i := 12) (v := undef) rfl (by kernel_rfl) (by kernel_rfl) (by kernel_rfl) (fun _ _ _ h => h) (Or.inr ⟨by rfl, rfl⟩) (by assumption) ?_
        go_simp
        refine wpAnyH_take (i := 13) (v := undef) rfl (by kernel_rfl) (by kernel_rfl) (by kernel_rfl) (fun _ _ _ h => h) (Or.inr ⟨by rfl, rfl⟩) (by assumption) ?_
        go_simp
        refine wpAnyH_take (i := 14) (v := undef) rfl (by kernel_rfl) (by kernel_rfl) (by kernel_rfl) (fun _ _ _ h => h) (Or.inr ⟨by rfl, rfl⟩) (by assumption) ?_
        go_simp
        refine wpAnyH_take (i := 15) (v := undef) rfl (by kernel_rfl) (by kernel_rfl) (by kernel_rfl) (fun _ _ _ h => h) (Or.inr ⟨by rfl, rfl⟩) (by assumption) ?_
        go_simp
        refine wpAnyH_take (i := 16) (v := undef) rfl (by kernel_rfl) (by kernel_rfl) (by kernel_rfl) (fun _ _ _ h => h) (Or.inr ⟨by rfl, rfl⟩) (by assumption) ?_
        go_simp
        refine wpAnyH_take (i := 17) (v := undef) rfl (by kernel_rfl) (by kernel_rfl) (by kernel_rfl) (fun _ _ _ h => h) (Or.inr ⟨by rfl, rfl⟩) (by assumption) ?_
        go_simp
        refine wpAnyH_take (i := 18) (v := undef) rfl (by kernel_rfl) (by kernel_rfl) (by kernel_rfl) (fun _ _ _ h => h) (Or.inr ⟨by rfl, rfl⟩) (by assumption) ?_
        go_simp
        refine wpAnyH_take (i := 19) (v := undef) rfl (by kernel_rfl) (by kernel_rfl) (by kernel_rfl) (fun _ _ _ h => h) (Or.inr ⟨by rfl, rfl⟩) (by assumption) ?_
        go_simp
        refine wpAnyH_take (i := 20) (v := undef) rfl (by kernel_rfl) (by kernel_rfl) (by kernel_rfl) (fun _ _ _ h => h) (Or.inr ⟨by rfl, rfl⟩) (by assumption) ?_
        go_simp
        refine wpAnyH_take (i := 21) (v := undef) rfl (by kernel_rfl) (by kernel_rfl) (by kernel_rfl) (fun _ _ _ h => h) (Or.inr ⟨by rfl, rfl⟩) (by assumption) ?_
        go_simp
        refine wpAnyH_take (i := 22) (v := undef) rfl (by kernel_rfl) (by kernel_rfl) (by kernel_rfl) (fun _ _ _ h => h) (Or.inr ⟨by rfl, rfl⟩) (by assumption) ?_
        go_simp
        refine wpAnyH_take (i := 23) (v := undef) rfl (by kernel_rfl) (by kernel_rfl) (by kernel_rfl) (fun _ _ _ h => h) (Or.inr ⟨by rfl, rfl⟩) (by assumption) ?_
        go_simp
        refine wpAnyH_take (i := 24) (v := undef) rfl (by kernel_rfl) (by kernel_rfl) (by kernel_rfl) (fun _ _ _ h => h) (Or.inr ⟨by rfl, rfl⟩) (by assumption) ?_
        go_simp
        refine wpAnyH_take (i := 25) (v := undef) rfl (by kernel_rfl) (by kernel_rfl) (by kernel_rfl) (fun _ _ _ h => h) (Or.inr ⟨by rfl, rfl⟩) (by assumption) ?_
        go_simp
        refine wpAnyH_take (i := 26) (v := undef) rfl (by kernel_rfl) (by kernel_rfl) (by kernel_rfl) (fun _ _ _ h => h) (Or.inr ⟨by rfl, rfl⟩) (by assumption) ?_
        go_simp
        refine wpAnyH_take (i := 27) (v := undef) rfl (by kernel_rfl) (by kernel_rfl) (by kernel_rfl) (fun _ _ _ h => h) (Or.inr ⟨by rfl, rfl⟩) (by assumption) ?_
        go_simp
        refine wpAnyH_take (i := 28) (v := ?_) rfl (by kernel_rfl) (by kernel_rfl) (by kernel_rfl) (fun _ _ _ h => h) (Or.inl ⟨by rfl, ?_⟩) (by assumption) ?_
        rotate_left
        · intro w hSw; (try dsimp only at hSw); go_simp; try with_reducible rfl
        go_simp
        refine wpAnyH_take (i := 29) (v := ?_) rfl (by kernel_rfl) (by kernel_rfl) (by kernel_rfl) (fun _ _ _ h => h) (Or.inl ⟨by rfl, ?_⟩) (by assumption) ?_
        rotate_left
        · intro w hSw; (try dsimp only at hSw); go_simp; try with_reducible rfl
        go_simp
        refine wpAnyH_ready (rs := [30]) (by kernel_rfl) (by simp) ?_
        refine AllReadyH.cons rfl (fun K hK => ?_) AllReadyH.nil
        go_simp
        refine hK.out _ _ ?_ (fun hHeld => ?_)
        · exact HCT.out
        clear hK K
        go_simp
        refine wpAnyH_done (by kernel_rfl) ?_ _
        have HN' : Hid (LoseI w (w2.drew.setCell ⟨g, j, none⟩ (.bool false)) g ks f (j + 1)) := (HS2.out.keep (Below.refl _ _).drew).put hlt HK1.out false HFK.out
        clear HS2
        go_wp2_with fail
        refine ⟨⟨j + 1, by omega, by go_num, HN'⟩, ?_⟩
        simp [intOf]; omega
    · have hltI : ¬ (j : Int) < (ks.length : Int) := by omega
      obtain rfl : j = ks.length := by omega
      have hrd : Rd wr wr.heap.size (some ⟨g, 0, none⟩) (ks.length * 1) (ks.map fun k => .bool (f k)) := by
        have := rd_block wr g _ _ wr.heap.size HK.out.hp (Nat.le_refl _)
        rw [goneL_all] at this
        simpa [Function.comp_def] using this
      have HPT := Lib.hid (rpart_any HW.out hn f (some ⟨g, 0, none⟩) ks.length (Nat.le_refl _) hrd)
      have HBE := Lib.hid HK.out.be
      clear hrd HK HW
      go_wp2_with fail
      refine HPT.out.mono ?_
      rintro e w5 ⟨A, c, cur', rfl, r1, r2, r3, r4, r5⟩
      have HF : Hid ((ks.filter f).length ≤ c ∧ w5.ownsRow w.heap.size 75 4 (.slice A (ks.filter f).length c) (ks.filter f).length (pks (ks.filter f)) ∧ RLed w5 lo p o T cur' (ks.filter fun k => !f k) next acked ∧ Same3 o cur cur' ∧ w.grownBy w5 (some p)) :=
        ⟨r1, own_base r2 HBE.out.size, r3, r4, ⟨r5.os.trans HBE.out.os, r5.tape.trans HBE.out.tape, r5.output.trans HBE.out.output, Nat.le_trans HBE.out.size r5.size, fun i hi hne => (r5.block i (Nat.lt_of_lt_of_le hi HBE.out.size) hne).trans (HBE.out.block i hi)⟩⟩
      clear r1 r2 r3 r4 r5 HPT
      go_wp2_with fail
      go_ret
      first | exact ⟨A, c, cur', rfl, HF.out⟩ | exact ⟨A, c, rfl, HF.out.1, HF.out.2.1, _, HF.out.2.2⟩
end Go.Proofs.YtebfjphmlggacaaGreat.Xr
