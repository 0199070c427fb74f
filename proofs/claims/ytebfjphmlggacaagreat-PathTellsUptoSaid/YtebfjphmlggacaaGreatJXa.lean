/- The reference's ledger in memory; Flight, Oldest, Take; frames, last, Elicits: contracts. Conditions: as each theorem lists them. -/
import Derived.Test.YtebfjphmlggacaaGreatJPb
import Derived.Test.YtebfjphmlggacaaGreatJPo
import Derived.Test.YtebfjphmlggacaaGreatJRc
import Derived.Test.YtebfjphmlggacaaGreatJCc
set_option linter.unusedSimpArgs false
set_option linter.unusedVariables false

namespace Go.Proofs.YtebfjphmlggacaaGreat.Xr
open Go Go.RowKit Go.Proofs.YtebfjphmlggacaaGreat Go.Proofs.YtebfjphmlggacaaGreat.Sp Go.Proofs.YtebfjphmlggacaaGreat.Ld Go.Proofs.YtebfjphmlggacaaGreat.Pa

/-- The reference's ledger: three cells at place o of block p. -/
structure RLed (w : World) (lo p o : Nat) (T : TypeId) (cur : Array Value) (ks : List Pk) (next acked : Nat) : Prop where
  hlo : lo ≤ p
  hp : w.heap[p]? = some (.cells cur T (0, 0))
  hT : 75 ≠ T
  row : ∃ A c, cur[o]? = some (.slice A ks.length c) ∧ w.ownsRow lo 75 4 (.slice A ks.length c) ks.length (pks ks) ∧ ks.length ≤ c
  c1 : cur[o + 1]? = some (.int .i64 (next : Int))
  c2 : cur[o + 2]? = some (.int .i64 (acked : Int))
/-- Outside its three cells the block is the same. -/
def Same3 (o : Nat) (cur cur' : Array Value) : Prop := cur'.size = cur.size ∧ ∀ j, (j < o ∨ o + 3 ≤ j) → cur'[j]? = cur[j]?
theorem Same3.refl (o : Nat) (cur : Array Value) : Same3 o cur cur := ⟨rfl, fun _ _ => rfl⟩
theorem Same3.trans {o : Nat} {a b c : Array Value} (h : Same3 o a b) (k : Same3 o b c) : Same3 o a c := ⟨k.1.trans h.1, fun j hj => (k.2 j hj).trans (h.2 j hj)⟩
theorem Same3.set {o : Nat} {a b : Array Value} (h : Same3 o a b) (j : Nat) (hj : o ≤ j ∧ j < o + 3) (u : Value) : Same3 o a (b.setIfInBounds j u) :=
  ⟨by rw [Array.size_setIfInBounds]; exact h.1, fun i hi => by rw [slot_other (by omega)]; exact h.2 i hi⟩
section
variable {w w' : World} {lo p o : Nat} {T : TypeId} {cur : Array Value} {ks : List Pk} {next acked : Nat}
theorem RLed.lt (h : RLed w lo p o T cur ks next acked) : lo ≤ p ∧ p < w.heap.size := ⟨h.hlo, lt_of_block h.hp⟩
theorem RLed.keep (h : RLed w lo p o T cur ks next acked) (hb : Below w.heap.size w w') : RLed w' lo p o T cur ks next acked := by
  obtain ⟨A, c, e, ho, hl⟩ := h.row
  exact ⟨h.hlo, (hb.block p h.lt.2).trans h.hp, h.hT, ⟨A, c, e, own_below ho hb, hl⟩, h.c1, h.c2⟩
theorem RLed.cell (h : RLed w lo p o T cur ks next acked) : w.cell? ⟨p, o + 1, none⟩ = some (.int .i64 (next : Int)) ∧ w.cell? ⟨p, o + 2, none⟩ = some (.int .i64 (acked : Int)) ∧ ∀ j, w.frozen? ⟨p, j, none⟩ = false :=
  ⟨cell_slot h.hp h.c1, cell_slot h.hp h.c2, fun _ => free_slot h.hp⟩
/-- Another row is laid, in cell o. -/
theorem RLed.setRow (h : RLed w lo p o T cur ks next acked) {ks' : List Pk} {A : Option Addr} {c : Nat} (ho : w.ownsRow lo 75 4 (.slice A ks'.length c) ks'.length (pks ks')) (hc : ks'.length ≤ c) (ho' : o < cur.size) : RLed (w.setCell ⟨p, o, none⟩ (.slice A ks'.length c)) lo p o T (cur.setIfInBounds o (.slice A ks'.length c)) ks' next acked := by
  obtain ⟨A0, c0, e, _⟩ := h.row
  have hg : w.grownBy (w.setCell ⟨p, o, none⟩ (.slice A ks'.length c)) (some p) := ⟨rfl, rfl, rfl, by simp [World.setCell], fun k hk hne => Below.heap_setCell _ _ _ _ (fun e => hne (by rw [e]))⟩
  exact ⟨h.hlo, set_slot h.hp _ _, h.hT, ⟨A, c, slot_set e, own_other ho hg h.hp h.hT, hc⟩, (slot_other (by omega)).trans h.c1, (slot_other (by omega)).trans h.c2⟩

set_option maxRecDepth 100000 in
set_option maxHeartbeats 4000000 in
theorem rflight_any (h : RLed w lo p o T cur ks next acked) (hn : ks.length ≤ 1099511627776) :
    Calls Tryz.prog 22 #[.pointer (some ⟨p, o, none⟩)] w fun e w' => e = .returned (.int .i64 (els ks : Int)) ∧ w' = w := by
  have H := Lib.hid h
  have hnI : (ks.length : Int) ≤ 1099511627776 := by omega
  clear h
  go_enter Tryz.func22, Tryz.ntmps22
  go_wp2_with fail
  go_loopw [3, 4] (fun v i wr => ∃ j m : Nat, j ≤ ks.length ∧ m ≤ j ∧ i = .int .i64 (j : Int) ∧ v = .int .i64 (m : Int) ∧ Hid (m = els (ks.take j)) ∧ wr = w) (fun _ i _ => ks.length - (intOf i).toNat)
  case atStart => exact ⟨0, 0, Nat.zero_le _, Nat.le_refl _, rfl, rfl, rfl, rfl⟩
  case round =>
    obtain ⟨j, m, hj, hmj, rfl, rfl, HE, rfl⟩ := hrel
    by_cases hlt : j < ks.length
    · have hltI : (j : Int) < (ks.length : Int) := by omega
      have hmjI : (m : Int) ≤ (j : Int) := by omega
      obtain ⟨A, c, hA, hO, hlc⟩ := H.out.row
      have hc0 := cell_slot H.out.hp hA
      have hlcI : (ks.length : Int) ≤ (c : Int) := by omega
      obtain ⟨k, hk⟩ : ∃ k, ks[j]? = some k := ⟨_, List.getElem?_eq_getElem hlt⟩
      obtain ⟨b, off, hA2, hbl, d0, d1, d2, d3⟩ := pk_cells (Rd.of_own hO) rfl j k hk
      subst hA2
      have HT : Hid (els (ks.take (j + 1)) = els (ks.take j) + (if k.el = true then 1 else 0)) := by
        show _ = _
        rw [take_one ks j k hk]
        simp only [els, List.countP_append, List.countP_cons, List.countP_nil, Nat.zero_add]
      obtain ⟨el, hel⟩ : ∃ z, k.el = z := ⟨_, rfl⟩
      rw [hel] at d2 HT
      clear hA hO hk hel d0 d1 d3 H
      cases el
      · go_wp2_with fail
        refine ⟨⟨j + 1, m, by omega, by omega, by go_num, rfl, by show _ = _; rw [HT.out, HE.out]; simp, trivial⟩, ?_⟩
        simp [intOf]; omega
      · go_wp2_with fail
        refine ⟨⟨j + 1, m + 1, by omega, by omega, by go_num, by go_num, by show _ = _; rw [HT.out, HE.out]; simp, trivial⟩, ?_⟩
        simp [intOf]; omega
    · have hltI : ¬ (j : Int) < (ks.length : Int) := by omega
      obtain ⟨A, c, hA, _⟩ := H.out.row
      have hc0 := cell_slot H.out.hp hA
      have HE2 : Hid (m = els ks) := by have := HE.out; rwa [List.take_of_length_le (by omega)] at this
      clear H HE hA
      go_wp2_with fail
      go_ret
      exact ⟨by rw [HE2.out]; rfl, rfl⟩

set_option maxRecDepth 100000 in
set_option maxHeartbeats 4000000 in
theorem roldest_any (h : RLed w lo p o T cur ks next acked) (hn : ks.length ≤ 1099511627776) :
    Calls Tryz.prog 49 #[.pointer (some ⟨p, o, none⟩)] w fun e w' => e = .returned (.tuple #[.int .i64 (oldF ks).1, .bool (oldF ks).2]) ∧ w' = w := by
  have H := Lib.hid h
  have hnI : (ks.length : Int) ≤ 1099511627776 := by omega
  clear h
  go_enter Tryz.func49, Tryz.ntmps49
  go_wp2_with fail
  go_loopw [4] (fun i wr => ∃ j : Nat, j ≤ ks.length ∧ i = .int .i64 (j : Int) ∧ Hid ((ks.take j).find? (·.el) = none) ∧ wr = w) (fun i _ => ks.length - (intOf i).toNat)
  case atStart => exact ⟨0, Nat.zero_le _, rfl, rfl, rfl⟩
  case round =>
    obtain ⟨j, hj, rfl, HF, rfl⟩ := hrel
    by_cases hlt : j < ks.length
    · have hltI : (j : Int) < (ks.length : Int) := by omega
      obtain ⟨A, c, hA, hO, hlc⟩ := H.out.row
      have hc0 := cell_slot H.out.hp hA
      have hlcI : (ks.length : Int) ≤ (c : Int) := by omega
      obtain ⟨k, hk⟩ : ∃ k, ks[j]? = some k := ⟨_, List.getElem?_eq_getElem hlt⟩
      obtain ⟨b, off, hA2, hbl, d0, d1, d2, d3⟩ := pk_cells (Rd.of_own hO) rfl j k hk
      subst hA2
      have HT : Hid (ks.take (j + 1) = ks.take j ++ [k]) := take_one ks j k hk
      have HD : Hid (ks = ks.take (j + 1) ++ ks.drop (j + 1)) := (List.take_append_drop _ _).symm
      obtain ⟨el, hel⟩ : ∃ z, k.el = z := ⟨_, rfl⟩
      rw [hel] at d2
      clear hA hO hk H
      cases el
      · have HN' : Hid ((ks.take (j + 1)).find? (·.el) = none) := by
          show _ = _
          rw [HT.out, List.find?_append, HF.out]
          simp [hel]
        clear HF HT HD hel
        go_wp2_with fail
        refine ⟨⟨j + 1, by omega, by go_num, HN', trivial⟩, ?_⟩
        simp [intOf]; omega
      · have HO : Hid (oldF ks = (k.at', true)) := by
          show _ = _
          unfold oldF
          rw [HD.out, HT.out, List.find?_append, List.find?_append, HF.out]
          simp [hel]
        clear HF HT HD hel
        go_wp2_with fail
        first | go_ret2 | go_ret
        exact ⟨by rw [HO.out]; rfl, rfl⟩
    · have hltI : ¬ (j : Int) < (ks.length : Int) := by omega
      obtain ⟨A, c, hA, _⟩ := H.out.row
      have hc0 := cell_slot H.out.hp hA
      have HO : Hid (oldF ks = (0, false)) := by
        have h := HF.out
        rw [List.take_of_length_le (by omega)] at h
        show _ = _
        unfold oldF
        rw [h]
      clear H HF hA
      go_wp2_with fail
      first | go_ret2 | go_ret
      exact ⟨by rw [HO.out]; rfl, rfl⟩

set_option maxRecDepth 100000 in
theorem rtake_any (h : RLed w lo p o T cur ks next acked) (ho : o < cur.size) :
    Calls Tryz.prog 50 #[.pointer (some ⟨p, o, none⟩)] w fun e w' => ∃ A c cur', e = .returned (.slice A ks.length c) ∧ ks.length ≤ c ∧ w'.ownsRow lo 75 4 (.slice A ks.length c) ks.length (pks ks) ∧ RLed w' lo p o T cur' [] next acked ∧ Same3 o cur cur' ∧ w.grownBy w' (some p) := by
  obtain ⟨A, c, hA, hO, hlc⟩ := h.row
  have hc0 := cell_slot h.hp hA
  have hf := h.cell.2.2
  have hg : w.grownBy (w.setCell ⟨p, o, none⟩ (.slice none 0 0)) (some p) := ⟨rfl, rfl, rfl, by simp [World.setCell], fun k hk hne => Below.heap_setCell _ _ _ _ (fun e => hne (by rw [e]))⟩
  have HF : Hid (ks.length ≤ c ∧ (w.setCell ⟨p, o, none⟩ (.slice none 0 0)).ownsRow lo 75 4 (.slice A ks.length c) ks.length (pks ks) ∧ RLed (w.setCell ⟨p, o, none⟩ (.slice none 0 0)) lo p o T (cur.setIfInBounds o (.slice none 0 0)) [] next acked ∧ Same3 o cur (cur.setIfInBounds o (.slice none 0 0)) ∧ w.grownBy (w.setCell ⟨p, o, none⟩ (.slice none 0 0)) (some p)) :=
    ⟨hlc, own_other hO hg h.hp h.hT, h.setRow (ks' := []) (own_nil _ _ _ _) (Nat.le_refl _) ho, (Same3.refl _ _).set o (by omega) _, hg⟩
  clear h hA hO hlc hg
  go_enter Tryz.func50, Tryz.ntmps50
  go_wp2_with fail
  go_ret
  exact ⟨A, c, _, rfl, HF.out⟩
end

set_option maxRecDepth 100000 in
set_option maxHeartbeats 4000000 in
theorem relicits_any (qs : List Fq) (n c : Nat) (A : Option Addr) (w : World) (hl : qs.length = n) (hx : Rd w w.heap.size A (n * 9) (fqs qs)) (hn : n ≤ c) (hnb : n ≤ 1048576) :
    Calls Tryz.prog 55 #[.slice A n c] w fun e w' => e = .returned (.bool (elicF qs)) ∧ w' = w := by
  have HL := Lib.hid hl
  have HX := Lib.hid hx
  have hnI : (n : Int) ≤ 1048576 := by omega
  have hncI : (n : Int) ≤ (c : Int) := by omega
  clear hx hl
  go_enter Tryz.func55, Tryz.ntmps55
  go_wp2_with fail
  go_loopw [3] (fun i wr => ∃ j : Nat, j ≤ n ∧ i = .int .i64 (j : Int) ∧ Hid (elicF (qs.take j) = false) ∧ wr = w) (fun i _ => n - (intOf i).toNat)
  case atStart => exact ⟨0, Nat.zero_le _, rfl, rfl, rfl⟩
  case round =>
    obtain ⟨j, hj, rfl, HK, rfl⟩ := hrel
    by_cases hlt : j < n
    · have hltI : (j : Int) < (n : Int) := by omega
      obtain ⟨q, hq⟩ : ∃ q, qs[j]? = some q := ⟨_, List.getElem?_eq_getElem (by have := HL.out; omega)⟩
      obtain ⟨b, off, hA, hbl, c0, _⟩ := fq_cells HX.out HL.out j q hq
      subst hA
      have HT : Hid (elicF (qs.take (j + 1)) = (!(q.k == 2) && !(q.k == 12))) := by
        show _ = _
        have he := HK.out
        rw [take_one qs j q hq]
        unfold elicF at he ⊢
        rw [List.any_append, he]
        simp
      have HAL : Hid ((!(q.k == 2) && !(q.k == 12)) = true → elicF qs = true) := fun h => by
        unfold elicF
        rw [List.any_eq_true]
        exact ⟨q, List.mem_of_getElem? hq, h⟩
      obtain ⟨qk, hqk⟩ : ∃ z, q.k = z := ⟨_, rfl⟩
      rw [hqk] at c0 HT HAL
      clear hq hqk HK
      by_cases h2 : qk = 2
      · subst h2
        go_wp2_with fail
        refine ⟨⟨j + 1, by omega, by go_num, by show _ = _; rw [HT.out]; rfl, trivial⟩, ?_⟩
        simp [intOf]; omega
      · have hb2 : (qk != 2) = true := by simpa using h2
        by_cases h12 : qk = 12
        · subst h12
          go_wp2_with fail
          refine ⟨⟨j + 1, by omega, by go_num, by show _ = _; rw [HT.out]; rfl, trivial⟩, ?_⟩
          simp [intOf]; omega
        · have HAT := Lib.hid (HAL.out (by simp [h2, h12]))
          have hb12 : (qk != 12) = true := by simpa using h12
          go_wp2_with fail
          go_ret
          exact ⟨by rw [HAT.out]; rfl, rfl⟩
    · have hltI : ¬ (j : Int) < (n : Int) := by omega
      have HE : Hid (elicF qs = false) := by have := HK.out; rwa [List.take_of_length_le (by have := HL.out; omega)] at this
      clear HK
      go_wp2_with fail
      go_ret
      exact ⟨by rw [HE.out]; rfl, rfl⟩

set_option maxRecDepth 100000 in
set_option maxHeartbeats 4000000 in
theorem rlast_any (ks : List Pk) (n c : Nat) (A : Option Addr) (w : World) (hl : ks.length = n) (hx : Rd w w.heap.size A (n * 4) (pks ks)) (hn : n ≤ c) (hnb : n ≤ 1099511627776) :
    Calls Tryz.prog 45 #[.slice A n c] w fun e w' => ∃ x : Int, e = .returned (.int .i64 x) ∧ -1 ≤ x ∧ x < n ∧ (0 ≤ x ↔ 0 < els ks) ∧ w' = w := by
  have HL := Lib.hid hl
  have HX := Lib.hid hx
  have hnI : (n : Int) ≤ 1099511627776 := by omega
  have hncI : (n : Int) ≤ (c : Int) := by omega
  clear hx hl
  go_enter Tryz.func45, Tryz.ntmps45
  go_wp2_with fail
  go_loopw [3, 4] (fun v i wr => ∃ (j : Nat) (x : Int), j ≤ n ∧ -1 ≤ x ∧ x < n ∧ i = .int .i64 (j : Int) ∧ v = .int .i64 x ∧ Hid (0 ≤ x ↔ 0 < els (ks.take j)) ∧ wr = w) (fun _ i _ => n - (intOf i).toNat)
  case atStart => exact ⟨0, -1, Nat.zero_le _, by omega, by omega, rfl, rfl, by show (0 : Int) ≤ -1 ↔ 0 < els (ks.take 0); simp [els], rfl⟩
  case round =>
    obtain ⟨j, x, hj, hx0, hx1, rfl, rfl, HE, rfl⟩ := hrel
    by_cases hlt : j < n
    · have hltI : (j : Int) < (n : Int) := by omega
      obtain ⟨k, hk⟩ : ∃ k, ks[j]? = some k := ⟨_, List.getElem?_eq_getElem (by have := HL.out; omega)⟩
      obtain ⟨b, off, hA, hbl, d0, d1, d2, d3⟩ := pk_cells HX.out HL.out j k hk
      subst hA
      have HT : Hid (els (ks.take (j + 1)) = els (ks.take j) + (if k.el = true then 1 else 0)) := by
        show _ = _
        rw [take_one ks j k hk]
        simp only [els, List.countP_append, List.countP_cons, List.countP_nil, Nat.zero_add]
      obtain ⟨el, hel⟩ : ∃ z, k.el = z := ⟨_, rfl⟩
      rw [hel] at d2 HT
      clear hk hel d0 d1 d3
      cases el
      · go_wp2_with fail
        refine ⟨⟨j + 1, x, by omega, hx0, hx1, by go_num, rfl, by show _ ↔ _; rw [HT.out]; simpa using HE.out, trivial⟩, ?_⟩
        simp [intOf]; omega
      · go_wp2_with fail
        refine ⟨⟨j + 1, (j : Int), by omega, by omega, by omega, by go_num, rfl, by show _ ↔ _; rw [HT.out]; simp, trivial⟩, ?_⟩
        simp [intOf]; omega
    · have hltI : ¬ (j : Int) < (n : Int) := by omega
      have HE2 : Hid (0 ≤ x ↔ 0 < els ks) := by have := HE.out; rwa [List.take_of_length_le (by have := HL.out; omega)] at this
      clear HE
      go_wp2_with fail
      go_ret
      exact ⟨x, rfl, hx0, hx1, HE2.out, rfl⟩

set_option maxRecDepth 100000 in
set_option maxHeartbeats 4000000 in
theorem rframes_any (kq : List (Pk × List Fq)) (n c : Nat) (A : Option Addr) (w : World) (hl : kq.length = n) (hx : Rd w w.heap.size A (n * 4) (pks (kq.map (·.1)))) (hn : n ≤ c) (hnb : n ≤ 1099511627776) (hf : ∀ x ∈ kq, x.2.length = x.1.fn ∧ Rd w w.heap.size x.1.fa (x.1.fn * 9) (fqs x.2)) (ht : (allF kq).length ≤ 1099511627776) :
    Calls Tryz.prog 38 #[.slice A n c] w fun e w' => ∃ A' c', e = .returned (.slice A' (allF kq).length c') ∧ w'.ownsRow w.heap.size 68 9 (.slice A' (allF kq).length c') (allF kq).length (fqs (allF kq)) ∧ Below w.heap.size w w' := by
  obtain ⟨i0, hi, hz0, hz1, hz2⟩ := info_parts infoFr
  have HI := Lib.hid (And.intro hi (And.intro hz0 (And.intro hz1 hz2)))
  have HL := Lib.hid hl
  have HX := Lib.hid hx
  have HF := Lib.hid hf
  have HT := Lib.hid ht
  have hnI : (n : Int) ≤ 1099511627776 := by omega
  have hncI : (n : Int) ≤ (c : Int) := by omega
  clear hx hl hf ht hi hz0 hz1 hz2
  go_enter Tryz.func38, Tryz.ntmps38
  go_wp2_with fail
  go_loopw [3, 4] (fun v i wr => ∃ j m : Nat, j ≤ n ∧ i = .int .i64 (j : Int) ∧ (∃ A3 c3, v = .slice A3 m c3) ∧ Hid (m = (allF (kq.take j)).length ∧ wr.ownsRow w.heap.size 68 9 v m (fqs (allF (kq.take j))) ∧ Below w.heap.size w wr)) (fun _ i _ => n - (intOf i).toNat)
  case atStart => exact ⟨0, 0, Nat.zero_le _, rfl, ⟨_, _, rfl⟩, rfl, own_nil _ _ _ _, Below.refl _ _⟩
  case round =>
    obtain ⟨j, m, hj, rfl, ⟨A3, c3, rfl⟩, HK⟩ := hrel
    by_cases hlt : j < n
    · have hltI : (j : Int) < (n : Int) := by omega
      obtain ⟨⟨k, qs⟩, hk⟩ : ∃ k, kq[j]? = some k := ⟨_, List.getElem?_eq_getElem (by have := HL.out; omega)⟩
      obtain ⟨b, off, hA, hbl, c0, c1, c2, c3'⟩ := pk_cells HX.out (by rw [List.length_map]; exact HL.out) j k (by simp [hk])
      subst hA
      obtain ⟨he, ho, hb⟩ := HK.out
      obtain ⟨hq1, hq2⟩ := HF.out _ (List.mem_of_getElem? hk)
      simp only at hq1 hq2
      have e := fun i => hb.cell (p := ⟨b, off + j * 4 + i, none⟩) hbl
      have c3' := (e 3).trans c3'
      have HS : Hid (allF (kq.take (j + 1)) = allF (kq.take j) ++ qs) := by
        show _ = _
        rw [take_one kq j _ hk, allF_app]
        simp [Pa.allF]
      have hle := allF_le kq (j + 1)
      rw [HS.out, List.length_append, ← he, hq1] at hle
      have htt := HT.out
      have HB := Lib.hid hb
      have HO := Lib.hid ho
      have HR : Hid (Rd wr wr.heap.size k.fa (k.fn * 9) (fqs qs)) := (hq2.below hb (Nat.le_refl _)).more hb.size
      have hd2 : Hid (m + k.fn ≤ maxLen) := by show _ ≤ _; unfold maxLen; omega
      have hd3 : Hid ((m + k.fn) * 104 ≤ 140737488355328) := by show _ ≤ _; omega
      have hd4 : Hid (w.heap.size ≤ wr.heap.size) := hb.size
      have HE := Lib.hid he
      have HQ1 := Lib.hid hq1
      clear he ho hb HK hle htt hq1 hq2 e c0 c1 c2
      obtain ⟨knum, kat, kel, kfa, kfn, kfc⟩ := k
      simp only at c3' HR hd2 hd3 HQ1
      go_wp2_with (at_builtin; refine wpList_app _ rfl (.tmp 11) (.tmp 16) 44 rfl w.heap.size 68 i0 (.agg #[.int .i64 0, .int .i64 0, .int .i64 0, .int .i64 0, .int .i64 0, .int .i64 0, .bool false, .slice none 0 0, .slice none 0 0]) 9 104 Tryz.underlying44 HI.out.1 HI.out.2.1 HI.out.2.2.1 HI.out.2.2.2 rfl (by decide) (.slice A3 m c3) m (fqs (allF (kq.take j))) rfl HO.out wr.heap.size kfa kfn kfc (fqs qs) rfl HR.out (ones_fqs _) hd2.out hd3.out hd4.out ?_)
      intro v5 w5 ho5 hg5
      obtain ⟨A5, c5, e5, _⟩ := own_form ho5
      subst e5
      have HN' : Hid (m + kfn = (allF (kq.take (j + 1))).length ∧ w5.ownsRow w.heap.size 68 9 (.slice A5 (m + kfn) c5) (m + kfn) (fqs (allF (kq.take (j + 1)))) ∧ Below w.heap.size w w5) := by
        rw [HS.out, fqs_app, List.length_append, HQ1.out]
        exact ⟨by rw [HE.out], ho5, HB.out.grown hg5 hd4.out (fun g hg => (HO.out.lt g hg).1)⟩
      clear ho5 hg5 c3'
      go_wp2_with fail
      refine ⟨⟨j + 1, m + kfn, by omega, by go_num, ⟨_, _, rfl⟩, HN'⟩, ?_⟩
      simp [intOf]; omega
    · have hltI : ¬ (j : Int) < (n : Int) := by omega
      obtain rfl : j = n := by omega
      obtain ⟨he, ho, hb⟩ := HK.out
      rw [List.take_of_length_le (by have := HL.out; omega)] at he ho
      have HF2 := Lib.hid (And.intro he (And.intro ho hb))
      clear he ho hb HK
      go_wp2_with fail
      go_ret
      obtain ⟨he, ho, hb⟩ := HF2.out
      subst he
      exact ⟨A3, c3, rfl, ho, hb⟩
end Go.Proofs.YtebfjphmlggacaaGreat.Xr
