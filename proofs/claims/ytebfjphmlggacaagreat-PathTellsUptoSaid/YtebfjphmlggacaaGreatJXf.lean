/- The reference's Ack: a contract. Conditions: as each theorem lists them. -/
import Derived.Test.YtebfjphmlggacaaGreatJXd
import Derived.Test.YtebfjphmlggacaaGreatJLj
set_option linter.unusedSimpArgs false
set_option linter.unusedVariables false

namespace Go.Proofs.YtebfjphmlggacaaGreat.Xr
open Go Go.RowKit Go.Proofs.YtebfjphmlggacaaGreat Go.Proofs.YtebfjphmlggacaaGreat.Sp Go.Proofs.YtebfjphmlggacaaGreat.Ld Go.Proofs.YtebfjphmlggacaaGreat.Pa

theorem below_grown {a b c : World} {r : Option Nat} (h : Below a.heap.size a b) (k : b.grownBy c r) : a.grownBy c r :=
  ⟨k.os.trans h.os, k.tape.trans h.tape, k.output.trans h.output, Nat.le_trans h.size k.size, fun i hi hne => (k.block i (Nat.lt_of_lt_of_le hi h.size) hne).trans (h.block i hi)⟩
theorem own_ne {w : World} {base e size n c m b off g : Nat} {xs : List Value} {cu : Array Value} {S : TypeId} (h : w.ownsRow base e size (.slice (some ⟨b, off, none⟩) n c) m xs) (hg : w.heap[g]? = some (.cells cu S (0, 0))) (hS : e ≠ S) : b ≠ g := fun e' => by
  subst e'
  rcases h.2 with ⟨h2, _⟩ | ⟨g', cap, cu', h2, _, hh, _⟩
  · simp at h2
  · simp only [Value.slice.injEq, Option.some.injEq, Addr.mk.injEq] at h2
    obtain ⟨⟨rfl, _⟩, _⟩ := h2
    rw [hg] at hh
    simp only [Option.some.injEq, Obj.cells.injEq, and_true] at hh
    exact hS hh.2.symm
theorem set_grown (w : World) (p j : Nat) (v : Value) : w.grownBy (w.setCell ⟨p, j, none⟩ v) (some p) := ⟨rfl, rfl, rfl, by simp [World.setCell], fun k hk hne => Below.heap_setCell _ _ _ _ (fun e => hne (by rw [e]))⟩
section
variable {w w' : World} {lo p o : Nat} {T : TypeId} {cur : Array Value} {ks : List Pk} {next acked : Nat}
theorem RLed.other (h : RLed w lo p o T cur ks next acked) {g : Nat} {cu : Array Value} {S : TypeId} (hg : w.grownBy w' (some g)) (hgp : w.heap[g]? = some (.cells cu S (0, 0))) (hS : 75 ≠ S) (hne : p ≠ g) : RLed w' lo p o T cur ks next acked := by
  obtain ⟨A, c, e, ho, hl⟩ := h.row
  exact ⟨h.hlo, (hg.block p h.lt.2 (by simpa using hne)).trans h.hp, h.hT, ⟨A, c, e, own_other ho hg hgp hS, hl⟩, h.c1, h.c2⟩
theorem RLed.setAck (h : RLed w lo p o T cur ks next acked) (a : Nat) : RLed (w.setCell ⟨p, o + 2, none⟩ (.int .i64 (a : Int))) lo p o T (cur.setIfInBounds (o + 2) (.int .i64 (a : Int))) ks next a := by
  obtain ⟨A, c, e, ho, hl⟩ := h.row
  exact ⟨h.hlo, set_slot h.hp _ _, h.hT, ⟨A, c, (slot_other (by omega)).trans e, own_other ho (set_grown w p (o + 2) _) h.hp h.hT, hl⟩, (slot_other (by omega)).trans h.c1, slot_set h.c2⟩
end
/-- Which ones are in one of the first runs. -/
def ff (rs : List (Int × Int)) (j : Nat) : Pk → Bool := fun k => ranB (rs.take j) k.num
theorem ranB_snoc (l : List (Int × Int)) (r : Int × Int) (n : Int) : ranB (l ++ [r]) n = (ranB l n || inB n r) := by simp [ranB]
theorem inB_none (n : Int) (r : Int × Int) (h : hasN r = false) : inB n r = false := by
  simp only [hasN, Bool.and_eq_false_iff, decide_eq_false_iff_not] at h
  simp only [inB]
  rw [Bool.eq_false_iff]
  intro hh
  simp only [Bool.and_eq_true, decide_eq_true_eq] at hh
  omega
def mixF (f f' : Pk → Bool) (ks : List Pk) (j : Nat) : List Bool := (ks.take j).map f' ++ (ks.drop j).map f
theorem mix_zero (f f' : Pk → Bool) (ks : List Pk) : mixF f f' ks 0 = ks.map f := by simp [mixF]
theorem mix_all (f f' : Pk → Bool) (ks : List Pk) : mixF f f' ks ks.length = ks.map f' := by simp [mixF]
theorem mix_len (f f' : Pk → Bool) (ks : List Pk) (j : Nat) : (mixF f f' ks j).length = ks.length := by
  unfold mixF
  rw [List.length_append, List.length_map, List.length_map, ← List.length_append, List.take_append_drop]
theorem mix_drop (ks : List Pk) (j : Nat) (k : Pk) (h : ks[j]? = some k) : ks.drop j = k :: ks.drop (j + 1) := by
  obtain ⟨hj, e⟩ := List.getElem?_eq_some_iff.1 h
  rw [List.drop_eq_getElem_cons hj, e]
theorem mix_set (f f' : Pk → Bool) (ks : List Pk) (j : Nat) (k : Pk) (h : ks[j]? = some k) : (mixF f f' ks j).set j (f' k) = mixF f f' ks (j + 1) := by
  have hj : j < ks.length := (List.getElem?_eq_some_iff.1 h).1
  have hl : ((ks.take j).map f').length = j := by rw [List.length_map, List.length_take]; omega
  unfold mixF
  rw [List.set_append_right _ _ (by omega), hl, Nat.sub_self, take_one ks j k h, List.map_append, List.append_assoc, mix_drop ks j k h]
  rfl
theorem mix_get (f f' : Pk → Bool) (ks : List Pk) (j : Nat) (k : Pk) (h : ks[j]? = some k) : (mixF f f' ks j)[j]? = some (f k) := by
  have hj : j < ks.length := (List.getElem?_eq_some_iff.1 h).1
  have hl : ((ks.take j).map f').length = j := by rw [List.length_map, List.length_take]; omega
  unfold mixF
  rw [List.getElem?_append_right (by omega), hl, Nat.sub_self, mix_drop ks j k h]
  rfl
/-- Within Ack: the ledger, its greatest bh, the list of those that go in block g. -/
structure AckI (u wr : World) (lo p o : Nat) (T : TypeId) (cur : Array Value) (ks : List Pk) (next g bh : Nat) (fl : List Bool) : Prop where
  led : ∃ cur', RLed wr lo p o T cur' ks next bh ∧ Same3 o cur cur'
  hp : wr.heap[g]? = some (.cells (fl.map Value.bool).toArray 4 (0, 0))
  new : u.heap.size ≤ g
  gr : u.grownBy wr (some p)
section
variable {u wr w' : World} {lo p o : Nat} {T : TypeId} {cur : Array Value} {ks : List Pk} {next g bh : Nat} {fl : List Bool}
theorem AckI.keep (h : AckI u wr lo p o T cur ks next g bh fl) (hb : Below wr.heap.size wr w') : AckI u w' lo p o T cur ks next g bh fl := by
  obtain ⟨cur', h1, h2⟩ := h.led
  exact ⟨⟨cur', h1.keep hb, h2⟩, (hb.block g (lt_of_block h.hp)).trans h.hp, h.new, grown_below2 h.gr hb⟩
theorem AckI.setAck (h : AckI u wr lo p o T cur ks next g bh fl) (hpu : p < u.heap.size) (a : Nat) : AckI u (wr.setCell ⟨p, o + 2, none⟩ (.int .i64 (a : Int))) lo p o T cur ks next g a fl := by
  obtain ⟨cur', h1, h2⟩ := h.led
  have hne : g ≠ p := by have := h.new; omega
  exact ⟨⟨_, h1.setAck a, h2.set (o + 2) (by omega) _⟩, (Below.heap_setCell _ _ _ _ hne).trans h.hp, h.new, grown_two2 h.gr (set_grown wr p (o + 2) _)⟩
theorem AckI.put (h : AckI u wr lo p o T cur ks next g bh fl) (hpu : p < u.heap.size) {i : Nat} (_ : i < ks.length) (b : Bool) : AckI u (wr.setCell ⟨g, i, none⟩ (.bool b)) lo p o T cur ks next g bh (fl.set i b) := by
  obtain ⟨cur', h1, h2⟩ := h.led
  have hne : p ≠ g := by have := h.new; omega
  have hg : wr.grownBy (wr.setCell ⟨g, i, none⟩ (.bool b)) (some g) := set_grown wr g i _
  refine ⟨⟨cur', h1.other hg h.hp (by decide) hne, h2⟩, ?_, h.new, ⟨hg.os.trans h.gr.os, hg.tape.trans h.gr.tape, hg.output.trans h.gr.output, Nat.le_trans h.gr.size hg.size, fun k hk hn => ?_⟩⟩
  · rw [set_slot h.hp, List.map_set]
    simp
  · rw [hg.block k (Nat.lt_of_lt_of_le hk h.gr.size) (by have := h.new; simp; omega)]
    exact h.gr.block k hk hn
end

set_option maxRecDepth 100000 in
set_option maxHeartbeats 16000000 in
theorem rack_any {w : World} {lo p o : Nat} {T : TypeId} {cur : Array Value} {ks : List Pk} {next acked : Nat} (h : RLed w lo p o T cur ks next acked) (hn : ks.length ≤ 1099511627776) (hnx : next ≤ 1099511627776) (hac : acked ≤ next) (hnum : ∀ k ∈ ks, k.num ≤ 1099511627776) (rs : List (Int × Int)) (hm : rs.length ≤ 1000000) (A : Option Addr) (c : Nat) (hc : rs.length ≤ c) (hrd : Rd w w.heap.size A (rs.length * 2) (ints (pl rs))) (hbp : ∀ a, A = some a → a.block ≠ p) :
    Calls Tryz.prog 35 #[.pointer (some ⟨p, o, none⟩), .slice A rs.length c] w fun e w' => ((∃ r ∈ rs, (next : Int) ≤ r.2) ∧ e = .returned (.tuple #[.slice none 0 0, .int .i64 2]) ∧ Below w.heap.size w w') ∨
      ((∀ r ∈ rs, r.2 < (next : Int)) ∧ ∃ A' c' cur', e = .returned (.tuple #[.slice A' (ks.filter fun k => ranB rs k.num).length c', .int .i64 0]) ∧ (ks.filter fun k => ranB rs k.num).length ≤ c' ∧ w'.ownsRow w.heap.size 75 4 (.slice A' (ks.filter fun k => ranB rs k.num).length c') (ks.filter fun k => ranB rs k.num).length (pks (ks.filter fun k => ranB rs k.num)) ∧ RLed w' lo p o T cur' (ks.filter fun k => !ranB rs k.num) next (behF acked rs) ∧ Same3 o cur cur' ∧ w.grownBy w' (some p)) := by
  obtain ⟨m, hmm⟩ : ∃ m, Hid (rs.length = m) := ⟨_, rfl⟩
  rw [hmm.out] at hm hc hrd ⊢
  obtain ⟨i0, hi, hz0, hz1, hz2⟩ := info_parts infoB1
  have hmk := fun W => run_make (P := Tryz.prog) W 104 4 i0 (.bool false) Tryz.underlying104 hi hz0 .i64 .i64 (ks.length : Int) (ks.length : Int) (by omega) (by omega) (by rw [hz2]; omega) (by omega)
  simp only [hz1, Int.toNat_natCast] at hmk
  have H := Lib.hid h
  have HNM := Lib.hid hnum
  have HRD := Lib.hid hrd
  have HBP := Lib.hid hbp
  have HAC := Lib.hid hac
  have hnI : (ks.length : Int) ≤ 1099511627776 := by omega
  have hnxI : (next : Int) ≤ 1099511627776 := by omega
  have hmI : (m : Int) ≤ 1000000 := by omega
  have hmc : (m : Int) ≤ (c : Int) := by omega
  clear h hnum hi hz0 hz1 hz2 hrd hbp hac
  go_enter Tryz.func35, Tryz.ntmps35
  go_wp2_with fail
  go_loopw [6] (fun i wr => ∃ j : Nat, j ≤ m ∧ i = .int .i64 (j : Int) ∧ Hid ((∀ r ∈ rs.take j, r.2 < (next : Int)) ∧ Below w.heap.size w wr)) (fun i _ => m - (intOf i).toNat)
  case atStart => exact ⟨0, Nat.zero_le _, rfl, (fun r hr => by simp at hr), Below.refl _ _⟩
  case round =>
    obtain ⟨j, hj, rfl, HK⟩ := hrel
    by_cases hlt : j < m
    · have hltI : (j : Int) < (m : Int) := by omega
      obtain ⟨b, off, hA, hb, hcs⟩ := HRD.out.2 (by omega)
      subst hA
      have hj' : j < rs.length := by rw [hmm.out]; exact hlt
      rcases hxy : rs[j]'hj' with ⟨x, y⟩
      have hrk : rs[j]? = some (x, y) := by rw [List.getElem?_eq_getElem hj', hxy]
      have hg := pl_get0 rs j (x, y) hrk
      have HRK := Lib.hid hrk
      have hcx : wr.cell? ⟨b, off + j * 2, none⟩ = some (.int .i64 x) := by
        rw [HK.out.2.cell (p := ⟨b, off + j * 2, none⟩) hb, show off + j * 2 = off + 2 * j by omega, hcs (2 * j) _ (ints_get _ _ (by rw [pl_len]; omega)), hg.1]
      have hcy : wr.cell? ⟨b, off + j * 2 + 1, none⟩ = some (.int .i64 y) := by
        rw [HK.out.2.cell (p := ⟨b, off + j * 2 + 1, none⟩) hb, show off + j * 2 + 1 = off + (2 * j + 1) by omega, hcs (2 * j + 1) _ (ints_get _ _ (by rw [pl_len]; omega)), hg.2]
      have hcn : wr.cell? ⟨p, o + 1, none⟩ = some (.int .i64 (next : Int)) := (H.out.keep HK.out.2).cell.1
      clear hg hcs hxy hj' hrk hmk
      go_wp2_with fail
      go_quiet (fail)
      have HBD : Hid (Below w.heap.size w (wr.drewN nq)) := HK.out.2.trans (Below.drewN' _ _ _)
      by_cases hbad : (next : Int) ≤ y
      · go_wp2_with fail
        go_ret2
        exact .inl ⟨⟨(x, y), List.mem_of_getElem? HRK.out, hbad⟩, rfl, HBD.out⟩
      · have HN' : Hid ((∀ r ∈ rs.take (j + 1), r.2 < (next : Int)) ∧ Below w.heap.size w (wr.drewN nq)) := by
          refine ⟨fun r hr => ?_, HBD.out⟩
          rw [take_snoc HRK.out, List.mem_append] at hr
          rcases hr with hr | hr
          · exact HK.out.1 r hr
          · simp only [List.mem_cons, List.not_mem_nil, or_false] at hr
            subst hr
            show y < _
            omega
        clear HK HBD
        go_wp2_with fail
        refine ⟨⟨j + 1, by omega, by go_num, HN'⟩, ?_⟩
        simp [intOf]; omega
    · have hltI : ¬ (j : Int) < (m : Int) := by omega
      obtain rfl : m = j := by omega
      obtain ⟨hk1, hbw⟩ := HK.out
      rw [List.take_of_length_le (by rw [hmm.out]; exact Nat.le_refl _)] at hk1
      have HALL : Hid (∀ r ∈ rs, r.2 < (next : Int)) := hk1
      have HU := Lib.hid hbw
      obtain ⟨u, hu⟩ : ∃ x, wr = x := ⟨_, rfl⟩
      rw [hu] at HU ⊢
      have HW := Lib.hid (H.out.keep HU.out)
      obtain ⟨A0, c0, hA0, hO0, hlc0⟩ := HW.out.row
      have hc0 := cell_slot HW.out.hp hA0
      have hlcI : (ks.length : Int) ≤ (c0 : Int) := by omega
      have HPU : Hid (p < u.heap.size) := HW.out.lt.2
      clear HK hk1 hbw hu hA0 hO0
      go_upto_region 7 with (fail)
      clear hmk
      obtain ⟨g, hg⟩ : ∃ x, u.heap.size = x := ⟨_, rfl⟩
      obtain ⟨w1, hw1⟩ : ∃ x, u.alloc (.cells (madeCells #[.bool false] ks.length) 4) = x := ⟨_, rfl⟩
      have hb1 : Below u.heap.size u w1 := hw1 ▸ (Below.refl _ _).alloc (Nat.le_refl _) _
      have HS1 : Hid (AckI u w1 lo p o T cur ks next g acked (ks.map (ff rs 0))) := by
        refine ⟨⟨cur, HW.out.keep hb1, Same3.refl _ _⟩, ?_, Nat.le_of_eq hg, ⟨hb1.os, hb1.tape, hb1.output, hb1.size, fun i hi _ => hb1.block i hi⟩⟩
        have e0 : (ks.map (ff rs 0)).map Value.bool = List.replicate ks.length (Value.bool false) := List.eq_replicate_iff.2 ⟨by simp, fun b hb => by
          simp only [List.map_map, List.mem_map] at hb
          obtain ⟨k, _, rfl⟩ := hb
          rfl⟩
        have e : (madeCells #[Value.bool false] ks.length) = ((ks.map (ff rs 0)).map Value.bool).toArray := by
          rw [← Array.toList_inj, toList_madeCells_one, e0]
        rw [← hw1, ← hg, ← e]
        exact heap_alloc_new _ _
      rw [hw1, hg]
      have HPG : Hid (p ≠ g) := by have := HPU.out; show p ≠ g; omega
      clear hw1 hc0 hg hb1 HW hlcI hlc0
      go_wp2_with fail
      go_loopw [8] (fun i wr => ∃ j bh : Nat, j ≤ m ∧ i = .int .i64 (j : Int) ∧ bh ≤ 1099511627776 ∧ Hid (bh = behF acked (rs.take j) ∧ AckI u wr lo p o T cur ks next g bh (ks.map (ff rs j)))) (fun i _ => m - (intOf i).toNat)
      case atStart => exact ⟨0, acked, Nat.zero_le _, rfl, by have := HAC.out; omega, rfl, HS1.out⟩
      case round =>
        clear HS1
        obtain ⟨j, bh, hj, rfl, hbh, HK⟩ := hrel
        have hbhI : (bh : Int) ≤ 1099511627776 := by omega
        by_cases hlt : j < m
        · have hltI : (j : Int) < (m : Int) := by omega
          obtain ⟨b, off, hA, hb, hcs⟩ := HRD.out.2 (by omega)
          subst hA
          have hbp : b ≠ p := HBP.out _ rfl
          have hbu : b < u.heap.size := Nat.lt_of_lt_of_le hb HU.out.size
          have hj' : j < rs.length := by rw [hmm.out]; exact hlt
          rcases hxy : rs[j]'hj' with ⟨x, y⟩
          have hrk : rs[j]? = some (x, y) := by rw [List.getElem?_eq_getElem hj', hxy]
          have hg := pl_get0 rs j (x, y) hrk
          have HRK := Lib.hid hrk
          have HCX : Hid (∀ W, u.grownBy W (some p) → W.cell? ⟨b, off + j * 2, none⟩ = some (.int .i64 x) ∧ W.cell? ⟨b, off + j * 2 + 1, none⟩ = some (.int .i64 y)) := fun W hW => by
            have e : ∀ t, W.cell? ⟨b, t, none⟩ = w.cell? ⟨b, t, none⟩ := fun t => (World.cell?_of_block (hW.block b hbu (by simpa using hbp))).trans (HU.out.cell (p := ⟨b, t, none⟩) hb)
            constructor
            · rw [e, show off + j * 2 = off + 2 * j by omega, hcs (2 * j) _ (ints_get _ _ (by rw [pl_len]; omega)), hg.1]
            · rw [e, show off + j * 2 + 1 = off + (2 * j + 1) by omega, hcs (2 * j + 1) _ (ints_get _ _ (by rw [pl_len]; omega)), hg.2]
          have hcx := (HCX.out wr HK.out.2.gr).1
          have hcy := (HCX.out wr HK.out.2.gr).2
          have hyn : y < (next : Int) := HALL.out (x, y) (List.mem_of_getElem? hrk)
          have HBG : Hid (b ≠ g) := by
            obtain ⟨cq, hq1, _⟩ := HK.out.2.led
            have := HK.out.2.new
            show b ≠ g
            omega
          have HSKIP : Hid (hasN (x, y) = false → bh = behF acked (rs.take (j + 1)) ∧ ks.map (ff rs j) = ks.map (ff rs (j + 1))) := fun hh => by
            refine ⟨?_, List.map_congr_left fun k _ => ?_⟩
            · rw [take_snoc HRK.out, behF_snoc, ← HK.out.1, hh]
              rfl
            · unfold ff
              rw [take_snoc HRK.out, ranB_snoc, inB_none _ _ hh, Bool.or_false]
          have HYES : Hid (hasN (x, y) = true → behF acked (rs.take (j + 1)) = max bh (y.toNat + 1) ∧ ∀ k : Pk, ff rs (j + 1) k = (ff rs j k || (decide (x ≤ (k.num : Int)) && decide ((k.num : Int) ≤ y)))) := fun hh => by
            refine ⟨?_, fun k => ?_⟩
            · rw [take_snoc HRK.out, behF_snoc, ← HK.out.1, hh, if_pos rfl]
            · simp only [hasN, Bool.and_eq_true, decide_eq_true_eq] at hh
              unfold ff
              rw [take_snoc HRK.out, ranB_snoc, inB, decide_eq_true hh.1, Bool.true_and]
          clear hg hcs hxy hj' hrk hbp hbu
          by_cases hx0 : x < 0
          · have hsk := HSKIP.out (by simp [hasN]; omega)
            have HN' : Hid (∀ n, bh = behF acked (rs.take (j + 1)) ∧ AckI u (wr.drewN n) lo p o T cur ks next g bh (ks.map (ff rs (j + 1)))) := fun n => ⟨hsk.1, by rw [← hsk.2]; exact HK.out.2.keep (Below.drewN' _ _ _)⟩
            clear HK HSKIP HYES HCX hsk
            go_wp2_with fail
            go_quiet (fail)
            go_wp2_with fail
            refine ⟨⟨j + 1, bh, by omega, by go_num, hbh, HN'.out _⟩, ?_⟩
            simp [intOf]; omega
          · by_cases hxy : x > y
            · have hsk := HSKIP.out (by simp [hasN]; omega)
              have HN' : Hid (∀ n, bh = behF acked (rs.take (j + 1)) ∧ AckI u (wr.drewN n) lo p o T cur ks next g bh (ks.map (ff rs (j + 1)))) := fun n => ⟨hsk.1, by rw [← hsk.2]; exact HK.out.2.keep (Below.drewN' _ _ _)⟩
              clear HK HSKIP HYES HCX hsk
              go_wp2_with fail
              go_quiet (fail)
              go_wp2_with fail
              refine ⟨⟨j + 1, bh, by omega, by go_num, hbh, HN'.out _⟩, ?_⟩
              simp [intOf]; omega
            · have hye := HYES.out (by simp [hasN]; omega)
              have HBN : Hid (behF acked (rs.take (j + 1)) = max bh (y.toNat + 1)) := hye.1
              have HFF := Lib.hid hye.2
              have hcb : wr.cell? ⟨p, o + 2, none⟩ = some (.int .i64 (bh : Int)) := by
                obtain ⟨cq, hq1, _⟩ := HK.out.2.led
                exact hq1.cell.2.1
              have hfz : wr.frozen? ⟨p, o + 2, none⟩ = false := by
                obtain ⟨cq, hq1, _⟩ := HK.out.2.led
                exact hq1.cell.2.2 _
              have HI0 := Lib.hid HK.out.2
              clear HK HSKIP HYES hye
              go_wp2_with fail
              go_quiet (fail)
              obtain ⟨w2, hw2⟩ : ∃ x, wr.drewN nq = x := ⟨_, rfl⟩
              have HI1 : Hid (AckI u w2 lo p o T cur ks next g bh (ks.map (ff rs j))) := by rw [← hw2]; exact HI0.out.keep (Below.drewN' _ _ _)
              have hcx : w2.cell? ⟨b, off + j * 2, none⟩ = some (.int .i64 x) := by rw [← hw2]; exact hcx
              have hcy : w2.cell? ⟨b, off + j * 2 + 1, none⟩ = some (.int .i64 y) := by rw [← hw2]; exact hcy
              have hcb : w2.cell? ⟨p, o + 2, none⟩ = some (.int .i64 (bh : Int)) := by rw [← hw2]; exact hcb
              have hfz : w2.frozen? ⟨p, o + 2, none⟩ = false := by rw [← hw2]; exact hfz
              rw [hw2]
              clear hw2 HI0
              go_wp2_with fail
              refine Rtt.still_tail 14 (by kernel_rfl) (by kernel_rfl) ?_
              intro wz hwz
              have hcx : wz.cell? ⟨b, off + j * 2, none⟩ = some (.int .i64 x) := by rw [hwz]; exact hcx
              have hcy : wz.cell? ⟨b, off + j * 2 + 1, none⟩ = some (.int .i64 y) := by rw [hwz]; exact hcy
              have hcb : wz.cell? ⟨p, o + 2, none⟩ = some (.int .i64 (bh : Int)) := by rw [hwz]; exact hcb
              have hfz : wz.frozen? ⟨p, o + 2, none⟩ = false := by rw [hwz]; exact hfz
              have HI2 : Hid (AckI u wz lo p o T cur ks next g bh (ks.map (ff rs j))) := by rw [hwz]; exact HI1.out.keep (Below.refl _ _).drew
              have hwy : IntKind.i64.wrap (y + 1) = y + 1 := IntWalk.i64_in _ (by omega)
              clear hwz HI1
              simp only [List.take_succ_cons, List.take_zero, List.drop_succ_cons, List.drop_zero]
              iterate 14 still_step
              refine wpStill_nil ?_
              have hmx : max (bh : Int) (y + 1) = ((max bh (y.toNat + 1) : Nat) : Int) := by omega
              obtain ⟨bn, hbn⟩ : ∃ z, max bh (y.toNat + 1) = z := ⟨_, rfl⟩
              have hbn1 : bn ≤ 1099511627776 := by omega
              rw [hbn] at hmx HBN
              have HI3 := Lib.hid (HI2.out.setAck HPU.out bn)
              clear HI2 hbn
              go_upto_region 12 with (fail)
              rw [hmx]
              obtain ⟨w3, hw3⟩ : ∃ z, wz.setCell ⟨p, o + 2, none⟩ (.int .i64 (bn : Int)) = z := ⟨_, rfl⟩
              rw [hw3] at HI3 ⊢
              clear hw3 hcx hcy hcb hfz hmx
              go_wp2_with fail
              go_loopw [9] (fun i wr => ∃ i' : Nat, i' ≤ ks.length ∧ i = .int .i64 (i' : Int) ∧ Hid (AckI u wr lo p o T cur ks next g bn (mixF (ff rs j) (ff rs (j + 1)) ks i'))) (fun i _ => ks.length - (intOf i).toNat)
              case atStart => exact ⟨0, Nat.zero_le _, rfl, by rw [mix_zero]; exact HI3.out⟩
              case round =>
                clear HI3
                obtain ⟨i, hi, rfl, HI4⟩ := hrel
                obtain ⟨cq, hq1, hq2⟩ := HI4.out.led
                obtain ⟨A0, c0, hA0, hO0, hlc0⟩ := hq1.row
                have cp := cell_slot hq1.hp hA0
                have hlcI : (ks.length : Int) ≤ (c0 : Int) := by omega
                by_cases hi2 : i < ks.length
                · have hiI : (i : Int) < (ks.length : Int) := by omega
                  obtain ⟨k, hk⟩ : ∃ k, ks[i]? = some k := ⟨_, List.getElem?_eq_getElem hi2⟩
                  obtain ⟨kb, koff, hA2, hbl, d0, d1, d2, d3⟩ := pk_cells (Rd.of_own hO0) rfl i k hk
                  subst hA2
                  have hkg : kb ≠ g := own_ne hO0 HI4.out.hp (by decide)
                  have HNE : Hid (p ≠ g ∧ kb ≠ g ∧ b ≠ g) := ⟨HPG.out, hkg, HBG.out⟩
                  have hknum := HNM.out k (List.mem_of_getElem? hk)
                  have HK1 := Lib.hid hk
                  have HFKV := HFF.out k
                  have cg : wr.cell? ⟨g, i, none⟩ = some (.bool (ff rs j k)) := cell_slot HI4.out.hp (by
                    have := mix_get (ff rs j) (ff rs (j + 1)) ks i k hk
                    simp [this])
                  have hfz : wr.frozen? ⟨g, i, none⟩ = false := free_slot HI4.out.hp
                  have cx := (HCX.out wr HI4.out.gr).1
                  have cy := (HCX.out wr HI4.out.gr).2
                  have ck := d0
                  have hcl : i < (mixF (ff rs j) (ff rs (j + 1)) ks i).length := by rw [mix_len]; exact hi2
                  obtain ⟨knum, hkn⟩ : ∃ x : Int, (k.num : Int) = x := ⟨_, rfl⟩
                  rw [hkn] at ck HFKV
                  have hkn0 : 0 ≤ knum := by omega
                  have hkn1 : knum ≤ 1099511627776 := by omega
                  clear d0 d1 d2 d3 hA0 hO0 hq1 hq2 hk hkn hkg
                  obtain ⟨f0, hf0⟩ : ∃ z, ff rs j k = z := ⟨_, rfl⟩
                  rw [hf0] at cg HFKV
                  clear hf0
                  clear hcl
                  cases f0
                  · by_cases hge : x ≤ knum
                    · have HFK : Hid (ff rs (j + 1) k = decide (knum ≤ y)) := by show _ = _; rw [HFKV, decide_eq_true hge]; rfl
                      have hgeb : decide (knum ≥ x) = true := decide_eq_true hge
                      clear HFKV
                      go_wp2_with fail
                      have HCS : Hid (wr.drew.cell? ⟨p, o, none⟩ = some (.slice (some ⟨kb, koff, none⟩) ks.length c0) ∧ wr.drew.cell? ⟨kb, koff + i * 4, none⟩ = some (.int .i64 knum) ∧ wr.drew.cell? ⟨b, off + j * 2, none⟩ = some (.int .i64 x) ∧ wr.drew.cell? ⟨b, off + j * 2 + 1, none⟩ = some (.int .i64 y)) := ⟨cp, ck, cx, cy⟩
                      have hfz' : wr.drew.frozen? ⟨g, i, none⟩ = false := hfz
                      have hgv : wr.drew.cell? ⟨g, i, none⟩ = some (.bool false) := cg
                      have HCT : Hid (∀ v, (wr.drew.setCell ⟨g, i, none⟩ v).cell? ⟨p, o, none⟩ = some (.slice (some ⟨kb, koff, none⟩) ks.length c0) ∧ (wr.drew.setCell ⟨g, i, none⟩ v).cell? ⟨kb, koff + i * 4, none⟩ = some (.int .i64 knum) ∧ (wr.drew.setCell ⟨g, i, none⟩ v).cell? ⟨b, off + j * 2, none⟩ = some (.int .i64 x) ∧ (wr.drew.setCell ⟨g, i, none⟩ v).cell? ⟨b, off + j * 2 + 1, none⟩ = some (.int .i64 y)) := fun v => by
                        have e : ∀ (z t : Nat), z ≠ g → (wr.drew.setCell ⟨g, i, none⟩ v).cell? ⟨z, t, none⟩ = wr.drew.cell? ⟨z, t, none⟩ := fun z t hz => World.cell?_of_block (w := wr.drew) (Below.heap_setCell _ _ _ _ hz)
                        exact ⟨(e p o HNE.out.1).trans HCS.out.1, (e kb (koff + i * 4) HNE.out.2.1).trans HCS.out.2.1, (e b (off + j * 2) HNE.out.2.2).trans HCS.out.2.2.1, (e b (off + j * 2 + 1) HNE.out.2.2).trans HCS.out.2.2.2⟩
                      clear cp ck cx cy cg hfz
                      refine wp_region_held_drew (S := (fun W : World => W.cell? ⟨p, o, none⟩ = some (.slice (some ⟨kb, koff, none⟩) ks.length c0) ∧ W.cell? ⟨kb, koff + i * 4, none⟩ = some (.int .i64 knum) ∧ W.cell? ⟨b, off + j * 2, none⟩ = some (.int .i64 x) ∧ W.cell? ⟨b, off + j * 2 + 1, none⟩ = some (.int .i64 y))) (by kernel_rfl) ?_ (fun hHeld => ?_)
                      · exact HCS.out
                      refine wpAnyH_take (i := 0) (v := ?_) rfl (by kernel_rfl) (by kernel_rfl) (by kernel_rfl) (fun _ _ _ h => h) (Or.inl ⟨by rfl, ?_⟩) (by assumption) ?_
                      rotate_left
                      · intro w hSw; (try dsimp only at hSw); go_simp; try with_reducible rfl
                      go_simp
                      refine wpAnyH_take (i := 1) (v := ?_) rfl (by kernel_rfl) (by kernel_rfl) (by kernel_rfl) (fun _ _ _ h => h) (Or.inl ⟨by rfl, ?_⟩) (by assumption) ?_
                      rotate_left
                      · intro w hSw; (try dsimp only at hSw); go_simp; try with_reducible rfl
                      go_simp
                      refine wpAnyH_take (i := 2) (v := ?_) rfl (by kernel_rfl) (by kernel_rfl) (by kernel_rfl) (fun _ _ _ h => h) (Or.inl ⟨by rfl, ?_⟩) (by assumption) ?_
                      rotate_left
                      · intro w hSw; (try dsimp only at hSw); go_simp; try with_reducible rfl
                      go_simp
                      refine wpAnyH_take (i := 3) (v := ?_) rfl (by kernel_rfl) (by kernel_rfl) (by kernel_rfl) (fun _ _ _ h => h) (Or.inl ⟨by rfl, ?_⟩) (by assumption) ?_
                      rotate_left
                      · intro w hSw; (try dsimp only at hSw); go_simp; try with_reducible rfl
                      go_simp
                      refine wpAnyH_take (i := 4) (v := ?_) rfl (by kernel_rfl) (by kernel_rfl) (by kernel_rfl) (fun _ _ _ h => h) (Or.inl ⟨by rfl, ?_⟩) (by assumption) ?_
                      rotate_left
                      · intro w hSw; (try dsimp only at hSw); go_simp; try with_reducible rfl
                      go_simp
                      refine wpAnyH_ready (rs := [5]) (by kernel_rfl) (by simp) ?_
                      refine AllReadyH.cons rfl (fun K hK => ?_) AllReadyH.nil
                      go_simp
                      refine hK.out _ _ ?_ (fun hHeld => ?_)
                      · exact HCS.out
                      clear hK K
                      go_simp
                      refine wpAnyH_take (i := 6) (v := ?_) rfl (by kernel_rfl) (by kernel_rfl) (by kernel_rfl) (fun _ _ _ h => h) (Or.inl ⟨by rfl, ?_⟩) (by assumption) ?_
                      rotate_left
                      · intro w hSw; (try dsimp only at hSw); go_simp; try with_reducible rfl
                      go_simp
                      refine wpAnyH_take (i := 7) (v := ?_) rfl (by kernel_rfl) (by kernel_rfl) (by kernel_rfl) (fun _ _ _ h => h) (Or.inl ⟨by rfl, ?_⟩) (by assumption) ?_
                      rotate_left
                      · intro w hSw; (try dsimp only at hSw); go_simp; try with_reducible rfl
                      go_simp
                      refine wpAnyH_take (i := 8) (v := ?_) rfl (by kernel_rfl) (by kernel_rfl) (by kernel_rfl) (fun _ _ _ h => h) (Or.inl ⟨by rfl, ?_⟩) (by assumption) ?_
                      rotate_left
                      · intro w hSw; (try dsimp only at hSw); go_simp; try with_reducible rfl
                      go_simp
                      refine wpAnyH_take (i := 9) (v := ?_) rfl (by kernel_rfl) (by kernel_rfl) (by kernel_rfl) (fun _ _ _ h => h) (Or.inl ⟨by rfl, ?_⟩) (by assumption) ?_
                      rotate_left
                      · intro w hSw; (try dsimp only at hSw); go_simp; try with_reducible rfl
                      go_simp
                      refine wpAnyH_take (i := 10) (v := ?_) rfl (by kernel_rfl) (by kernel_rfl) (by kernel_rfl) (fun _ _ _ h => h) (Or.inl ⟨by rfl, ?_⟩) (by assumption) ?_
                      rotate_left
                      · intro w hSw; (try dsimp only at hSw); go_simp; try with_reducible rfl
                      go_simp
                      refine wpAnyH_take (i := 11) (v := ?_) rfl (by kernel_rfl) (by kernel_rfl) (by kernel_rfl) (fun _ _ _ h => h) (Or.inl ⟨by rfl, ?_⟩) (by assumption) ?_
                      rotate_left
                      · intro w hSw; (try dsimp only at hSw); go_simp; try with_reducible rfl
                      go_simp
                      refine wpAnyH_take (i := 12) (v := ?_) rfl (by kernel_rfl) (by kernel_rfl) (by kernel_rfl) (fun _ _ _ h => h) (Or.inl ⟨by rfl, ?_⟩) (by assumption) ?_
                      rotate_left
                      · intro w hSw; (try dsimp only at hSw); go_simp; try with_reducible rfl
                      go_simp
                      refine wpAnyH_take (i := 13) (v := ?_) rfl (by kernel_rfl) (by kernel_rfl) (by kernel_rfl) (fun _ _ _ h => h) (Or.inl ⟨by rfl, ?_⟩) (by assumption) ?_
                      rotate_left
                      · intro w hSw; (try dsimp only at hSw); go_simp; try with_reducible rfl
                      go_simp
                      refine wpAnyH_take (i := 14) (v := ?_) rfl (by kernel_rfl) (by kernel_rfl) (by kernel_rfl) (fun _ _ _ h => h) (Or.inl ⟨by rfl, ?_⟩) (by assumption) ?_
                      rotate_left
                      · intro w hSw; (try dsimp only at hSw); go_simp; try with_reducible rfl
                      go_simp
                      refine wpAnyH_take (i := 15) (v := ?_) rfl (by kernel_rfl) (by kernel_rfl) (by kernel_rfl) (fun _ _ _ h => h) (Or.inl ⟨by rfl, ?_⟩) (by assumption) ?_
                      rotate_left
                      · intro w hSw; (try dsimp only at hSw); go_simp; try with_reducible rfl
                      go_simp
                      refine wpAnyH_take (i := 16) (v := ?_) rfl (by kernel_rfl) (by kernel_rfl) (by kernel_rfl) (fun _ _ _ h => h) (Or.inl ⟨by rfl, ?_⟩) (by assumption) ?_
                      rotate_left
                      · intro w hSw; (try dsimp only at hSw); go_simp; try with_reducible rfl
                      go_simp
                      refine wpAnyH_take (i := 17) (v := ?_) rfl (by kernel_rfl) (by kernel_rfl) (by kernel_rfl) (fun _ _ _ h => h) (Or.inl ⟨by rfl, ?_⟩) (by assumption) ?_
                      rotate_left
                      · intro w hSw; (try dsimp only at hSw); go_simp; try with_reducible rfl
                      go_simp
                      refine wpAnyH_take (i := 18) (v := ?_) rfl (by kernel_rfl) (by kernel_rfl) (by kernel_rfl) (fun _ _ _ h => h) (Or.inl ⟨by rfl, ?_⟩) (by assumption) ?_
                      rotate_left
                      · intro w hSw; (try dsimp only at hSw); go_simp; try with_reducible rfl
                      go_simp
                      refine wpAnyH_take (i := 19) (v := ?_) rfl (by kernel_rfl) (by kernel_rfl) (by kernel_rfl) (fun _ _ _ h => h) (Or.inl ⟨by rfl, ?_⟩) (by assumption) ?_
                      rotate_left
                      · intro w hSw; (try dsimp only at hSw); go_simp; try with_reducible rfl
                      go_simp
                      refine wpAnyH_take (i := 20) (v := ?_) rfl (by kernel_rfl) (by kernel_rfl) (by kernel_rfl) (fun _ _ _ h => h) (Or.inl ⟨by rfl, ?_⟩) (by assumption) ?_
                      rotate_left
                      · intro w hSw; (try dsimp only at hSw); go_simp; try with_reducible rfl
                      go_simp
                      refine wpAnyH_take (i := 21) (v := ?_) rfl (by kernel_rfl) (by kernel_rfl) (by kernel_rfl) (fun _ _ _ h => h) (Or.inl ⟨by rfl, ?_⟩) (by assumption) ?_
                      rotate_left
                      · intro w hSw; (try dsimp only at hSw); go_simp; try with_reducible rfl
                      go_simp
                      refine wpAnyH_take (i := 22) (v := ?_) rfl (by kernel_rfl) (by kernel_rfl) (by kernel_rfl) (fun _ _ _ h => h) (Or.inl ⟨by rfl, ?_⟩) (by assumption) ?_
                      rotate_left
                      · intro w hSw; (try dsimp only at hSw); go_simp; try with_reducible rfl
                      go_simp
                      refine wpAnyH_take (i := 23) (v := ?_) rfl (by kernel_rfl) (by kernel_rfl) (by kernel_rfl) (fun _ _ _ h => h) (Or.inl ⟨by rfl, ?_⟩) (by assumption) ?_
                      rotate_left
                      · intro w hSw; (try dsimp only at hSw); go_simp; try with_reducible rfl
                      go_simp
                      refine wpAnyH_take (i := 24) (v := ?_) rfl (by kernel_rfl) (by kernel_rfl) (by kernel_rfl) (fun _ _ _ h => h) (Or.inl ⟨by rfl, ?_⟩) (by assumption) ?_
                      rotate_left
                      · intro w hSw; (try dsimp only at hSw); go_simp; try with_reducible rfl
                      go_simp
                      refine wpAnyH_take (i := 25) (v := ?_) rfl (by kernel_rfl) (by kernel_rfl) (by kernel_rfl) (fun _ _ _ h => h) (Or.inl ⟨by rfl, ?_⟩) (by assumption) ?_
                      rotate_left
                      · intro w hSw; (try dsimp only at hSw); go_simp; try with_reducible rfl
                      go_simp
                      refine wpAnyH_take (i := 26) (v := ?_) rfl (by kernel_rfl) (by kernel_rfl) (by kernel_rfl) (fun _ _ _ h => h) (Or.inl ⟨by rfl, ?_⟩) (by assumption) ?_
                      rotate_left
                      · intro w hSw; (try dsimp only at hSw); go_simp; try with_reducible rfl
                      go_simp
                      refine wpAnyH_take (i := 27) (v := ?_) rfl (by kernel_rfl) (by kernel_rfl) (by kernel_rfl) (fun _ _ _ h => h) (Or.inl ⟨by rfl, ?_⟩) (by assumption) ?_
                      rotate_left
                      · intro w hSw; (try dsimp only at hSw); go_simp; try with_reducible rfl
                      go_simp
                      refine wpAnyH_take (i := 28) (v := ?_) rfl (by kernel_rfl) (by kernel_rfl) (by kernel_rfl) (fun _ _ _ h => h) (Or.inl ⟨by rfl, ?_⟩) (by assumption) ?_
                      rotate_left
                      · intro w hSw; (try dsimp only at hSw); go_simp; try with_reducible rfl
                      go_simp
                      refine wpAnyH_take (i := 29) (v := ?_) rfl (by kernel_rfl) (by kernel_rfl) (by kernel_rfl) (fun _ _ _ h => h) (Or.inl ⟨by rfl, ?_⟩) (by assumption) ?_
                      rotate_left
                      · intro w hSw; (try dsimp only at hSw); go_simp; try with_reducible rfl
                      go_simp
                      refine wpAnyH_take (i := 30) (v := ?_) rfl (by kernel_rfl) (by kernel_rfl) (by kernel_rfl) (fun _ _ _ h => h) (Or.inl ⟨by rfl, ?_⟩) (by assumption) ?_
                      rotate_left
                      · intro w hSw; (try dsimp only at hSw); go_simp; try with_reducible rfl
                      go_simp
                      refine wpAnyH_take (i := 31) (v := ?_) rfl (by kernel_rfl) (by kernel_rfl) (by kernel_rfl) (fun _ _ _ h => h) (Or.inl ⟨by rfl, ?_⟩) (by assumption) ?_
                      rotate_left
                      · intro w hSw; (try dsimp only at hSw); go_simp; try with_reducible rfl
                      go_simp
                      refine wpAnyH_take (i := 32) (v := ?_) rfl (by kernel_rfl) (by kernel_rfl) (by kernel_rfl) (fun _ _ _ h => h) (Or.inl ⟨by rfl, ?_⟩) (by assumption) ?_
                      rotate_left
                      · intro w hSw; (try dsimp only at hSw); go_simp; try with_reducible rfl
                      go_simp
                      refine wpAnyH_take (i := 33) (v := ?_) rfl (by kernel_rfl) (by kernel_rfl) (by kernel_rfl) (fun _ _ _ h => h) (Or.inl ⟨by rfl, ?_⟩) (by assumption) ?_
                      rotate_left
                      · intro w hSw; (try dsimp only at hSw); go_simp; try with_reducible rfl
                      go_simp
                      refine wpAnyH_take (i := 34) (v := ?_) rfl (by kernel_rfl) (by kernel_rfl) (by kernel_rfl) (fun _ _ _ h => h) (Or.inl ⟨by rfl, ?_⟩) (by assumption) ?_
                      rotate_left
                      · intro w hSw; (try dsimp only at hSw); go_simp; try with_reducible rfl
                      go_simp
                      refine wpAnyH_take (i := 35) (v := ?_) rfl (by kernel_rfl) (by kernel_rfl) (by kernel_rfl) (fun _ _ _ h => h) (Or.inl ⟨by rfl, ?_⟩) (by assumption) ?_
                      rotate_left
                      · intro w hSw; (try dsimp only at hSw); go_simp; try with_reducible rfl
                      go_simp
                      refine wpAnyH_take (i := 36) (v := ?_) rfl (by kernel_rfl) (by kernel_rfl) (by kernel_rfl) (fun _ _ _ h => h) (Or.inl ⟨by rfl, ?_⟩) (by assumption) ?_
                      rotate_left
                      · intro w hSw; (try dsimp only at hSw); go_simp; try with_reducible rfl
                      go_simp
                      refine wpAnyH_take (i := 37) (v := ?_) rfl (by kernel_rfl) (by kernel_rfl) (by kernel_rfl) (fun _ _ _ h => h) (Or.inl ⟨by rfl, ?_⟩) (by assumption) ?_
                      rotate_left
                      · intro w hSw; (try dsimp only at hSw); go_simp; try with_reducible rfl
                      go_simp
                      refine wpAnyH_take (i := 38) (v := ?_) rfl (by kernel_rfl) (by kernel_rfl) (by kernel_rfl) (fun _ _ _ h => h) (Or.inl ⟨by rfl, ?_⟩) (by assumption) ?_
                      rotate_left
                      · intro w hSw; (try dsimp only at hSw); go_simp; try with_reducible rfl
                      go_simp
                      refine wpAnyH_ready (rs := [39]) (by kernel_rfl) (by simp) ?_
                      refine AllReadyH.cons rfl (fun K hK => ?_) AllReadyH.nil
                      go_simp
                      refine hK.out _ _ ?_ (fun hHeld => ?_)
                      · exact HCT.out _
                      clear hK K
                      go_simp
                      refine wpAnyH_done (by kernel_rfl) ?_ _
                      have HN' : Hid (AckI u (wr.drew.setCell ⟨g, i, none⟩ (.bool (decide (knum ≤ y)))) lo p o T cur ks next g bn (mixF (ff rs j) (ff rs (j + 1)) ks (i + 1))) := by
                        rw [← mix_set _ _ ks i k HK1.out, HFK.out]
                        exact (HI4.out.keep (Below.refl _ _).drew).put HPU.out hi2 _
                      clear HI4 HCS HCT
                      go_wp2_with fail
                      refine ⟨⟨i + 1, by omega, by go_num, HN'⟩, ?_⟩
                      simp [intOf]; omega
                    · have HFK : Hid (ff rs (j + 1) k = false) := by show _ = _; rw [HFKV, decide_eq_false hge]; rfl
                      have hgeb : decide (knum ≥ x) = false := decide_eq_false hge
                      clear HFKV
                      go_wp2_with fail
                      have HCS : Hid (wr.drew.cell? ⟨p, o, none⟩ = some (.slice (some ⟨kb, koff, none⟩) ks.length c0) ∧ wr.drew.cell? ⟨kb, koff + i * 4, none⟩ = some (.int .i64 knum) ∧ wr.drew.cell? ⟨b, off + j * 2, none⟩ = some (.int .i64 x) ∧ wr.drew.cell? ⟨b, off + j * 2 + 1, none⟩ = some (.int .i64 y)) := ⟨cp, ck, cx, cy⟩
                      have hfz' : wr.drew.frozen? ⟨g, i, none⟩ = false := hfz
                      have hgv : wr.drew.cell? ⟨g, i, none⟩ = some (.bool false) := cg
                      have HCT : Hid (∀ v, (wr.drew.setCell ⟨g, i, none⟩ v).cell? ⟨p, o, none⟩ = some (.slice (some ⟨kb, koff, none⟩) ks.length c0) ∧ (wr.drew.setCell ⟨g, i, none⟩ v).cell? ⟨kb, koff + i * 4, none⟩ = some (.int .i64 knum) ∧ (wr.drew.setCell ⟨g, i, none⟩ v).cell? ⟨b, off + j * 2, none⟩ = some (.int .i64 x) ∧ (wr.drew.setCell ⟨g, i, none⟩ v).cell? ⟨b, off + j * 2 + 1, none⟩ = some (.int .i64 y)) := fun v => by
                        have e : ∀ (z t : Nat), z ≠ g → (wr.drew.setCell ⟨g, i, none⟩ v).cell? ⟨z, t, none⟩ = wr.drew.cell? ⟨z, t, none⟩ := fun z t hz => World.cell?_of_block (w := wr.drew) (Below.heap_setCell _ _ _ _ hz)
                        exact ⟨(e p o HNE.out.1).trans HCS.out.1, (e kb (koff + i * 4) HNE.out.2.1).trans HCS.out.2.1, (e b (off + j * 2) HNE.out.2.2).trans HCS.out.2.2.1, (e b (off + j * 2 + 1) HNE.out.2.2).trans HCS.out.2.2.2⟩
                      clear cp ck cx cy cg hfz
                      refine wp_region_held_drew (S := (fun W : World => W.cell? ⟨p, o, none⟩ = some (.slice (some ⟨kb, koff, none⟩) ks.length c0) ∧ W.cell? ⟨kb, koff + i * 4, none⟩ = some (.int .i64 knum) ∧ W.cell? ⟨b, off + j * 2, none⟩ = some (.int .i64 x) ∧ W.cell? ⟨b, off + j * 2 + 1, none⟩ = some (.int .i64 y))) (by kernel_rfl) ?_ (fun hHeld => ?_)
                      · exact HCS.out
                      refine wpAnyH_take (i := 0) (v := ?_) rfl (by kernel_rfl) (by kernel_rfl) (by kernel_rfl) (fun _ _ _ h => h) (Or.inl ⟨by rfl, ?_⟩) (by assumption) ?_
                      rotate_left
                      · intro w hSw; (try dsimp only at hSw); go_simp; try with_reducible rfl
                      go_simp
                      refine wpAnyH_take (i := 1) (v := ?_) rfl (by kernel_rfl) (by kernel_rfl) (by kernel_rfl) (fun _ _ _ h => h) (Or.inl ⟨by rfl, ?_⟩) (by assumption) ?_
                      rotate_left
                      · intro w hSw; (try dsimp only at hSw); go_simp; try with_reducible rfl
                      go_simp
                      refine wpAnyH_take (i := 2) (v := ?_) rfl (by kernel_rfl) (by kernel_rfl) (by kernel_rfl) (fun _ _ _ h => h) (Or.inl ⟨by rfl, ?_⟩) (by assumption) ?_
                      rotate_left
                      · intro w hSw; (try dsimp only at hSw); go_simp; try with_reducible rfl
                      go_simp
                      refine wpAnyH_take (i := 3) (v := ?_) rfl (by kernel_rfl) (by kernel_rfl) (by kernel_rfl) (fun _ _ _ h => h) (Or.inl ⟨by rfl, ?_⟩) (by assumption) ?_
                      rotate_left
                      · intro w hSw; (try dsimp only at hSw); go_simp; try with_reducible rfl
                      go_simp
                      refine wpAnyH_take (i := 4) (v := ?_) rfl (by kernel_rfl) (by kernel_rfl) (by kernel_rfl) (fun _ _ _ h => h) (Or.inl ⟨by rfl, ?_⟩) (by assumption) ?_
                      rotate_left
                      · intro w hSw; (try dsimp only at hSw); go_simp; try with_reducible rfl
                      go_simp
                      refine wpAnyH_ready (rs := [5]) (by kernel_rfl) (by simp) ?_
                      refine AllReadyH.cons rfl (fun K hK => ?_) AllReadyH.nil
                      go_simp
                      refine hK.out _ _ ?_ (fun hHeld => ?_)
                      · exact HCS.out
                      clear hK K
                      go_simp
                      refine wpAnyH_take (i := 6) (v := ?_) rfl (by kernel_rfl) (by kernel_rfl) (by kernel_rfl) (fun _ _ _ h => h) (Or.inl ⟨by rfl, ?_⟩) (by assumption) ?_
                      rotate_left
                      · intro w hSw; (try dsimp only at hSw); go_simp; try with_reducible rfl
                      go_simp
                      refine wpAnyH_take (i := 7) (v := ?_) rfl (by kernel_rfl) (by kernel_rfl) (by kernel_rfl) (fun _ _ _ h => h) (Or.inl ⟨by rfl, ?_⟩) (by assumption) ?_
                      rotate_left
                      · intro w hSw; (try dsimp only at hSw); go_simp; try with_reducible rfl
                      go_simp
                      refine wpAnyH_take (i := 8) (v := ?_) rfl (by kernel_rfl) (by kernel_rfl) (by kernel_rfl) (fun _ _ _ h => h) (Or.inl ⟨by rfl, ?_⟩) (by assumption) ?_
                      rotate_left
                      · intro w hSw; (try dsimp only at hSw); go_simp; try with_reducible rfl
                      go_simp
                      refine wpAnyH_take (i := 9) (v := ?_) rfl (by kernel_rfl) (by kernel_rfl) (by kernel_rfl) (fun _ _ _ h => h) (Or.inl ⟨by rfl, ?_⟩) (by assumption) ?_
                      rotate_left
                      · intro w hSw; (try dsimp only at hSw); go_simp; try with_reducible rfl
                      go_simp
                      refine wpAnyH_take (i := 10) (v := ?_) rfl (by kernel_rfl) (by kernel_rfl) (by kernel_rfl) (fun _ _ _ h => h) (Or.inl ⟨by rfl, ?_⟩) (by assumption) ?_
                      rotate_left
                      · intro w hSw; (try dsimp only at hSw); go_simp; try with_reducible rfl
                      go_simp
                      refine wpAnyH_take (i := 11) (v := ?_) rfl (by kernel_rfl) (by kernel_rfl) (by kernel_rfl) (fun _ _ _ h => h) (Or.inl ⟨by rfl, ?_⟩) (by assumption) ?_
                      rotate_left
                      · intro w hSw; (try dsimp only at hSw); go_simp; try with_reducible rfl
                      go_simp
                      refine wpAnyH_take (i := 12) (v := ?_) rfl (by kernel_rfl) (by kernel_rfl) (by kernel_rfl) (fun _ _ _ h => h) (Or.inl ⟨by rfl, ?_⟩) (by assumption) ?_
                      rotate_left
                      · intro w hSw; (try dsimp only at hSw); go_simp; try with_reducible rfl
                      go_simp
                      refine wpAnyH_take (i := 13) (v := ?_) rfl (by kernel_rfl) (by kernel_rfl) (by kernel_rfl) (fun _ _ _ h => h) (Or.inl ⟨by rfl, ?_⟩) (by assumption) ?_
                      rotate_left
                      · intro w hSw; (try dsimp only at hSw); go_simp; try with_reducible rfl
                      go_simp
                      refine wpAnyH_take (i := 14) (v := ?_) rfl (by kernel_rfl) (by kernel_rfl) (by kernel_rfl) (fun _ _ _ h => h) (Or.inl ⟨by rfl, ?_⟩) (by assumption) ?_
                      rotate_left
                      · intro w hSw; (try dsimp only at hSw); go_simp; try with_reducible rfl
                      go_simp
                      refine wpAnyH_take (i := 15) (v := ?_) rfl (by kernel_rfl) (by kernel_rfl) (by kernel_rfl) (fun _ _ _ h => h) (Or.inl ⟨by rfl, ?_⟩) (by assumption) ?_
                      rotate_left
                      · intro w hSw; (try dsimp only at hSw); go_simp; try with_reducible rfl
                      go_simp
                      refine wpAnyH_take (i := 16) (v := ?_) rfl (by kernel_rfl) (by kernel_rfl) (by kernel_rfl) (fun _ _ _ h => h) (Or.inl ⟨by rfl, ?_⟩) (by assumption) ?_
                      rotate_left
                      · intro w hSw; (try dsimp only at hSw); go_simp; try with_reducible rfl
                      go_simp
                      refine wpAnyH_take (i := 17) (v := ?_) rfl (by kernel_rfl) (by kernel_rfl) (by kernel_rfl) (fun _ _ _ h => h) (Or.inl ⟨by rfl, ?_⟩) (by assumption) ?_
                      rotate_left
                      · intro w hSw; (try dsimp only at hSw); go_simp; try with_reducible rfl
                      go_simp
                      refine wpAnyH_take (i := 18) (v := ?_) rfl (by kernel_rfl) (by kernel_rfl) (by kernel_rfl) (fun _ _ _ h => h) (Or.inl ⟨by rfl, ?_⟩) (by assumption) ?_
                      rotate_left
                      · intro w hSw; (try dsimp only at hSw); go_simp; try with_reducible rfl
                      go_simp
                      refine wpAnyH_take (i := 19) (v := ?_) rfl (by kernel_rfl) (by kernel_rfl) (by kernel_rfl) (fun _ _ _ h => h) (Or.inl ⟨by rfl, ?_⟩) (by assumption) ?_
                      rotate_left
                      · intro w hSw; (try dsimp only at hSw); go_simp; try with_reducible rfl
                      go_simp
                      refine wpAnyH_take (i := 20) (v := ?_) rfl (by kernel_rfl) (by kernel_rfl) (by kernel_rfl) (fun _ _ _ h => h) (Or.inl ⟨by rfl, ?_⟩) (by assumption) ?_
                      rotate_left
                      · intro w hSw; (try dsimp only at hSw); go_simp; try with_reducible rfl
                      go_simp
                      refine wpAnyH_take (i := 21) (v := ?_) rfl (by kernel_rfl) (by kernel_rfl) (by kernel_rfl) (fun _ _ _ h => h) (Or.inl ⟨by rfl, ?_⟩) (by assumption) ?_
                      rotate_left
                      · intro w hSw; (try dsimp only at hSw); go_simp; try with_reducible rfl
                      go_simp
                      refine wpAnyH_take (i := 22) (v := undef) rfl (by kernel_rfl) (by kernel_rfl) (by kernel_rfl) (fun _ _ _ h => h) (Or.inr ⟨by rfl, rfl⟩) (by assumption) ?_
                      go_simp
                      refine wpAnyH_take (i := 23) (v := undef) rfl (by kernel_rfl) (by kernel_rfl) (by kernel_rfl) (fun _ _ _ h => h) (Or.inr ⟨by rfl, rfl⟩) (by assumption) ?_
                      go_simp
                      refine wpAnyH_take (i := 24) (v := undef) rfl (by kernel_rfl) (by kernel_rfl) (by kernel_rfl) (fun _ _ _ h => h) (Or.inr ⟨by rfl, rfl⟩) (by assumption) ?_
                      go_simp
                      refine wpAnyH_take (i := 25) (v := undef) rfl (by kernel_rfl) (by kernel_rfl) (by kernel_rfl) (fun _ _ _ h => h) (Or.inr ⟨by rfl, rfl⟩) (by assumption) ?_
                      go_simp
                      refine wpAnyH_take (i := 26) (v := undef) rfl (by kernel_rfl) (by kernel_rfl) (by kernel_rfl) (fun _ _ _ h => h) (Or.inr ⟨by rfl, rfl⟩) (by assumption) ?_
                      go_simp
                      refine wpAnyH_take (i := 27) (v := undef) rfl (by kernel_rfl) (by kernel_rfl) (by kernel_rfl) (fun _ _ _ h => h) (Or.inr ⟨by rfl, rfl⟩) (by assumption) ?_
                      go_simp
                      refine wpAnyH_take (i := 28) (v := undef) rfl (by kernel_rfl) (by kernel_rfl) (by kernel_rfl) (fun _ _ _ h => h) (Or.inr ⟨by rfl, rfl⟩) (by assumption) ?_
                      go_simp
                      refine wpAnyH_take (i := 29) (v := undef) rfl (by kernel_rfl) (by kernel_rfl) (by kernel_rfl) (fun _ _ _ h => h) (Or.inr ⟨by rfl, rfl⟩) (by assumption) ?_
                      go_simp
                      refine wpAnyH_take (i := 30) (v := undef) rfl (by kernel_rfl) (by kernel_rfl) (by kernel_rfl) (fun _ _ _ h => h) (Or.inr ⟨by rfl, rfl⟩) (by assumption) ?_
                      go_simp
                      refine wpAnyH_take (i := 31) (v := undef) rfl (by kernel_rfl) (by kernel_rfl) (by kernel_rfl) (fun _ _ _ h => h) (Or.inr ⟨by rfl, rfl⟩) (by assumption) ?_
                      go_simp
                      refine wpAnyH_take (i := 32) (v := undef) rfl (by kernel_rfl) (by kernel_rfl) (by kernel_rfl) (fun _ _ _ h => h) (Or.inr ⟨by rfl, rfl⟩) (by assumption) ?_
                      go_simp
                      refine wpAnyH_take (i := 33) (v := undef) rfl (by kernel_rfl) (by kernel_rfl) (by kernel_rfl) (fun _ _ _ h => h) (Or.inr ⟨by rfl, rfl⟩) (by assumption) ?_
                      go_simp
                      refine wpAnyH_take (i := 34) (v := undef) rfl (by kernel_rfl) (by kernel_rfl) (by kernel_rfl) (fun _ _ _ h => h) (Or.inr ⟨by rfl, rfl⟩) (by assumption) ?_
                      go_simp
                      refine wpAnyH_take (i := 35) (v := undef) rfl (by kernel_rfl) (by kernel_rfl) (by kernel_rfl) (fun _ _ _ h => h) (Or.inr ⟨by rfl, rfl⟩) (by assumption) ?_
                      go_simp
                      refine wpAnyH_take (i := 36) (v := ?_) rfl (by kernel_rfl) (by kernel_rfl) (by kernel_rfl) (fun _ _ _ h => h) (Or.inl ⟨by rfl, ?_⟩) (by assumption) ?_
                      rotate_left
                      · intro w hSw; (try dsimp only at hSw); go_simp; try with_reducible rfl
                      go_simp
                      refine wpAnyH_take (i := 37) (v := ?_) rfl (by kernel_rfl) (by kernel_rfl) (by kernel_rfl) (fun _ _ _ h => h) (Or.inl ⟨by rfl, ?_⟩) (by assumption) ?_
                      rotate_left
                      · intro w hSw; (try dsimp only at hSw); go_simp; try with_reducible rfl
                      go_simp
                      refine wpAnyH_take (i := 38) (v := ?_) rfl (by kernel_rfl) (by kernel_rfl) (by kernel_rfl) (fun _ _ _ h => h) (Or.inl ⟨by rfl, ?_⟩) (by assumption) ?_
                      rotate_left
                      · intro w hSw; (try dsimp only at hSw); go_simp; try with_reducible rfl
                      go_simp
                      refine wpAnyH_ready (rs := [39]) (by kernel_rfl) (by simp) ?_
                      refine AllReadyH.cons rfl (fun K hK => ?_) AllReadyH.nil
                      go_simp
                      refine hK.out _ _ ?_ (fun hHeld => ?_)
                      · exact HCT.out _
                      clear hK K
                      go_simp
                      refine wpAnyH_done (by kernel_rfl) ?_ _
                      have HN' : Hid (AckI u (wr.drew.setCell ⟨g, i, none⟩ (.bool false)) lo p o T cur ks next g bn (mixF (ff rs j) (ff rs (j + 1)) ks (i + 1))) := by
                        rw [← mix_set _ _ ks i k HK1.out, HFK.out]
                        exact (HI4.out.keep (Below.refl _ _).drew).put HPU.out hi2 _
                      clear HI4 HCS HCT
                      go_wp2_with fail
                      refine ⟨⟨i + 1, by omega, by go_num, HN'⟩, ?_⟩
                      simp [intOf]; omega
                  · have HFK : Hid (ff rs (j + 1) k = true) := by show _ = _; rw [HFKV]; rfl
                    clear HFKV
                    go_wp2_with fail
                    have HCS : Hid (wr.drew.cell? ⟨p, o, none⟩ = some (.slice (some ⟨kb, koff, none⟩) ks.length c0) ∧ wr.drew.cell? ⟨kb, koff + i * 4, none⟩ = some (.int .i64 knum) ∧ wr.drew.cell? ⟨b, off + j * 2, none⟩ = some (.int .i64 x) ∧ wr.drew.cell? ⟨b, off + j * 2 + 1, none⟩ = some (.int .i64 y)) := ⟨cp, ck, cx, cy⟩
                    have hfz' : wr.drew.frozen? ⟨g, i, none⟩ = false := hfz
                    have hgv : wr.drew.cell? ⟨g, i, none⟩ = some (.bool true) := cg
                    have HCT : Hid (∀ v, (wr.drew.setCell ⟨g, i, none⟩ v).cell? ⟨p, o, none⟩ = some (.slice (some ⟨kb, koff, none⟩) ks.length c0) ∧ (wr.drew.setCell ⟨g, i, none⟩ v).cell? ⟨kb, koff + i * 4, none⟩ = some (.int .i64 knum) ∧ (wr.drew.setCell ⟨g, i, none⟩ v).cell? ⟨b, off + j * 2, none⟩ = some (.int .i64 x) ∧ (wr.drew.setCell ⟨g, i, none⟩ v).cell? ⟨b, off + j * 2 + 1, none⟩ = some (.int .i64 y)) := fun v => by
                      have e : ∀ (z t : Nat), z ≠ g → (wr.drew.setCell ⟨g, i, none⟩ v).cell? ⟨z, t, none⟩ = wr.drew.cell? ⟨z, t, none⟩ := fun z t hz => World.cell?_of_block (w := wr.drew) (Below.heap_setCell _ _ _ _ hz)
                      exact ⟨(e p o HNE.out.1).trans HCS.out.1, (e kb (koff + i * 4) HNE.out.2.1).trans HCS.out.2.1, (e b (off + j * 2) HNE.out.2.2).trans HCS.out.2.2.1, (e b (off + j * 2 + 1) HNE.out.2.2).trans HCS.out.2.2.2⟩
                    clear cp ck cx cy cg hfz
                    refine wp_region_held_drew (S := (fun W : World => W.cell? ⟨p, o, none⟩ = some (.slice (some ⟨kb, koff, none⟩) ks.length c0) ∧ W.cell? ⟨kb, koff + i * 4, none⟩ = some (.int .i64 knum) ∧ W.cell? ⟨b, off + j * 2, none⟩ = some (.int .i64 x) ∧ W.cell? ⟨b, off + j * 2 + 1, none⟩ = some (.int .i64 y))) (by kernel_rfl) ?_ (fun hHeld => ?_)
                    · exact HCS.out
                    refine wpAnyH_take (i := 0) (v := ?_) rfl (by kernel_rfl) (by kernel_rfl) (by kernel_rfl) (fun _ _ _ h => h) (Or.inl ⟨by rfl, ?_⟩) (by assumption) ?_
                    rotate_left
                    · intro w hSw; (try dsimp only at hSw); go_simp; try with_reducible rfl
                    go_simp
                    refine wpAnyH_take (i := 1) (v := ?_) rfl (by kernel_rfl) (by kernel_rfl) (by kernel_rfl) (fun _ _ _ h => h) (Or.inl ⟨by rfl, ?_⟩) (by assumption) ?_
                    rotate_left
                    · intro w hSw; (try dsimp only at hSw); go_simp; try with_reducible rfl
                    go_simp
                    refine wpAnyH_take (i := 2) (v := ?_) rfl (by kernel_rfl) (by kernel_rfl) (by kernel_rfl) (fun _ _ _ h => h) (Or.inl ⟨by rfl, ?_⟩) (by assumption) ?_
                    rotate_left
                    · intro w hSw; (try dsimp only at hSw); go_simp; try with_reducible rfl
                    go_simp
                    refine wpAnyH_take (i := 3) (v := ?_) rfl (by kernel_rfl) (by kernel_rfl) (by kernel_rfl) (fun _ _ _ h => h) (Or.inl ⟨by rfl, ?_⟩) (by assumption) ?_
                    rotate_left
                    · intro w hSw; (try dsimp only at hSw); go_simp; try with_reducible rfl
                    go_simp
                    refine wpAnyH_take (i := 4) (v := ?_) rfl (by kernel_rfl) (by kernel_rfl) (by kernel_rfl) (fun _ _ _ h => h) (Or.inl ⟨by rfl, ?_⟩) (by assumption) ?_
                    rotate_left
                    · intro w hSw; (try dsimp only at hSw); go_simp; try with_reducible rfl
                    go_simp
                    refine wpAnyH_ready (rs := [5]) (by kernel_rfl) (by simp) ?_
                    refine AllReadyH.cons rfl (fun K hK => ?_) AllReadyH.nil
                    go_simp
                    refine hK.out _ _ ?_ (fun hHeld => ?_)
                    · exact HCS.out
                    clear hK K
                    go_simp
                    refine wpAnyH_take (i := 6) (v := ?_) rfl (by kernel_rfl) (by kernel_rfl) (by kernel_rfl) (fun _ _ _ h => h) (Or.inl ⟨by rfl, ?_⟩) (by assumption) ?_
                    rotate_left
                    · intro w hSw; (try dsimp only at hSw); go_simp; try with_reducible rfl
                    go_simp
                    refine wpAnyH_take (i := 7) (v := undef) rfl (by kernel_rfl) (by kernel_rfl) (by kernel_rfl) (fun _ _ _ h => h) (Or.inr ⟨by rfl, rfl⟩) (by assumption) ?_
                    go_simp
                    refine wpAnyH_take (i := 8) (v := undef) rfl (by kernel_rfl) (by kernel_rfl) (by kernel_rfl) (fun _ _ _ h => h) (Or.inr ⟨by rfl, rfl⟩) (by assumption) ?_
                    go_simp
                    refine wpAnyH_take (i := 9) (v := undef) rfl (by kernel_rfl) (by kernel_rfl) (by kernel_rfl) (fun _ _ _ h => h) (Or.inr ⟨by rfl, rfl⟩) (by assumption) ?_
                    go_simp
                    refine wpAnyH_take (i := 10) (v := undef) rfl (by kernel_rfl) (by kernel_rfl) (by kernel_rfl) (fun _ _ _ h => h) (Or.inr ⟨by rfl, rfl⟩) (by assumption) ?_
                    go_simp
                    refine wpAnyH_take (i := 11) (v := undef) rfl (by kernel_rfl) (by kernel_rfl) (by kernel_rfl) (fun _ _ _ h => h) (Or.inr ⟨by rfl, rfl⟩) (by assumption) ?_
                    go_simp
                    refine wpAnyH_take (i := 12) (v := undef) rfl (by kernel_rfl) (by kernel_rfl) (by kernel_rfl) (fun _ _ _ h => h) (Or.inr ⟨by rfl, rfl⟩) (by assumption) ?_
                    go_simp
                    refine wpAnyH_take (i := 13) (v := undef) rfl (by kernel_rfl) (by kernel_rfl) (by kernel_rfl) (fun _ _ _ h => h) (Or.inr ⟨by rfl, rfl⟩) (by assumption) ?_
                    go_simp
                    refine wpAnyH_take (i := 14) (v := undef) rfl (by kernel_rfl) (by kernel_rfl) (by kernel_rfl) (fun _ _ _ h => h) (Or.inr ⟨by rfl, rfl⟩) (by assumption) ?_
                    go_simp
                    refine wpAnyH_take (i := 15) (v := undef) rfl (by kernel_rfl) (by kernel_rfl) (by kernel_rfl) (fun _ _ _ h => h) (Or.inr ⟨by rfl, rfl⟩) (by assumption) ?_
                    go_simp
                    refine wpAnyH_take (i := 16) (v := undef) rfl (by kernel_rfl) (by kernel_rfl) (by kernel_rfl) (fun _ _ _ h => h) (Or.inr ⟨by rfl, rfl⟩) (by assumption) ?_
                    go_simp
                    refine wpAnyH_take (i := 17) (v := undef) rfl (by kernel_rfl) (by kernel_rfl) (by kernel_rfl) (fun _ _ _ h => h) (Or.inr ⟨by rfl, rfl⟩) (by assumption) ?_
                    go_simp
                    refine wpAnyH_take (i := 18) (v := undef) rfl (by kernel_rfl) (by kernel_rfl) (by kernel_rfl) (fun _ _ _ h => h) (Or.inr ⟨by rfl, rfl⟩) (by assumption) ?_
                    go_simp
                    refine wpAnyH_take (i := 19) (v := undef) rfl (by kernel_rfl) (by kernel_rfl) (by kernel_rfl) (fun _ _ _ h => h) (Or.inr ⟨by rfl, rfl⟩) (by assumption) ?_
                    go_simp
                    refine wpAnyH_take (i := 20) (v := undef) rfl (by kernel_rfl) (by kernel_rfl) (by kernel_rfl) (fun _ _ _ h => h) (Or.inr ⟨by rfl, rfl⟩) (by assumption) ?_
                    go_simp
                    refine wpAnyH_take (i := 21) (v := undef) rfl (by kernel_rfl) (by kernel_rfl) (by kernel_rfl) (fun _ _ _ h => h) (Or.inr ⟨by rfl, rfl⟩) (by assumption) ?_
                    go_simp
                    refine wpAnyH_take (i := 22) (v := undef) rfl (by kernel_rfl) (by kernel_rfl) (by kernel_rfl) (fun _ _ _ h => h) (Or.inr ⟨by rfl, rfl⟩) (by assumption) ?_
                    go_simp
                    refine wpAnyH_take (i := 23) (v := undef) rfl (by kernel_rfl) (by kernel_rfl) (by kernel_rfl) (fun _ _ _ h => h) (Or.inr ⟨by rfl, rfl⟩) (by assumption) ?_
                    go_simp
                    refine wpAnyH_take (i := 24) (v := undef) rfl (by kernel_rfl) (by kernel_rfl) (by kernel_rfl) (fun _ _ _ h => h) (Or.inr ⟨by rfl, rfl⟩) (by assumption) ?_
                    go_simp
                    refine wpAnyH_take (i := 25) (v := undef) rfl (by kernel_rfl) (by kernel_rfl) (by kernel_rfl) (fun _ _ _ h => h) (Or.inr ⟨by rfl, rfl⟩) (by assumption) ?_
                    go_simp
                    refine wpAnyH_take (i := 26) (v := undef) rfl (by kernel_rfl) (by kernel_rfl) (by kernel_rfl) (fun _ _ _ h => h) (Or.inr ⟨by rfl, rfl⟩) (by assumption) ?_
                    go_simp
                    refine wpAnyH_take (i := 27) (v := undef) rfl (by kernel_rfl) (by kernel_rfl) (by kernel_rfl) (fun _ _ _ h => h) (Or.inr ⟨by rfl, rfl⟩) (by assumption) ?_
                    go_simp
                    refine wpAnyH_take (i := 28) (v := undef) rfl (by kernel_rfl) (by kernel_rfl) (by kernel_rfl) (fun _ _ _ h => h) (Or.inr ⟨by rfl, rfl⟩) (by assumption) ?_
                    go_simp
                    refine wpAnyH_take (i := 29) (v := undef) rfl (by kernel_rfl) (by kernel_rfl) (by kernel_rfl) (fun _ _ _ h => h) (Or.inr ⟨by rfl, rfl⟩) (by assumption) ?_
                    go_simp
                    refine wpAnyH_take (i := 30) (v := undef) rfl (by kernel_rfl) (by kernel_rfl) (by kernel_rfl) (fun _ _ _ h => h) (Or.inr ⟨by rfl, rfl⟩) (by assumption) ?_
                    go_simp
                    refine wpAnyH_take (i := 31) (v := undef) rfl (by kernel_rfl) (by kernel_rfl) (by kernel_rfl) (fun _ _ _ h => h) (Or.inr ⟨by rfl, rfl⟩) (by assumption) ?_
                    go_simp
                    refine wpAnyH_take (i := 32) (v := undef) rfl (by kernel_rfl) (by kernel_rfl) (by kernel_rfl) (fun _ _ _ h => h) (Or.inr ⟨by rfl, rfl⟩) (by assumption) ?_
                    go_simp
                    refine wpAnyH_take (i := 33) (v := undef) rfl (by kernel_rfl) (by kernel_rfl) (by kernel_rfl) (fun _ _ _ h => h) (Or.inr ⟨by rfl, rfl⟩) (by assumption) ?_
                    go_simp
                    refine wpAnyH_take (i := 34) (v := undef) rfl (by kernel_rfl) (by kernel_rfl) (by kernel_rfl) (fun _ _ _ h => h) (Or.inr ⟨by rfl, rfl⟩) (by assumption) ?_
                    go_simp
                    refine wpAnyH_take (i := 35) (v := undef) rfl (by kernel_rfl) (by kernel_rfl) (by kernel_rfl) (fun _ _ _ h => h) (Or.inr ⟨by rfl, rfl⟩) (by assumption) ?_
                    go_simp
                    refine wpAnyH_take (i := 36) (v := undef) rfl (by kernel_rfl) (by kernel_rfl) (by kernel_rfl) (fun _ _ _ h => h) (Or.inr ⟨by rfl, rfl⟩) (by assumption) ?_
                    go_simp
                    refine wpAnyH_take (i := 37) (v := ?_) rfl (by kernel_rfl) (by kernel_rfl) (by kernel_rfl) (fun _ _ _ h => h) (Or.inl ⟨by rfl, ?_⟩) (by assumption) ?_
                    rotate_left
                    · intro w hSw; (try dsimp only at hSw); go_simp; try with_reducible rfl
                    go_simp
                    refine wpAnyH_take (i := 38) (v := ?_) rfl (by kernel_rfl) (by kernel_rfl) (by kernel_rfl) (fun _ _ _ h => h) (Or.inl ⟨by rfl, ?_⟩) (by assumption) ?_
                    rotate_left
                    · intro w hSw; (try dsimp only at hSw); go_simp; try with_reducible rfl
                    go_simp
                    refine wpAnyH_ready (rs := [39]) (by kernel_rfl) (by simp) ?_
                    refine AllReadyH.cons rfl (fun K hK => ?_) AllReadyH.nil
                    go_simp
                    refine hK.out _ _ ?_ (fun hHeld => ?_)
                    · exact HCT.out _
                    clear hK K
                    go_simp
                    refine wpAnyH_done (by kernel_rfl) ?_ _
                    have HN' : Hid (AckI u (wr.drew.setCell ⟨g, i, none⟩ (.bool true)) lo p o T cur ks next g bn (mixF (ff rs j) (ff rs (j + 1)) ks (i + 1))) := by
                      rw [← mix_set _ _ ks i k HK1.out, HFK.out]
                      exact (HI4.out.keep (Below.refl _ _).drew).put HPU.out hi2 _
                    clear HI4 HCS HCT
                    go_wp2_with fail
                    refine ⟨⟨i + 1, by omega, by go_num, HN'⟩, ?_⟩
                    simp [intOf]; omega
                · have hiI : ¬ (i : Int) < (ks.length : Int) := by omega
                  obtain rfl : i = ks.length := by omega
                  have HN' : Hid (bn = behF acked (rs.take (j + 1)) ∧ AckI u wr lo p o T cur ks next g bn (ks.map (ff rs (j + 1)))) := ⟨HBN.out.symm, by rw [← mix_all (ff rs j) (ff rs (j + 1)) ks]; exact HI4.out⟩
                  clear HI4 hq1 hq2 hA0 hO0
                  go_wp2_with fail
                  refine ⟨⟨j + 1, bn, by omega, by go_num, hbn1, HN'⟩, ?_⟩
                  simp [intOf]; omega
        · have hltI : ¬ (j : Int) < (m : Int) := by omega
          obtain rfl : m = j := by omega
          obtain ⟨hk1, hk2⟩ := HK.out
          have hfm : (fun k => ff rs m k) = fun k : Pk => ranB rs k.num := by
            funext k
            unfold ff
            rw [List.take_of_length_le (by rw [hmm.out]; exact Nat.le_refl _)]
          rw [List.take_of_length_le (by rw [hmm.out]; exact Nat.le_refl _)] at hk1
          subst hk1
          obtain ⟨cq, hq1, hq2⟩ := hk2.led
          have hrd : Rd wr wr.heap.size (some ⟨g, 0, none⟩) (ks.length * 1) (ks.map fun k => .bool (ff rs m k)) := by
            have := rd_block wr g _ _ wr.heap.size hk2.hp (Nat.le_refl _)
            simpa [Function.comp_def] using this
          have HPT := Lib.hid (rpart_any hq1 hn (ff rs m) (some ⟨g, 0, none⟩) ks.length (Nat.le_refl _) hrd)
          have HGR : Hid (w.grownBy wr (some p)) := below_grown HU.out hk2.gr
          have HQ2 := Lib.hid hq2
          clear hrd HK hk2 hq1 hq2
          go_wp2_with fail
          refine HPT.out.mono ?_
          rintro e w5 ⟨A', c', cur', rfl, r1, r2, r3, r4, r5⟩
          have hfm' : ff rs m = fun k : Pk => ranB rs k.num := hfm
          rw [hfm'] at r1 r2 r3 ⊢
          have HF := Lib.hid (And.intro r1 (And.intro (own_base r2 HGR.out.size) (And.intro r3 (And.intro (HQ2.out.trans r4) (grown_two2 HGR.out r5)))))
          clear r1 r2 r3 r4 r5 HPT hfm hfm'
          go_wp2_with fail
          first | go_ret2 | go_ret
          exact .inr ⟨HALL.out, A', c', cur', rfl, HF.out⟩
end Go.Proofs.YtebfjphmlggacaaGreat.Xr
