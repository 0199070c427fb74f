/- The reference's part: a contract. Conditions: as each theorem lists them. -/
import Derived.Test.YtebfjphmlggacaaGreatJXa
import Derived.Maps.AppendAt
set_option linter.unusedSimpArgs false
set_option linter.unusedVariables false

namespace Go.Proofs.YtebfjphmlggacaaGreat.Xr
open Go Go.RowKit Go.Proofs.YtebfjphmlggacaaGreat Go.Proofs.YtebfjphmlggacaaGreat.Sp Go.Proofs.YtebfjphmlggacaaGreat.Ld Go.Proofs.YtebfjphmlggacaaGreat.Pa

/-- Two rows share no block. -/
def Apart (a b : Option Nat) : Prop := a = none ∨ b = none ∨ a ≠ b
theorem Apart.symm {a b : Option Nat} (h : Apart a b) : Apart b a := by
  rcases h with h | h | h
  · exact .inr (.inl h)
  · exact .inl h
  · exact .inr (.inr (Ne.symm h))
/-- Behind j packets: those that go, those that stay. -/
structure PartI (w wr : World) (ks : List Pk) (f : Pk → Bool) (j : Nat) (A1 : Option Addr) (m1 c1 : Nat) (A2 : Option Addr) (m2 c2 : Nat) : Prop where
  o1 : wr.ownsRow w.heap.size 75 4 (.slice A1 m1 c1) m1 (pks ((ks.take j).filter f))
  o2 : wr.ownsRow w.heap.size 75 4 (.slice A2 m2 c2) m2 (pks ((ks.take j).filter fun k => !f k))
  ap : Apart (Value.slice A1 m1 c1).ownBlock (Value.slice A2 m2 c2).ownBlock
  be : Below w.heap.size w wr
  le1 : m1 ≤ c1
  le2 : m2 ≤ c2

set_option maxRecDepth 100000 in
set_option maxHeartbeats 8000000 in
theorem rpart_any {w : World} {lo p o : Nat} {T : TypeId} {cur : Array Value} {ks : List Pk} {next acked : Nat} (h : RLed w lo p o T cur ks next acked) (hn : ks.length ≤ 1099511627776) (f : Pk → Bool) (G : Option Addr) (gc : Nat) (hgc : ks.length ≤ gc) (hG : Rd w w.heap.size G (ks.length * 1) (ks.map fun k => .bool (f k))) :
    Calls Tryz.prog 71 #[.pointer (some ⟨p, o, none⟩), .slice G ks.length gc] w fun e w' => ∃ A c cur', e = .returned (.slice A (ks.filter f).length c) ∧ (ks.filter f).length ≤ c ∧ w'.ownsRow w.heap.size 75 4 (.slice A (ks.filter f).length c) (ks.filter f).length (pks (ks.filter f)) ∧ RLed w' lo p o T cur' (ks.filter fun k => !f k) next acked ∧ Same3 o cur cur' ∧ w.grownBy w' (some p) := by
  obtain ⟨i0, hi, hz0, hz1, hz2⟩ := info_parts infoS
  have HI := Lib.hid (And.intro hi (And.intro hz0 (And.intro hz1 hz2)))
  have H := Lib.hid h
  have HG := Lib.hid hG
  have hnI : (ks.length : Int) ≤ 1099511627776 := by omega
  have hgcI : (ks.length : Int) ≤ (gc : Int) := by omega
  clear h hG hi hz0 hz1 hz2
  go_enter Tryz.func71, Tryz.ntmps71
  go_wp2_with fail
  go_loopw [5, 6, 7] (fun v1 v2 i wr => ∃ (j : Nat) (A1 : Option Addr) (m1 c1 : Nat) (A2 : Option Addr) (m2 c2 : Nat), j ≤ ks.length ∧ i = .int .i64 (j : Int) ∧ v1 = .slice A1 m1 c1 ∧ v2 = .slice A2 m2 c2 ∧ m1 ≤ j ∧ m2 ≤ j ∧ Hid (PartI w wr ks f j A1 m1 c1 A2 m2 c2)) (fun _ _ i _ => ks.length - (intOf i).toNat)
  case atStart => exact ⟨0, none, 0, 0, none, 0, 0, Nat.zero_le _, rfl, rfl, rfl, Nat.le_refl _, Nat.le_refl _, own_nil _ _ _ _, own_nil _ _ _ _, .inl rfl, Below.refl _ _, Nat.le_refl _, Nat.le_refl _⟩
  case round =>
    obtain ⟨j, A1, m1, c1, A2, m2, c2, hj, rfl, rfl, rfl, hm1, hm2, HK⟩ := hrel
    have HB := Lib.hid HK.out.be
    have HO1 := Lib.hid HK.out.o1
    have HO2 := Lib.hid HK.out.o2
    have HAP := Lib.hid HK.out.ap
    have HW := Lib.hid (H.out.keep HB.out)
    obtain ⟨A, c, hA, hO, hlc⟩ := HW.out.row
    have hc0 := cell_slot HW.out.hp hA
    have hlcI : (ks.length : Int) ≤ (c : Int) := by omega
    by_cases hlt : j < ks.length
    · have hltI : (j : Int) < (ks.length : Int) := by omega
      obtain ⟨k, hk⟩ : ∃ k, ks[j]? = some k := ⟨_, List.getElem?_eq_getElem hlt⟩
      obtain ⟨b, off, hA2, hbl, d0, d1, d2, d3⟩ := pk_cells (Rd.of_own hO) rfl j k hk
      subst hA2
      obtain ⟨gb, goff, hG2, hgl, hgcs⟩ := HG.out.2 (by omega)
      subst hG2
      have hgv : wr.cell? ⟨gb, goff + j, none⟩ = some (.bool (f k)) := by
        rw [HB.out.cell (p := ⟨gb, goff + j, none⟩) hgl]
        exact hgcs j _ (by rw [List.getElem?_map, hk]; rfl)
      have nb := World.new_ne wr _ d0
      clear hA hO HW
      cases hfk : f k
      · rw [hfk] at hgv
        have hd1 : Rd (wr.alloc (.cells #[.int .i64 (k.num : Int), .int .i64 k.at', .bool k.el, .slice k.fa k.fn k.fc] 75)) (wr.heap.size + 1) (some ⟨wr.heap.size, 0, none⟩) (1 * 4) (pks [k]) := rd_new _ _ _ _ _ _ _ rfl (by omega) rfl (by simp [pks, Pk.cells])
        have HD1 := Lib.hid hd1
        have hd2 : Hid (m2 + 1 ≤ maxLen) := by show _ ≤ _; unfold maxLen; omega
        have hd3 : Hid ((m2 + 1) * 48 ≤ 140737488355328) := by show _ ≤ _; omega
        have hd4 : Hid (w.heap.size ≤ (wr.alloc (.cells #[.int .i64 (k.num : Int), .int .i64 k.at', .bool k.el, .slice k.fa k.fn k.fc] 75)).heap.size) := by show _ ≤ _; simp only [World.size_alloc]; have := HB.out.size; omega
        have HT1 : Hid ((ks.take (j + 1)).filter (fun k => !f k) = (ks.take j).filter (fun k => !f k) ++ [k]) := by show _ = _; rw [take_one ks j k hk, List.filter_append]; simp [hfk]
        have HT2 : Hid ((ks.take (j + 1)).filter f = (ks.take j).filter f) := by show _ = _; rw [take_one ks j k hk, List.filter_append]; simp [hfk]
        have HTY : Hid (wr.heap.size < (wr.alloc (.cells #[.int .i64 (k.num : Int), .int .i64 k.at', .bool k.el, .slice k.fa k.fn k.fc] 75)).heap.size) := by show _ < _; simp
        have HSZ : Hid (w.heap.size ≤ wr.heap.size) := HB.out.size
        have hcell : ∀ jj u, (pks [k])[jj]? = some u → (wr.alloc (.cells #[.int .i64 (k.num : Int), .int .i64 k.at', .bool k.el, .slice k.fa k.fn k.fc] 75)).cell? ((⟨wr.heap.size, 0, none⟩ : Addr).add jj) = some u := fun jj u hu => by
          obtain ⟨b9, off9, e9, _, hc9⟩ := HD1.out.2 (by omega)
          cases e9
          rw [Addr.add_lit]
          exact hc9 jj u hu
        have HCELL := Lib.hid hcell
        clear hcell hd1 HD1
        obtain ⟨knum, kat, kel, kfa, kfn, kfc⟩ := k
        simp only at d0 d1 d2 d3 hd4 HTY HCELL
        clear hk hfk
        go_wp2_with (at_builtin; refine wpList_append_own_at _ rfl (.tmp 31) (.tmp 39) 35 rfl w.heap.size 75 i0 (.agg #[.int .i64 0, .int .i64 0, .bool false, .slice none 0 0]) 4 48 Tryz.underlying35 HI.out.1 HI.out.2.1 HI.out.2.2.1 HI.out.2.2.2 rfl (by decide) (.slice A2 m2 c2) m2 (pks ((ks.take j).filter (fun k => !f k))) rfl (HO2.out.alloc _) ⟨wr.heap.size, 0, none⟩ 1 1 (pks [⟨knum, kat, kel, kfa, kfn, kfc⟩]) rfl (by simp [pks, Pk.cells]) HCELL.out (ones_pks _) hd2.out hd3.out hd4.out ?_)
        intro v5 w5 ho5 hg5 _ hat5
        obtain ⟨A5, c5, e5, hlc5, _⟩ := own_form ho5
        subst e5
        rw [← pks_app, ← HT1.out] at ho5
        have hbw : Below w.heap.size wr w5 := ((Below.refl _ _).alloc HSZ.out _).grown hg5 hd4.out (fun g hg => (HO2.out.lt g hg).1)
        have hoth : w5.ownsRow w.heap.size 75 4 (.slice A1 m1 c1) m1 (pks ((ks.take (j + 1)).filter f)) := by
          rw [HT2.out]
          exact (HO1.out.alloc (.cells #[.int .i64 (knum : Int), .int .i64 kat, .bool kel, .slice kfa kfn kfc] 75)).kept hg5 (by
            rcases (HAP.out : Apart (Value.slice A1 m1 c1).ownBlock (Value.slice A2 m2 c2).ownBlock) with h | h | h
            · exact .inl h
            · by_cases hn : (Value.slice A1 m1 c1).ownBlock = none
              · exact .inl hn
              · exact .inr (by rw [h]; exact hn)
            · exact .inr h)
        have hap : Apart (Value.slice A5 (m2 + 1) c5).ownBlock (Value.slice A1 m1 c1).ownBlock := by
          rcases hat5 with h | h
          · rw [h]
            exact HAP.out.symm
          · by_cases hn : (Value.slice A1 m1 c1).ownBlock = none
            · exact .inr (.inl hn)
            · refine .inr (.inr fun e => ?_)
              have := (HO1.out.lt _ (e ▸ h)).2
              have := HTY.out
              omega
        have HN' : Hid (PartI w w5 ks f (j + 1) A1 m1 c1 A5 (m2 + 1) c5) := ⟨hoth, ho5, hap.symm, HB.out.trans hbw, HK.out.le1, hlc5⟩
        clear ho5 hg5 hat5 hbw hoth hap
        go_wp2_with fail
        refine ⟨⟨j + 1, A1, m1, c1, A5, m2 + 1, c5, by omega, by go_num, rfl, rfl, by omega, by omega, HN'⟩, ?_⟩
        simp [intOf]; omega
      · rw [hfk] at hgv
        have hd1 : Rd (wr.alloc (.cells #[.int .i64 (k.num : Int), .int .i64 k.at', .bool k.el, .slice k.fa k.fn k.fc] 75)) (wr.heap.size + 1) (some ⟨wr.heap.size, 0, none⟩) (1 * 4) (pks [k]) := rd_new _ _ _ _ _ _ _ rfl (by omega) rfl (by simp [pks, Pk.cells])
        have HD1 := Lib.hid hd1
        have hd2 : Hid (m1 + 1 ≤ maxLen) := by show _ ≤ _; unfold maxLen; omega
        have hd3 : Hid ((m1 + 1) * 48 ≤ 140737488355328) := by show _ ≤ _; omega
        have hd4 : Hid (w.heap.size ≤ (wr.alloc (.cells #[.int .i64 (k.num : Int), .int .i64 k.at', .bool k.el, .slice k.fa k.fn k.fc] 75)).heap.size) := by show _ ≤ _; simp only [World.size_alloc]; have := HB.out.size; omega
        have HT1 : Hid ((ks.take (j + 1)).filter f = (ks.take j).filter f ++ [k]) := by show _ = _; rw [take_one ks j k hk, List.filter_append]; simp [hfk]
        have HT2 : Hid ((ks.take (j + 1)).filter (fun k => !f k) = (ks.take j).filter (fun k => !f k)) := by show _ = _; rw [take_one ks j k hk, List.filter_append]; simp [hfk]
        have HTY : Hid (wr.heap.size < (wr.alloc (.cells #[.int .i64 (k.num : Int), .int .i64 k.at', .bool k.el, .slice k.fa k.fn k.fc] 75)).heap.size) := by show _ < _; simp
        have HSZ : Hid (w.heap.size ≤ wr.heap.size) := HB.out.size
        have hcell : ∀ jj u, (pks [k])[jj]? = some u → (wr.alloc (.cells #[.int .i64 (k.num : Int), .int .i64 k.at', .bool k.el, .slice k.fa k.fn k.fc] 75)).cell? ((⟨wr.heap.size, 0, none⟩ : Addr).add jj) = some u := fun jj u hu => by
          obtain ⟨b9, off9, e9, _, hc9⟩ := HD1.out.2 (by omega)
          cases e9
          rw [Addr.add_lit]
          exact hc9 jj u hu
        have HCELL := Lib.hid hcell
        clear hcell hd1 HD1
        obtain ⟨knum, kat, kel, kfa, kfn, kfc⟩ := k
        simp only at d0 d1 d2 d3 hd4 HTY HCELL
        clear hk hfk
        go_wp2_with (at_builtin; refine wpList_append_own_at _ rfl (.tmp 21) (.tmp 29) 35 rfl w.heap.size 75 i0 (.agg #[.int .i64 0, .int .i64 0, .bool false, .slice none 0 0]) 4 48 Tryz.underlying35 HI.out.1 HI.out.2.1 HI.out.2.2.1 HI.out.2.2.2 rfl (by decide) (.slice A1 m1 c1) m1 (pks ((ks.take j).filter f)) rfl (HO1.out.alloc _) ⟨wr.heap.size, 0, none⟩ 1 1 (pks [⟨knum, kat, kel, kfa, kfn, kfc⟩]) rfl (by simp [pks, Pk.cells]) HCELL.out (ones_pks _) hd2.out hd3.out hd4.out ?_)
        intro v5 w5 ho5 hg5 _ hat5
        obtain ⟨A5, c5, e5, hlc5, _⟩ := own_form ho5
        subst e5
        rw [← pks_app, ← HT1.out] at ho5
        have hbw : Below w.heap.size wr w5 := ((Below.refl _ _).alloc HSZ.out _).grown hg5 hd4.out (fun g hg => (HO1.out.lt g hg).1)
        have hoth : w5.ownsRow w.heap.size 75 4 (.slice A2 m2 c2) m2 (pks ((ks.take (j + 1)).filter (fun k => !f k))) := by
          rw [HT2.out]
          exact (HO2.out.alloc (.cells #[.int .i64 (knum : Int), .int .i64 kat, .bool kel, .slice kfa kfn kfc] 75)).kept hg5 (by
            rcases (HAP.out.symm : Apart (Value.slice A2 m2 c2).ownBlock (Value.slice A1 m1 c1).ownBlock) with h | h | h
            · exact .inl h
            · by_cases hn : (Value.slice A2 m2 c2).ownBlock = none
              · exact .inl hn
              · exact .inr (by rw [h]; exact hn)
            · exact .inr h)
        have hap : Apart (Value.slice A5 (m1 + 1) c5).ownBlock (Value.slice A2 m2 c2).ownBlock := by
          rcases hat5 with h | h
          · rw [h]
            exact HAP.out
          · by_cases hn : (Value.slice A2 m2 c2).ownBlock = none
            · exact .inr (.inl hn)
            · refine .inr (.inr fun e => ?_)
              have := (HO2.out.lt _ (e ▸ h)).2
              have := HTY.out
              omega
        have HN' : Hid (PartI w w5 ks f (j + 1) A5 (m1 + 1) c5 A2 m2 c2) := ⟨ho5, hoth, hap, HB.out.trans hbw, hlc5, HK.out.le2⟩
        clear ho5 hg5 hat5 hbw hoth hap
        go_wp2_with fail
        refine ⟨⟨j + 1, A5, m1 + 1, c5, A2, m2, c2, by omega, by go_num, rfl, rfl, by omega, by omega, HN'⟩, ?_⟩
        simp [intOf]; omega
    · have hltI : ¬ (j : Int) < (ks.length : Int) := by omega
      have e : j = ks.length := by omega
      subst e
      have h1 := HO1.out
      have h2 := HO2.out
      rw [List.take_length] at h1 h2
      have hm1' : m1 = (ks.filter f).length := by
        have := h1.1
        rw [pks_len] at this
        omega
      have hm2' : m2 = (ks.filter fun k => !f k).length := by
        have := h2.1
        rw [pks_len] at this
        omega
      subst hm1' hm2'
      have hosz : o < cur.size := (Array.getElem?_eq_some_iff.1 hA).1
      have hlo : lo ≤ w.heap.size := Nat.le_trans H.out.hlo (Nat.le_of_lt H.out.lt.2)
      have hpo : p < w.heap.size := H.out.lt.2
      have hset := HW.out.setRow (own_base h2 hlo) HK.out.le2 hosz
      have hg : wr.grownBy (wr.setCell ⟨p, o, none⟩ (.slice A2 (ks.filter fun k => !f k).length c2)) (some p) := ⟨rfl, rfl, rfl, by simp [World.setCell], fun k hk hne => Below.heap_setCell _ _ _ _ (fun e => hne (by rw [e]))⟩
      have hkeep : (wr.setCell ⟨p, o, none⟩ (.slice A2 (ks.filter fun k => !f k).length c2)).ownsRow w.heap.size 75 4 (.slice A1 (ks.filter f).length c1) (ks.filter f).length (pks (ks.filter f)) := own_other h1 hg HW.out.hp HW.out.hT
      have HF := Lib.hid (And.intro HK.out.le1 (And.intro hkeep (And.intro hset (And.intro ((Same3.refl o cur).set o (by omega) (.slice A2 (ks.filter fun k => !f k).length c2)) (show w.grownBy (wr.setCell ⟨p, o, none⟩ (.slice A2 (ks.filter fun k => !f k).length c2)) (some p) from ⟨hg.os.trans HB.out.os, hg.tape.trans HB.out.tape, hg.output.trans HB.out.output, Nat.le_trans HB.out.size hg.size, fun i hi hne => (hg.block i (Nat.lt_of_lt_of_le hi HB.out.size) hne).trans (HB.out.block i hi)⟩)))))
      have hfz := HW.out.cell.2.2
      clear hset hg hkeep h1 h2 HO1 HO2 HAP HK HB H hA hO hlc HW
      go_wp2_with fail
      go_ret
      exact ⟨A1, c1, rfl, HF.out.1, HF.out.2.1, _, HF.out.2.2⟩
end Go.Proofs.YtebfjphmlggacaaGreat.Xr
