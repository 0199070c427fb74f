/- The reference's queue: Drop: contract. Conditions: as each theorem lists them. -/
import Derived.Test.YtlaopkkfgkcejaaJQr
set_option linter.unusedSimpArgs false
set_option linter.unusedVariables false

namespace Go.Proofs.Ytlaopkkfgkcejaa.Qu
open Go Go.RowKit Go.Proofs.Ytlaopkkfgkcejaa

theorem Below.drewN'' (w : World) (q B : Nat) : Below B w (w.drewN q) := ⟨rfl, rfl, rfl, Nat.le_refl _, fun _ _ => rfl⟩
/-- The reference's Drop on its way: what is kept. -/
def RDropI (w wr : World) (v : Value) (k : Nat) (kept : List It) : Prop := kept.length = k ∧ wr.ownsRow w.heap.size 44 2 v k (its kept) ∧ Below w.heap.size w wr

set_option maxRecDepth 100000 in
set_option maxHeartbeats 16000000 in
theorem rdrop_any {w : World} {r lo : Nat} {ds : List (Int × List Nat)} (hq : RQD w r lo ds) (l : List Int) (m c : Nat) (B : Option Addr) (hA : At w lo B m (ints l)) (hc : m ≤ c) (hm : m ≤ 1000000) :
    Calls Try.prog 14 #[.pointer (some ⟨r, 0, none⟩), .slice B m c] w fun e w' => e = .returned (.int .i64 ((ds.length : Int) - ((ds.filter (keepD l)).length : Int))) ∧ RQD w' r lo (ds.filter (keepD l)) ∧ w.grownBy w' (some r) := by
  obtain ⟨ks, rfl, hrq⟩ := hq
  rw [← map_keeps, List.length_map, List.length_map]
  obtain ⟨A0, c0, hr0, hAt0, hc0⟩ := hrq.row
  obtain ⟨n0, hn0⟩ : ∃ n0, ks.length = n0 := ⟨_, rfl⟩
  rw [hn0] at hr0 hAt0 hc0
  have hn32 : n0 ≤ 32 := by rw [← hn0]; exact hrq.le
  have hl : l.length = m := by have := hA.1; simpa [ints] using this
  obtain ⟨i0, hi, hz0, hz1, hz2⟩ := info_parts infoRf
  have HI := Lib.hid (And.intro hi (And.intro hz0 (And.intro hz1 hz2)))
  have hrlt := hrq.lt
  have HRQ := Lib.hid hrq
  have HR0 := Lib.hid hr0
  have HAT0 := Lib.hid hAt0
  have HA := Lib.hid hA
  have HN0 := Lib.hid hn0
  have HL := Lib.hid hl
  have hnI : (n0 : Int) ≤ 32 := by omega
  have hn0I : (0 : Int) ≤ (n0 : Int) := by omega
  have hncI : (n0 : Int) ≤ (c0 : Int) := by omega
  have hmI : (m : Int) ≤ 1000000 := by omega
  have hmcI : (m : Int) ≤ (c : Int) := by omega
  rw [hn0]
  clear hrq hr0 hAt0 hA hn0 hi hz0 hz1 hz2 hl
  go_enter Try.func14, Try.ntmps14
  go_wp2_with fail
  go_loopw [5, 6] (fun vo i wr => ∃ (j k : Nat) (kept : List It), j ≤ n0 ∧ k ≤ j ∧ i = .int .i64 (j : Int) ∧ Hid (RDropI w wr vo k kept ∧ kept = (ks.take j).filter (keeps l))) (fun _ i _ => n0 - (intOf i).toNat)
  case atStart => exact ⟨0, 0, [], Nat.zero_le _, Nat.le_refl _, rfl, ⟨rfl, own_nil _ _ _ _, Below.refl _ _⟩, rfl⟩
  case round =>
    obtain ⟨j, k, kept, hj, hkj, rfl, HK⟩ := hrel
    obtain ⟨⟨hkl, hko, hkb⟩, hkk⟩ := HK.out
    obtain ⟨Ao, co, eo, hkco, _⟩ := own_form hko
    subst eo
    have r0 : wr.cell? ⟨r, 0, none⟩ = some (.slice A0 n0 c0) := (hkb.cell (p := ⟨r, 0, none⟩) hrlt).trans HR0.out
    have hkI : (k : Int) ≤ 32 := by omega
    have hk0I : (0 : Int) ≤ (k : Int) := by omega
    by_cases hlt : j < n0
    · have hltI : (j : Int) < (n0 : Int) := by omega
      have hjI : (0 : Int) ≤ (j : Int) := by omega
      obtain ⟨q, hqj⟩ : ∃ q, ks[j]? = some q := ⟨_, List.getElem?_eq_getElem (by have := HN0.out; omega)⟩
      obtain ⟨b, off, eA0, hpb, hbl, hcs⟩ := HAT0.out.2 (by omega)
      subst eA0
      have c0' : ∀ W, Below w.heap.size w W → W.cell? ⟨b, off + j * 2, none⟩ = some (.int .i64 q.k) := fun W hW => (hW.cell (p := ⟨b, off + j * 2, none⟩) hbl).trans (hcs (j * 2) _ (by have := its_get ks j q hqj 0 (by omega); simpa [itC] using this))
      have c1' : ∀ W, Below w.heap.size w W → W.cell? ⟨b, off + j * 2 + 1, none⟩ = some (.slice q.A q.n q.c) := fun W hW => (hW.cell (p := ⟨b, off + j * 2 + 1, none⟩) hbl).trans (hcs (j * 2 + 1) _ (by have := its_get ks j q hqj 1 (by omega); simpa [itC] using this))
      have HC0 := Lib.hid c0'
      have HC1 := Lib.hid c1'
      have HT : Hid (ks.take (j + 1) = ks.take j ++ [q]) := take_one ks j q hqj
      have HKO := Lib.hid (And.intro hkl (And.intro hko hkb))
      have HKK := Lib.hid hkk
      clear hcs hqj c0' c1' hkl hko hkb hkk HK
      go_wp2_with fail
      go_loopw [7, 8] (fun vg i wx => ∃ (t : Nat), t ≤ m ∧ i = .int .i64 (t : Int) ∧ vg = .bool (decide (q.k ∈ l.take t)) ∧ Hid (RDropI w wx (.slice Ao k co) k kept)) (fun _ i _ => m - (intOf i).toNat)
      case atStart => exact ⟨0, Nat.zero_le _, rfl, by simp, HKO.out⟩
      case round =>
        obtain ⟨t, ht, rfl, rfl, HKX⟩ := hrel
        obtain ⟨hkl, hko, hkb⟩ := HKX.out
        have r0x : wr.cell? ⟨r, 0, none⟩ = some (.slice (some ⟨b, off, none⟩) n0 c0) := (hkb.cell (p := ⟨r, 0, none⟩) hrlt).trans HR0.out
        have c0x := HC0.out wr hkb
        obtain ⟨g, hg⟩ : ∃ g, decide (q.k ∈ l.take t) = g := ⟨_, rfl⟩
        by_cases htm : t < m
        · have htmI : (t : Int) < (m : Int) := by omega
          have ht0I : (0 : Int) ≤ (t : Int) := by omega
          obtain ⟨b2, off2, rfl, hpb2, hbl2, hcs2⟩ := HA.out.2 (by omega)
          obtain ⟨y, hy⟩ : ∃ y, l[t]? = some y := ⟨_, List.getElem?_eq_getElem (by have := HL.out; omega)⟩
          have ny : wr.cell? ⟨b2, off2 + t, none⟩ = some (.int .i64 y) := (hkb.cell (p := ⟨b2, off2 + t, none⟩) hbl2).trans (hcs2 t _ (by simp [ints, hy]))
          have HG : Hid (decide (q.k ∈ l.take (t + 1)) = (g || (y == q.k))) := by
            show _ = _
            rw [take_one l t y hy, ← hg]
            rw [Bool.eq_iff_iff]
            simp only [decide_eq_true_eq, Bool.or_eq_true, List.mem_append, List.mem_singleton, beq_iff_eq]
            exact or_congr Iff.rfl ⟨Eq.symm, Eq.symm⟩
          have HX2 : Hid (∀ m', RDropI w (wr.drewN m') (.slice Ao k co) k kept) := fun m' => ⟨hkl, own_below hko (Below.drewN'' wr m' _), hkb.trans (Below.drewN'' wr m' _)⟩
          clear hcs2 hy hkl hko hkb HKX
          rw [hg]
          clear hg
          cases g
          · go_wp2_with fail
            go_quiet (fail)
            go_wp2_with fail
            refine ⟨⟨t + 1, by omega, by go_num, by rw [HG.out]; rfl, HX2.out _⟩, ?_⟩
            simp [intOf]; omega
          · go_wp2_with fail
            go_quiet (fail)
            go_wp2_with fail
            refine ⟨⟨t + 1, by omega, by go_num, by rw [HG.out]; rfl, HX2.out _⟩, ?_⟩
            simp [intOf]; omega
        · have htmI : ¬ (t : Int) < (m : Int) := by omega
          obtain rfl : t = m := by omega
          have HG : Hid (keeps l q = !g) := by show (!decide (q.k ∈ l)) = _; rw [← hg, List.take_of_length_le (by have := HL.out; omega)]
          have c1x := HC1.out wr hkb
          have HX2 : Hid (RDropI w wr (.slice Ao k co) k kept) := ⟨hkl, hko, hkb⟩
          have HKT : Hid ((ks.take (j + 1)).filter (keeps l) = kept ++ (if keeps l q then [q] else [])) := by show _ = _; rw [HT.out, List.filter_append, ← HKK.out]; simp [List.filter_cons]
          clear hkl hko hkb HKX
          rw [hg]
          clear hg
          cases g
          · have hsz : w.heap.size ≤ wr.heap.size := HX2.out.2.2.size
            have hd1 : Hid (Rd (wr.alloc (.cells #[.int .i64 q.k, .slice q.A q.n q.c] 44)) (wr.heap.size + 1) (some ⟨wr.heap.size, 0, none⟩) (1 * 2) (itC q)) := rd_new _ _ _ _ _ _ _ rfl (Nat.lt_succ_self _) rfl rfl
            have hd2 : Hid (ones (itC q)) := fun u hu => by simp [itC] at hu; rcases hu with rfl | rfl <;> rfl
            have hd4 : Hid (w.heap.size ≤ (wr.alloc (.cells #[.int .i64 q.k, .slice q.A q.n q.c] 44)).heap.size) := by show _ ≤ _; simp; omega
            have HO2 : Hid ((wr.alloc (.cells #[.int .i64 q.k, .slice q.A q.n q.c] 44)).ownsRow w.heap.size 44 2 (.slice Ao k co) k (its kept)) := HX2.out.2.1.alloc _
            have HB3 : Hid (Below w.heap.size w (wr.alloc (.cells #[.int .i64 q.k, .slice q.A q.n q.c] 44))) := HX2.out.2.2.alloc hsz _
            go_wp2_with (at_builtin; refine wpList_app _ rfl (.tmp 43) (.tmp 51) 37 rfl w.heap.size 44 i0 (.agg #[.int .i64 0, .slice none 0 0]) 2 32 Try.underlying37 HI.out.1 HI.out.2.1 HI.out.2.2.1 HI.out.2.2.2 rfl (by decide) (.slice Ao k co) k (its kept) rfl HO2.out (wr.heap.size + 1) (some ⟨wr.heap.size, 0, none⟩) 1 1 (itC q) rfl hd1.out hd2.out (by unfold maxLen; omega) (by omega) hd4.out ?_)
            intro v3 w3 hown3 hgrow3
            have HT3 : Hid (RDropI w w3 v3 (k + 1) (kept ++ [q]) ∧ kept ++ [q] = (ks.take (j + 1)).filter (keeps l)) := ⟨⟨by rw [List.length_append, HX2.out.1]; rfl, by rw [its_app]; simpa [its] using hown3, HB3.out.grown hgrow3 HB3.out.size (fun g hg => (HO2.out.lt g hg).1)⟩, by rw [HKT.out, HG.out]; rfl⟩
            obtain ⟨A3, c3, e3, _⟩ := own_form hown3
            subst e3
            clear hown3 hgrow3
            go_wp2_with fail
            refine ⟨⟨j + 1, k + 1, kept ++ [q], by omega, by omega, by go_num, HT3⟩, ?_⟩
            simp [intOf]; omega
          · go_wp2_with fail
            refine ⟨⟨j + 1, k, kept, by omega, by omega, by go_num, HX2.out, by rw [HKT.out, HG.out]; simp⟩, ?_⟩
            simp [intOf]; omega
    · have hltI : ¬ (j : Int) < (n0 : Int) := by omega
      obtain rfl : j = n0 := by omega
      rw [List.take_of_length_le (by have := HN0.out; omega)] at hkk
      have hf0 : wr.frozen? ⟨r, 0, none⟩ = false := (hkb.frozen (p := ⟨r, 0, none⟩) hrlt).trans HRQ.out.fz
      have hkjI : (k : Int) ≤ (j : Int) := by omega
      have hw1 : IntKind.i64.wrap ((j : Int) - (k : Int)) = (j : Int) - (k : Int) := IntWalk.i64_in _ (by omega)
      have HF : Hid ((ks.filter (keeps l)).length = k ∧ RQD (wr.setCell ⟨r, 0, none⟩ (.slice Ao k co)) r lo ((ks.filter (keeps l)).map dat) ∧ w.grownBy (wr.setCell ⟨r, 0, none⟩ (.slice Ao k co)) (some r)) := by
        have hg := grown_set (grown_of_below (w := w) r hkb) 0 (.slice Ao k co)
        have hrl := HRQ.out.rlo
        have hlo := HRQ.out.lo'
        rw [← hkk]
        refine ⟨hkl, ⟨kept, rfl, ⟨Ao, co, ?_, ?_, by rw [hkl]; exact hkco⟩, ?_, hrl, Nat.lt_of_lt_of_le hrlt hg.size, Nat.le_trans hlo hg.size, by rw [hkl]; omega, fun x hx => ?_⟩, hg⟩
        · rw [hkl]; exact World.cell?_setCell_same _ _ _ r0
        · rw [hkl]
          exact ((At.of_own hko).same (by simp [World.setCell]) (fun b h4 _ => Below.heap_setCell _ _ _ _ (fun e => by simp at e; omega))).less hlo
        · rw [World.frozen?_setCell]; exact hf0
        · rw [hkk] at hx
          have := HRQ.out.items x ((List.mem_filter.1 hx).1)
          exact ⟨this.1.grown hg hrl, this.2⟩
      clear hkl hko hkb hkk HK
      go_wp2_with fail
      go_ret
      obtain ⟨h1, h2, h3⟩ := HF.out
      rw [h1]
      exact ⟨rfl, h2, h3⟩
end Go.Proofs.Ytlaopkkfgkcejaa.Qu
