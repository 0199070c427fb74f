/- The path's small functions: the frames of packets, how many of them elicit, whether frames elicit: contracts. Conditions: as each theorem lists them. -/
import Derived.Test.YtebfjphmlggacaaJPa
import Derived.Test.YtebfjphmlggacaaJMw
import Derived.Deep.DeepCutAuto
import Derived.Deep.CutBlock
set_option linter.unusedSimpArgs false
set_option linter.unusedVariables false

namespace Go.Proofs.Ytebfjphmlggacaa.Pa
open Go Go.RowKit Go.Proofs.Ytebfjphmlggacaa Go.Proofs.Ytebfjphmlggacaa.Sp Go.Proofs.Ytebfjphmlggacaa.Ld

theorem fqs_app (a b : List Fq) : fqs (a ++ b) = fqs a ++ fqs b := by simp [fqs]
/-- All frames of these packets. -/
def allF (kq : List (Pk × List Fq)) : List Fq := kq.flatMap (·.2)
theorem allF_app (a b : List (Pk × List Fq)) : allF (a ++ b) = allF a ++ allF b := by simp [allF]
theorem take_one {α : Type} (l : List α) (j : Nat) (x : α) (h : l[j]? = some x) : l.take (j + 1) = l.take j ++ [x] := by
  rw [List.take_add_one, h]; rfl
theorem allF_le (kq : List (Pk × List Fq)) (j : Nat) : (allF (kq.take j)).length ≤ (allF kq).length := by
  have := congrArg List.length (allF_app (kq.take j) (kq.drop j))
  rw [List.take_append_drop, List.length_append] at this
  omega
/-- A packet as the walk reads it, out of a row of packets. -/
theorem pk_cells {w : World} {B n : Nat} {A : Option Addr} {ks : List Pk} (hx : Rd w B A (n * 4) (pks ks)) (hl : ks.length = n) (j : Nat) (k : Pk) (hk : ks[j]? = some k) :
    ∃ b off, A = some ⟨b, off, none⟩ ∧ b < B ∧ w.cell? ⟨b, off + j * 4, none⟩ = some (.int .i64 (k.num : Int)) ∧ w.cell? ⟨b, off + j * 4 + 1, none⟩ = some (.int .i64 k.at') ∧ w.cell? ⟨b, off + j * 4 + 2, none⟩ = some (.bool k.el) ∧ w.cell? ⟨b, off + j * 4 + 3, none⟩ = some (.slice k.fa k.fn k.fc) := by
  have hj : j < ks.length := (List.getElem?_eq_some_iff.1 hk).1
  obtain ⟨b, off, rfl, hb, hc⟩ := hx.2 (by omega)
  have g := fun i hi => pks_get ks j k hk i hi
  exact ⟨b, off, rfl, hb, hc _ _ (g 0 (by omega)), hc _ _ (g 1 (by omega)), hc _ _ (g 2 (by omega)), hc _ _ (g 3 (by omega))⟩

set_option maxRecDepth 100000 in
set_option maxHeartbeats 4000000 in
theorem eliciting_any (ks : List Pk) (n c : Nat) (A : Option Addr) (w : World) (hl : ks.length = n) (hx : Rd w w.heap.size A (n * 4) (pks ks)) (hn : n ≤ c) (hnb : n ≤ 1800000000000) :
    Calls Try.prog 24 #[.slice A n c] w fun e w' => e = .returned (.int .i64 (els ks : Int)) ∧ Below w.heap.size w w' := by
  have HL := Lib.hid hl
  have HX := Lib.hid hx
  have hnI : (n : Int) ≤ 1800000000000 := by omega
  have hncI : (n : Int) ≤ (c : Int) := by omega
  clear hx hl
  go_enter Try.func24, Try.ntmps24
  go_wp2_with fail
  go_loopw [3, 8] (fun v i wr => ∃ j m : Nat, j ≤ n ∧ m ≤ j ∧ i = .int .i64 (j : Int) ∧ v = .int .i64 (m : Int) ∧ Hid (m = els (ks.take j) ∧ Below w.heap.size w wr)) (fun _ i _ => n - (intOf i).toNat)
  case atStart => exact ⟨0, 0, Nat.zero_le _, Nat.le_refl _, rfl, rfl, rfl, Below.refl _ _⟩
  case round =>
    obtain ⟨j, m, hj, hmj, rfl, rfl, HK⟩ := hrel
    by_cases hlt : j < n
    · have hltI : (j : Int) < (n : Int) := by omega
      have hmjI : (m : Int) ≤ (j : Int) := by omega
      obtain ⟨k, hk⟩ : ∃ k, ks[j]? = some k := ⟨_, List.getElem?_eq_getElem (by have := HL.out; omega)⟩
      obtain ⟨b, off, hA, hbl, c0, c1, c2, c3⟩ := pk_cells HX.out HL.out j k hk
      subst hA
      obtain ⟨he, hb⟩ := HK.out
      have e := fun i => hb.cell (p := ⟨b, off + j * 4 + i, none⟩) hbl
      have c0 : wr.cell? ⟨b, off + j * 4, none⟩ = _ := (e 0).trans c0
      have c1 := (e 1).trans c1
      have c2 := (e 2).trans c2
      have c3 := (e 3).trans c3
      have HT : Hid (els (ks.take (j + 1)) = els (ks.take j) + (if k.el = true then 1 else 0)) := by
        show _ = _
        rw [take_one ks j k hk]
        simp only [els, List.countP_append, List.countP_cons, List.countP_nil, Nat.zero_add]
      have HB : Hid (Below w.heap.size w (wr.alloc (.cells #[.int .i64 (k.num : Int), .int .i64 k.at', .bool k.el, .slice k.fa k.fn k.fc] 63))) := hb.alloc hb.size _
      have HE := Lib.hid he
      obtain ⟨knum, kat, kel, kfa, kfn, kfc⟩ := k
      simp only at c0 c1 c2 c3 HT HB
      clear he hb e HK hk hmj
      cases kel
      · go_wp2_with fail
        refine ⟨⟨j + 1, m, by omega, by omega, by go_num, rfl, by rw [HT.out, HE.out]; simp, HB.out⟩, ?_⟩
        simp [intOf]; omega
      · go_wp2_with fail
        refine ⟨⟨j + 1, m + 1, by omega, by omega, by go_num, by go_num, by rw [HT.out, HE.out]; simp, HB.out⟩, ?_⟩
        simp [intOf]; omega
    · have hltI : ¬ (j : Int) < (n : Int) := by omega
      obtain rfl : j = n := by omega
      obtain ⟨he, hb⟩ := HK.out
      rw [List.take_of_length_le (by have := HL.out; omega)] at he
      have HE := Lib.hid he
      have HB := Lib.hid hb
      clear he hb HK
      go_wp2_with fail
      go_ret
      exact ⟨by rw [HE.out]; rfl, HB.out⟩

/-- One of them is neither an Ack nor a Close. -/
def elicF (qs : List Fq) : Bool := qs.any fun q => !(q.k == 2) && !(q.k == 12)
theorem fq_cells {w : World} {B n : Nat} {A : Option Addr} {qs : List Fq} (hx : Rd w B A (n * 9) (fqs qs)) (hl : qs.length = n) (j : Nat) (q : Fq) (hq : qs[j]? = some q) :
    ∃ b off, A = some ⟨b, off, none⟩ ∧ b < B ∧ w.cell? ⟨b, off + j * 9, none⟩ = some (.int .i64 q.k) ∧ w.cell? ⟨b, off + j * 9 + 1, none⟩ = some (.int .i64 q.id) ∧ w.cell? ⟨b, off + j * 9 + 2, none⟩ = some (.int .i64 q.off) ∧ w.cell? ⟨b, off + j * 9 + 3, none⟩ = some (.int .i64 q.a) ∧ w.cell? ⟨b, off + j * 9 + 4, none⟩ = some (.int .i64 q.b) ∧ w.cell? ⟨b, off + j * 9 + 5, none⟩ = some (.int .i64 q.note) ∧ w.cell? ⟨b, off + j * 9 + 6, none⟩ = some (.bool q.fin) ∧ w.cell? ⟨b, off + j * 9 + 7, none⟩ = some (.slice q.da q.dn q.dc) ∧ w.cell? ⟨b, off + j * 9 + 8, none⟩ = some (.slice q.sa q.sn q.sc) := by
  have hj : j < qs.length := (List.getElem?_eq_some_iff.1 hq).1
  obtain ⟨b, off, rfl, hb, hc⟩ := hx.2 (by omega)
  have g := fun i hi => fqs_get qs j q hq i hi
  exact ⟨b, off, rfl, hb, hc _ _ (g 0 (by omega)), hc _ _ (g 1 (by omega)), hc _ _ (g 2 (by omega)), hc _ _ (g 3 (by omega)), hc _ _ (g 4 (by omega)), hc _ _ (g 5 (by omega)), hc _ _ (g 6 (by omega)), hc _ _ (g 7 (by omega)), hc _ _ (g 8 (by omega))⟩

theorem pelic1 (k id off a b note : Int) (fin : Bool) (A : Option Addr) (n c : Nat) (A2 : Option Addr) (n2 c2 : Nat) (w : World) :
    Calls Try.prog 39 #[.agg #[.int .i64 k, .int .i64 id, .int .i64 off, .int .i64 a, .int .i64 b, .int .i64 note, .bool fin, .slice A n c, .slice A2 n2 c2]] w fun e w' => e = .returned (.bool (!(k == 2) && !(k == 12))) ∧ Below w.heap.size w w' := by
  by_cases h2 : k = 2
  · subst h2
    go_enter Try.func39, Try.ntmps39
    go_wp2
    go_ret
    exact ⟨rfl, (Below.refl _ _).alloc (Nat.le_refl _) _⟩
  · by_cases h12 : k = 12
    · subst h12
      go_enter Try.func39, Try.ntmps39
      go_wp2
      go_ret
      exact ⟨rfl, (Below.refl _ _).alloc (Nat.le_refl _) _⟩
    · have e : (!(k == 2) && !(k == 12)) = true := by simp [h2, h12]
      have g1 : (k != 2) = true := by simpa using h2
      have g2 : (k != 12) = true := by simpa using h12
      rw [e]
      clear e h2 h12
      go_enter Try.func39, Try.ntmps39
      go_wp2
      go_ret
      exact ⟨rfl, (Below.refl _ _).alloc (Nat.le_refl _) _⟩

set_option maxRecDepth 100000 in
set_option maxHeartbeats 4000000 in
theorem pindex_any (qs : List Fq) (n c : Nat) (A : Option Addr) (w : World) (hl : qs.length = n) (hx : Rd w w.heap.size A (n * 9) (fqs qs)) (hn : n ≤ c) (hnb : n ≤ 1048576) :
    Calls Try.prog 59 #[.slice A n c, .func (.func 39) #[] #[]] w fun e w' => ∃ r : Int, e = .returned (.int .i64 r) ∧ decide (0 ≤ r) = elicF qs ∧ Below w.heap.size w w' := by
  have HL := Lib.hid hl
  have HX := Lib.hid hx
  have hnI : (n : Int) ≤ 1048576 := by omega
  have hncI : (n : Int) ≤ (c : Int) := by omega
  clear hx hl
  go_enter Try.func59, Try.ntmps59
  go_wp2_with fail
  go_loopw [8] (fun i wr => ∃ j : Nat, j ≤ n ∧ i = .int .i64 (j : Int) ∧ Hid (elicF (qs.take j) = false ∧ Below w.heap.size w wr)) (fun i _ => n - (intOf i).toNat)
  case atStart => exact ⟨0, Nat.zero_le _, rfl, rfl, Below.refl _ _⟩
  case round =>
    obtain ⟨j, hj, rfl, HK⟩ := hrel
    by_cases hlt : j < n
    · have hltI : (j : Int) < (n : Int) := by omega
      obtain ⟨q, hq⟩ : ∃ q, qs[j]? = some q := ⟨_, List.getElem?_eq_getElem (by have := HL.out; omega)⟩
      obtain ⟨b, off, hA, hbl, c0, c1, c2, c3, c4, c5, c6, c7, c8⟩ := fq_cells HX.out HL.out j q hq
      subst hA
      obtain ⟨he, hb⟩ := HK.out
      have e := fun i => hb.cell (p := ⟨b, off + j * 9 + i, none⟩) hbl
      have c0 : wr.cell? ⟨b, off + j * 9, none⟩ = _ := (e 0).trans c0
      have c1 := (e 1).trans c1
      have c2 := (e 2).trans c2
      have c3 := (e 3).trans c3
      have c4 := (e 4).trans c4
      have c5 := (e 5).trans c5
      have c6 := (e 6).trans c6
      have c7 := (e 7).trans c7
      have c8 := (e 8).trans c8
      have HT : Hid (elicF (qs.take (j + 1)) = (!(q.k == 2) && !(q.k == 12))) := by
        show _ = _
        rw [take_one qs j q hq]
        unfold elicF at he ⊢
        rw [List.any_append, he]
        simp
      have HAL : Hid ((!(q.k == 2) && !(q.k == 12)) = true → elicF qs = true) := fun h => by
        unfold elicF
        rw [List.any_eq_true]
        exact ⟨q, List.mem_of_getElem? hq, h⟩
      have HB := Lib.hid hb
      obtain ⟨qk, qid, qoff, qa, qb, qnote, qfin, qda, qdn, qdc, qds, qsa, qsn, qsc, qss⟩ := q
      simp only at c0 c1 c2 c3 c4 c5 c6 c7 c8 HT HAL
      have HE := Lib.hid (fun W => pelic1 qk qid qoff qa qb qnote qfin qda qdn qdc qsa qsn qsc W)
      obtain ⟨r, hr⟩ : ∃ r, Hid ((!(qk == 2) && !(qk == 12)) = r) := ⟨_, rfl⟩
      rw [hr.out] at HE HT HAL
      clear he hb e HK hq
      cases r
      · go_wp2_with fail
        refine (HE.out _).mono ?_
        rintro e w1 ⟨rfl, hb1⟩
        have HB1 : Hid (Below w.heap.size w w1) := HB.out.trans (hb1.mono HB.out.size)
        clear hb1
        go_wp2_with fail
        refine ⟨⟨j + 1, by omega, by go_num, HT.out, HB1.out⟩, ?_⟩
        simp [intOf]; omega
      · have HAT := Lib.hid (HAL.out rfl)
        go_wp2_with fail
        refine (HE.out _).mono ?_
        rintro e w1 ⟨rfl, hb1⟩
        have HB1 : Hid (∃ r : Int, (Ending.returned (.int .i64 (j : Int))) = .returned (.int .i64 r) ∧ decide (0 ≤ r) = elicF qs ∧ Below w.heap.size w w1) := ⟨_, rfl, by rw [HAT.out]; exact decide_eq_true (by omega), HB.out.trans (hb1.mono HB.out.size)⟩
        clear hb1
        go_wp2_with fail
        go_ret
        exact HB1.out
    · have hltI : ¬ (j : Int) < (n : Int) := by omega
      obtain rfl : j = n := by omega
      obtain ⟨he, hb⟩ := HK.out
      rw [List.take_of_length_le (by have := HL.out; omega)] at he
      have HP : Hid (∃ r : Int, (Ending.returned (.int .i64 (-1))) = .returned (.int .i64 r) ∧ decide (0 ≤ r) = elicF qs ∧ Below w.heap.size w wr) := ⟨_, rfl, by rw [he]; decide, hb⟩
      clear he hb HK
      go_wp2_with fail
      go_ret
      exact HP.out

set_option maxRecDepth 100000 in
set_option maxHeartbeats 4000000 in
theorem elicits_any (qs : List Fq) (n c : Nat) (A : Option Addr) (w : World) (hl : qs.length = n) (hx : Rd w w.heap.size A (n * 9) (fqs qs)) (hn : n ≤ c) (hnb : n ≤ 1048576) :
    Calls Try.prog 22 #[.slice A n c] w fun e w' => e = .returned (.bool (elicF qs)) ∧ Below w.heap.size w w' := by
  have HI := Lib.hid (pindex_any qs n c A w hl hx hn hnb)
  clear hl hx hn hnb
  have HC : Hid (Calls Try.prog 38 #[.slice A n c, .func (.func 39) #[] #[]] w fun e w' => e = .returned (.bool (elicF qs)) ∧ Below w.heap.size w w') := by
    show Calls _ _ _ _ _
    go_enter Try.func38, Try.ntmps38
    go_wp2_with fail
    refine HI.out.mono ?_
    rintro e w1 ⟨r, rfl, hr, hb1⟩
    have HR := Lib.hid hr
    have HB := Lib.hid hb1
    clear hr hb1
    go_wp2_with fail
    all_goals
      first
        | (go_ret; exact ⟨by have := HR.out; simp only [← this]; first | rfl | simp [*] | simpa using this, HB.out⟩)
        | (go_ret; exact ⟨by rw [← HR.out]; first | (rw [decide_eq_true (by assumption)]) | (rw [decide_eq_false (by assumption)]), HB.out⟩)
  go_enter Try.func22, Try.ntmps22
  go_wp2_with fail
  refine HC.out.mono ?_
  rintro e w1 ⟨rfl, hb1⟩
  have HB := Lib.hid hb1
  clear hb1
  go_wp2_with fail
  go_ret
  exact ⟨rfl, HB.out⟩

/-- How long it is since then: within what an int holds. -/
theorem since_any (a n : Int) (w : World) (ha : -4611686018427387904 ≤ a ∧ a ≤ 4611686018427387904) (hn : -4611686018427387904 ≤ n ∧ n < 4611686018427387904) :
    Calls Try.prog 27 #[.int .i64 a, .int .i64 n] w fun e w' => e = .returned (.int .i64 (n - a)) ∧ w' = w := by
  obtain ⟨ha1, ha2⟩ := ha
  obtain ⟨hn1, hn2⟩ := hn
  have hwr : IntKind.i64.wrap (n - a) = n - a := IntWalk.i64_in _ (by omega)
  by_cases h : n > a
  · have h2 : ¬ n - a < 0 := by omega
    have h3 : ¬ n < a := by omega
    go_enter Try.func27, Try.ntmps27
    go_wp2_with fail
    go_ret
    exact ⟨rfl, rfl⟩
  · by_cases h3 : n < a
    · have h2 : ¬ n - a > 0 := by omega
      go_enter Try.func27, Try.ntmps27
      go_wp2_with fail
      go_ret
      exact ⟨rfl, rfl⟩
    · go_enter Try.func27, Try.ntmps27
      go_wp2_with fail
      go_ret
      exact ⟨rfl, rfl⟩

set_option maxRecDepth 100000 in
set_option maxHeartbeats 4000000 in
theorem frames_any (kq : List (Pk × List Fq)) (n c : Nat) (A : Option Addr) (w : World) (hl : kq.length = n) (hx : Rd w w.heap.size A (n * 4) (pks (kq.map (·.1)))) (hn : n ≤ c) (hnb : n ≤ 1800000000000) (hf : ∀ x ∈ kq, x.2.length = x.1.fn ∧ Rd w w.heap.size x.1.fa (x.1.fn * 9) (fqs x.2)) (ht : (allF kq).length ≤ 1800000000000) :
    Calls Try.prog 28 #[.slice A n c] w fun e w' => ∃ A' c', e = .returned (.slice A' (allF kq).length c') ∧ w'.ownsRow w.heap.size 28 9 (.slice A' (allF kq).length c') (allF kq).length (fqs (allF kq)) ∧ Below w.heap.size w w' := by
  obtain ⟨i0, hi, hz0, hz1, hz2⟩ := info_parts infoFr
  have HI := Lib.hid (And.intro hi (And.intro hz0 (And.intro hz1 hz2)))
  have HL := Lib.hid hl
  have HX := Lib.hid hx
  have HF := Lib.hid hf
  have HT := Lib.hid ht
  have hnI : (n : Int) ≤ 1800000000000 := by omega
  have hncI : (n : Int) ≤ (c : Int) := by omega
  clear hx hl hf ht hi hz0 hz1 hz2
  go_enter Try.func28, Try.ntmps28
  go_wp2_with fail
  go_loopw [3, 8] (fun v i wr => ∃ j m : Nat, j ≤ n ∧ i = .int .i64 (j : Int) ∧ (∃ A3 c3, v = .slice A3 m c3) ∧ Hid (m = (allF (kq.take j)).length ∧ wr.ownsRow w.heap.size 28 9 v m (fqs (allF (kq.take j))) ∧ Below w.heap.size w wr)) (fun _ i _ => n - (intOf i).toNat)
  case atStart => exact ⟨0, 0, Nat.zero_le _, rfl, ⟨_, _, rfl⟩, rfl, own_nil _ _ _ _, Below.refl _ _⟩
  case round =>
    obtain ⟨j, m, hj, rfl, ⟨A3, c3, rfl⟩, HK⟩ := hrel
    by_cases hlt : j < n
    · have hltI : (j : Int) < (n : Int) := by omega
      obtain ⟨⟨k, qs⟩, hk⟩ : ∃ k, kq[j]? = some k := ⟨_, List.getElem?_eq_getElem (by have := HL.out; omega)⟩
      obtain ⟨b, off, hA, hbl, c0, c1, c2, c3'⟩ := pk_cells HX.out (by rw [List.length_map]; exact HL.out) j k (by simp [hk])
      subst hA
      obtain ⟨he, ho, hb⟩ := HK.out
      obtain ⟨hq1, hq2⟩ := HF.out _ (List.mem_of_getElem? hk)
      simp only at hq1 hq2
      have e := fun i => hb.cell (p := ⟨b, off + j * 4 + i, none⟩) hbl
      have c0 : wr.cell? ⟨b, off + j * 4, none⟩ = _ := (e 0).trans c0
      have c1 := (e 1).trans c1
      have c2 := (e 2).trans c2
      have c3' := (e 3).trans c3'
      have HS : Hid (allF (kq.take (j + 1)) = allF (kq.take j) ++ qs) := by
        show _ = _
        rw [take_one kq j _ hk, allF_app]
        simp [allF]
      have hle := allF_le kq (j + 1)
      rw [HS.out, List.length_append, ← he, hq1] at hle
      have htt := HT.out
      obtain ⟨wa, hwa⟩ : ∃ x, wr.alloc (.cells #[.int .i64 (k.num : Int), .int .i64 k.at', .bool k.el, .slice k.fa k.fn k.fc] 63) = x := ⟨_, rfl⟩
      have HB : Hid (Below w.heap.size w wa) := hwa ▸ hb.alloc hb.size _
      have HO : Hid (wa.ownsRow w.heap.size 28 9 (.slice A3 m c3) m (fqs (allF (kq.take j)))) := hwa ▸ ho.alloc _
      have HR : Hid (Rd wa wa.heap.size k.fa (k.fn * 9) (fqs qs)) := (hq2.below HB.out (Nat.le_refl _)).more HB.out.size
      have hd2 : Hid (m + k.fn ≤ maxLen) := by show _ ≤ _; unfold maxLen; omega
      have hd3 : Hid (((m + k.fn) + (m + k.fn) / 4 + 192) * 104 ≤ 281474976710656) := by show _ ≤ _; omega
      have hd4 : Hid (w.heap.size ≤ wa.heap.size) := HB.out.size
      have HE := Lib.hid he
      have HQ1 := Lib.hid hq1
      have nb := World.new_ne wr _ c0
      clear he ho hb HK hle htt hq1 hq2 e
      obtain ⟨knum, kat, kel, kfa, kfn, kfc⟩ := k
      simp only at c0 c1 c2 c3' HR hd2 hd3 hwa HQ1
      go_upto_region 5 with (fail)
      have cf : wa.cell? ⟨wr.heap.size, 3, none⟩ = some (.slice kfa kfn kfc) := by rw [← hwa]; exact cell_slot (heap_alloc_new wr _) rfl
      clear hwa c0 c1 c2 c3' nb
      go_wp2_with (at_builtin; refine wpList_app_wide _ rfl (.tmp 12) (.tmp 14) 31 rfl w.heap.size 28 i0 (.agg #[.int .i64 0, .int .i64 0, .int .i64 0, .int .i64 0, .int .i64 0, .int .i64 0, .bool false, .slice none 0 0, .slice none 0 0]) 9 104 Try.underlying31 HI.out.1 HI.out.2.1 HI.out.2.2.1 HI.out.2.2.2 rfl (by decide) (.slice A3 m c3) m (fqs (allF (kq.take j))) rfl HO.out wa.heap.size kfa kfn kfc (fqs qs) rfl HR.out (ones_fqs _) hd2.out hd3.out hd4.out ?_)
      intro v5 w5 ho5 hg5
      obtain ⟨A5, c5, e5, _⟩ := own_form ho5
      subst e5
      have HN' : Hid (m + kfn = (allF (kq.take (j + 1))).length ∧ w5.ownsRow w.heap.size 28 9 (.slice A5 (m + kfn) c5) (m + kfn) (fqs (allF (kq.take (j + 1)))) ∧ Below w.heap.size w w5) := by
        rw [HS.out, fqs_app, List.length_append, HQ1.out]
        exact ⟨by rw [HE.out], ho5, HB.out.grown hg5 hd4.out (fun g hg => (HO.out.lt g hg).1)⟩
      clear ho5 hg5 cf
      go_wp2_with fail
      refine ⟨⟨j + 1, m + kfn, by omega, by go_num, ⟨_, _, rfl⟩, HN'⟩, ?_⟩
      simp [intOf]; omega
    · have hltI : ¬ (j : Int) < (n : Int) := by omega
      obtain rfl : j = n := by omega
      obtain ⟨he, ho, hb⟩ := HK.out
      rw [List.take_of_length_le (by have := HL.out; omega)] at he ho
      have HF2 := Lib.hid (And.intro he (And.intro ho hb))
      clear he ho hb HK
      go_wp2_with fail
      go_ret
      obtain ⟨he, ho, hb⟩ := HF2.out
      subst he
      exact ⟨A3, c3, rfl, ho, hb⟩
end Go.Proofs.Ytebfjphmlggacaa.Pa
