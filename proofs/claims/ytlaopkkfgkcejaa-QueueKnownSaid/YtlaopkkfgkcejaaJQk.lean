/- QueueKnown: the walk over the contracts. Conditions: none. -/
import Derived.Test.YtlaopkkfgkcejaaJQi
set_option linter.unusedSimpArgs false
set_option linter.unusedVariables false

namespace Go.Proofs.Ytlaopkkfgkcejaa.Qu
open Go Go.RowKit Go.Proofs.Ytlaopkkfgkcejaa

theorem made0 (n : Nat) : (madeCells #[Value.int .u8 0] n).toList = bv (List.replicate n 0) := by
  refine List.ext_getElem (by simp [madeCells, bv]) fun k h1 h2 => ?_
  simp [madeCells, bv, Nat.mod_one]
def three : List (Int × List Nat) := [(0, []), (1, List.replicate 117 0), (2, List.replicate 116 0)]
/-- The forty items. -/
def forty : List (Int × List Nat) := (List.range 40).map fun i => (2 + ((i % 3 : Nat) : Int), [i])
def kd1 : List (Int × List Nat) := (2, List.replicate 116 0) :: forty.take 31
def kd2 : List (Int × List Nat) := kd1.filter (keepD [2, 3, 9])
def kd3 : List (Int × List Nat) := kd2.tail
/-- The row on its way. -/
def KnI (w1 wr : World) (lo : Nat) (v : Value) (k : Nat) : Prop := ∃ qs, RowQ wr lo v k qs ∧ qs.map dat = forty.take k ∧ (∀ q ∈ qs, q.n ≤ 1000000) ∧ Below w1.heap.size w1 wr

set_option maxRecDepth 100000 in
set_option maxHeartbeats 80000000 in
theorem known_walk (w : World) : Calls Try.prog 3 #[] w fun e w' => e = .returned (.bool true) ∧ Below w.heap.size w w' := by
  have HQ0 : Hid (LQ w (w.alloc (.cells zeroQ 27)) w.heap.size (w.heap.size + 1) []) := new_lq (Below.refl w.heap.size w)
  obtain ⟨i1, hi, hz0, hz1, hz2⟩ := info_parts infoU8
  have hm117 := fun W => run_make (P := Try.prog) W 22 5 i1 (.int .u8 0) Try.underlying22 hi hz0 .i64 .i64 117 117 (by omega) (by omega) (by rw [hz2]; omega) (by omega)
  have hm116 := fun W => run_make (P := Try.prog) W 22 5 i1 (.int .u8 0) Try.underlying22 hi hz0 .i64 .i64 116 116 (by omega) (by omega) (by rw [hz2]; omega) (by omega)
  simp only [hz1, Nat.mul_one, show (117 : Int).toNat = 117 from rfl] at hm117
  simp only [hz1, Nat.mul_one, show (116 : Int).toNat = 116 from rfl] at hm116
  obtain ⟨zc117, hzc7⟩ : ∃ x, madeCells (Value.int .u8 0).cells 117 = x := ⟨_, rfl⟩
  obtain ⟨zc116, hzc6⟩ : ∃ x, madeCells (Value.int .u8 0).cells 116 = x := ⟨_, rfl⟩
  rw [hzc7] at hm117
  rw [hzc6] at hm116
  have HZ117 : Hid (zc117.toList = bv (List.replicate 117 0)) := by rw [← hzc7]; exact made0 117
  have HZ116 : Hid (zc116.toList = bv (List.replicate 116 0)) := by rw [← hzc6]; exact made0 116
  have hmk117 := Lib.hid hm117
  have hmk116 := Lib.hid hm116
  obtain ⟨i0, hi0, hz00, hz01, hz02⟩ := info_parts infoIt
  have HI := Lib.hid (And.intro hi0 (And.intro hz00 (And.intro hz01 hz02)))
  clear hi hz0 hz1 hz2 hm117 hm116 hzc7 hzc6 hi0 hz00 hz01 hz02
  obtain ⟨p, hp⟩ : ∃ p, w.heap.size = p := ⟨_, rfl⟩
  rw [hp] at HQ0
  go_enter Try.func3, Try.ntmps3
  go_upto_region 2 with (refine wpList_queue_new 18 1 rfl rfl rfl rfl rfl rfl rfl rfl rfl (fun _ _ => rfl) (fun _ _ => rfl) ?_)
  go_frame
  rw [hp]
  go_cut [2] (fun v2 wx => v2 = .int .i64 1 ∧ Hid (LQ w wx p (p + 1) [(2, List.replicate 116 0)]))
  case first =>
    refine wp_region_held_drew (S := (fun _ => True)) (by kernel_rfl) ?_ (fun hHeld => ?_)
    · exact trivial
    obtain ⟨x, hx⟩ : ∃ z, (w.alloc (.cells zeroQ 27)).drew = z := ⟨_, rfl⟩
    have HLQ_x : Hid (LQ w x p (p + 1) []) := hx ▸ HQ0.out.below (Below.refl _ _).drew
    have HLW_x : Hid (p + 1 ≤ x.heap.size) := HLQ_x.out.low
    rw [hx]
    clear hx
    refine wpAnyH_take (i := 0) (v := ?_) rfl (by kernel_rfl) (by kernel_rfl) (by kernel_rfl) (fun _ _ _ h => h) (Or.inl ⟨by rfl, ?_⟩) (by assumption) ?_
    rotate_left
    · intro w hSw; (try dsimp only at hSw); go_simp; try with_reducible rfl
    go_simp
    refine wpAnyH_ready (rs := [1, 3]) (by kernel_rfl) (by simp) ?_
    refine AllReadyH.cons rfl (fun K hK => ?_) ?_
    · skip
      go_simp
      have hmk := hmk117.out x
      obtain ⟨b1, hb1⟩ : ∃ z, (World.heap x).size = z := ⟨_, rfl⟩
      obtain ⟨xa, hxa⟩ : ∃ z, World.alloc x (.cells zc117 5) = z := ⟨_, rfl⟩
      have hb : Below (World.heap x).size x xa := by rw [← hxa]; exact (Below.refl _ _).alloc (Nat.le_refl _) _
      have ha : At xa (p + 1) (some ⟨b1, 0, none⟩) 117 (bv (List.replicate 117 0)) := by rw [← hxa, ← hb1]; exact at_new _ _ _ _ _ _ _ rfl HLW_x.out (by rw [← Array.length_toList, HZ117.out, bv_len, List.length_replicate]) HZ117.out
      have hl : p + 1 ≤ (World.heap xa).size := Nat.le_trans HLW_x.out hb.size
      have hq := HLQ_x.out.below hb
      rw [hb1, hxa] at hmk
      have HLW_xa := Lib.hid hl
      have HLQ_xa := Lib.hid hq
      have HA117_xa := Lib.hid ha
      clear hb ha hl hq
      go_simp
      clear hmk hxa hb1
      refine hK.out _ _ ?_ (fun hHeld => ?_)
      · exact trivial
      clear hK K
      go_simp
      refine wpAnyH_take (i := 2) (v := ?_) rfl (by kernel_rfl) (by kernel_rfl) (by kernel_rfl) (fun _ _ _ h => h) (Or.inl ⟨by rfl, ?_⟩) (by assumption) ?_
      rotate_left
      · intro w hSw; (try dsimp only at hSw); go_simp; try with_reducible rfl
      go_simp
      refine wpAnyH_ready (rs := [3]) (by kernel_rfl) (by simp) ?_
      refine AllReadyH.cons rfl (fun K hK => ?_) AllReadyH.nil
      go_simp
      have hmk := hmk116.out xa
      obtain ⟨b2, hb2⟩ : ∃ z, (World.heap xa).size = z := ⟨_, rfl⟩
      obtain ⟨xb, hxb⟩ : ∃ z, World.alloc xa (.cells zc116 5) = z := ⟨_, rfl⟩
      have hb : Below (World.heap xa).size xa xb := by rw [← hxb]; exact (Below.refl _ _).alloc (Nat.le_refl _) _
      have ha : At xb (p + 1) (some ⟨b2, 0, none⟩) 116 (bv (List.replicate 116 0)) := by rw [← hxb, ← hb2]; exact at_new _ _ _ _ _ _ _ rfl HLW_xa.out (by rw [← Array.length_toList, HZ116.out, bv_len, List.length_replicate]) HZ116.out
      have hl : p + 1 ≤ (World.heap xb).size := Nat.le_trans HLW_xa.out hb.size
      have hq := HLQ_xa.out.below hb
      rw [hb2, hxb] at hmk
      have ha0 := HA117_xa.out.below hb
      have HLW_xb := Lib.hid hl
      have HLQ_xb := Lib.hid hq
      have HA116_xb := Lib.hid ha
      have HA117_xb := Lib.hid ha0
      clear ha0
      clear hb ha hl hq
      go_simp
      clear hmk hxb hb2
      refine hK.out _ _ ?_ (fun hHeld => ?_)
      · exact trivial
      clear hK K
      go_simp
      refine wpAnyH_take (i := 4) (v := ?_) rfl (by kernel_rfl) (by kernel_rfl) (by kernel_rfl) (fun _ _ _ h => h) (Or.inl ⟨by rfl, ?_⟩) (by assumption) ?_
      rotate_left
      · intro w hSw; (try dsimp only at hSw); go_simp; try with_reducible rfl
      go_simp
      refine wpAnyH_ready (rs := [5]) (by kernel_rfl) (by simp) ?_
      refine AllReadyH.cons rfl (fun K hK => ?_) AllReadyH.nil
      go_simp
      have hb : Below (World.heap xb).size xb (World.alloc xb (.cells #[.int .i64 0, .slice none 0 0, .int .i64 1, .slice (some ⟨b1, 0, none⟩) 117 117, .int .i64 2, .slice (some ⟨b2, 0, none⟩) 116 116] 24)) := (Below.refl _ _).alloc (Nat.le_refl _) _
      have ha : At (World.alloc xb (.cells #[.int .i64 0, .slice none 0 0, .int .i64 1, .slice (some ⟨b1, 0, none⟩) 117 117, .int .i64 2, .slice (some ⟨b2, 0, none⟩) 116 116] 24)) (p + 1) (some ⟨(World.heap xb).size, 0, none⟩) (3 * 2) (its [⟨0, none, 0, 0, []⟩, ⟨1, some ⟨b1, 0, none⟩, 117, 117, List.replicate 117 0⟩, ⟨2, some ⟨b2, 0, none⟩, 116, 116, List.replicate 116 0⟩]) := at_new _ _ _ _ _ _ _ rfl HLW_xb.out rfl rfl
      have hput := Lib.hid (put_lq (HLQ_xb.out.below hb) [⟨0, none, 0, 0, []⟩, ⟨1, some ⟨b1, 0, none⟩, 117, 117, List.replicate 117 0⟩, ⟨2, some ⟨b2, 0, none⟩, 116, 116, List.replicate 116 0⟩] 3 3 _ ha (Nat.le_refl _) (by omega) (fun q hq => by
        simp only [List.mem_cons, List.not_mem_nil, or_false] at hq
        rcases hq with rfl | rfl | rfl
        · exact ⟨⟨⟨rfl, fun h => absurd h (by simp)⟩, Nat.le_refl _, fun x hx => by cases hx⟩, by simp⟩
        · exact ⟨⟨HA117_xb.out.below hb, Nat.le_refl _, fun x hx => by have := List.eq_of_mem_replicate hx; omega⟩, by simp⟩
        · exact ⟨⟨HA116_xb.out.below hb, Nat.le_refl _, fun x hx => by have := List.eq_of_mem_replicate hx; omega⟩, by simp⟩))
      have hput' : Hid (Calls Try.prog 7 #[.pointer (some ⟨p, 0, none⟩), .slice (some ⟨(World.heap xb).size, 0, none⟩) 3 3] (World.alloc xb (.cells #[.int .i64 0, .slice none 0 0, .int .i64 1, .slice (some ⟨b1, 0, none⟩) 117 117, .int .i64 2, .slice (some ⟨b2, 0, none⟩) 116 116] 24)) fun e w' => e = .returned (.int .i64 1) ∧ LQ w w' p (p + 1) [(2, List.replicate 116 0)]) := by
        refine hput.out.mono ?_
        rintro e w' ⟨rfl, h1, _⟩
        exact ⟨congrArg (fun n : Nat => Ending.returned (.int .i64 (n : Int))) (show (putD 0 three).length = 1 by decide +kernel), (show putD 0 three = [(2, List.replicate 116 0)] by decide +kernel) ▸ h1⟩
      have HPUT := hput'
      clear hb ha hput hput'
      refine hK.out _ _ ?_ (fun hHeld => ?_)
      · exact trivial
      clear hK K
      go_simp
      refine wpAnyH_ready (rs := [6]) (by kernel_rfl) (by simp) ?_
      refine AllReadyH.cons rfl (fun K hK => ?_) AllReadyH.nil
      go_simp
      refine HPUT.out.mono ?_
      rintro e w5 ⟨rfl, hq5⟩
      have HQ5 := Lib.hid hq5
      clear hq5 HPUT
      refine hK.out _ _ ?_ (fun hHeld => ?_)
      · exact trivial
      clear hK K
      go_simp
      refine wpAnyH_take (i := 7) (v := ?_) rfl (by kernel_rfl) (by kernel_rfl) (by kernel_rfl) (fun _ _ _ h => h) (Or.inl ⟨by rfl, ?_⟩) (by assumption) ?_
      rotate_left
      · intro w hSw; (try dsimp only at hSw); go_simp; try with_reducible rfl
      go_simp
      refine wpAnyH_done (by kernel_rfl) ?_ _
      go_wp2_with fail
      go_meet
      exact ⟨rfl, HQ5⟩
    refine AllReadyH.cons rfl (fun K hK => ?_) ?_
    · skip
      go_simp
      have hmk := hmk116.out x
      obtain ⟨b1, hb1⟩ : ∃ z, (World.heap x).size = z := ⟨_, rfl⟩
      obtain ⟨xa, hxa⟩ : ∃ z, World.alloc x (.cells zc116 5) = z := ⟨_, rfl⟩
      have hb : Below (World.heap x).size x xa := by rw [← hxa]; exact (Below.refl _ _).alloc (Nat.le_refl _) _
      have ha : At xa (p + 1) (some ⟨b1, 0, none⟩) 116 (bv (List.replicate 116 0)) := by rw [← hxa, ← hb1]; exact at_new _ _ _ _ _ _ _ rfl HLW_x.out (by rw [← Array.length_toList, HZ116.out, bv_len, List.length_replicate]) HZ116.out
      have hl : p + 1 ≤ (World.heap xa).size := Nat.le_trans HLW_x.out hb.size
      have hq := HLQ_x.out.below hb
      rw [hb1, hxa] at hmk
      have HLW_xa := Lib.hid hl
      have HLQ_xa := Lib.hid hq
      have HA116_xa := Lib.hid ha
      clear hb ha hl hq
      go_simp
      clear hmk hxa hb1
      refine hK.out _ _ ?_ (fun hHeld => ?_)
      · exact trivial
      clear hK K
      go_simp
      refine wpAnyH_take (i := 4) (v := ?_) rfl (by kernel_rfl) (by kernel_rfl) (by kernel_rfl) (fun _ _ _ h => h) (Or.inl ⟨by rfl, ?_⟩) (by assumption) ?_
      rotate_left
      · intro w hSw; (try dsimp only at hSw); go_simp; try with_reducible rfl
      go_simp
      refine wpAnyH_ready (rs := [1]) (by kernel_rfl) (by simp) ?_
      refine AllReadyH.cons rfl (fun K hK => ?_) AllReadyH.nil
      go_simp
      have hmk := hmk117.out xa
      obtain ⟨b2, hb2⟩ : ∃ z, (World.heap xa).size = z := ⟨_, rfl⟩
      obtain ⟨xb, hxb⟩ : ∃ z, World.alloc xa (.cells zc117 5) = z := ⟨_, rfl⟩
      have hb : Below (World.heap xa).size xa xb := by rw [← hxb]; exact (Below.refl _ _).alloc (Nat.le_refl _) _
      have ha : At xb (p + 1) (some ⟨b2, 0, none⟩) 117 (bv (List.replicate 117 0)) := by rw [← hxb, ← hb2]; exact at_new _ _ _ _ _ _ _ rfl HLW_xa.out (by rw [← Array.length_toList, HZ117.out, bv_len, List.length_replicate]) HZ117.out
      have hl : p + 1 ≤ (World.heap xb).size := Nat.le_trans HLW_xa.out hb.size
      have hq := HLQ_xa.out.below hb
      rw [hb2, hxb] at hmk
      have ha0 := HA116_xa.out.below hb
      have HLW_xb := Lib.hid hl
      have HLQ_xb := Lib.hid hq
      have HA117_xb := Lib.hid ha
      have HA116_xb := Lib.hid ha0
      clear ha0
      clear hb ha hl hq
      go_simp
      clear hmk hxb hb2
      refine hK.out _ _ ?_ (fun hHeld => ?_)
      · exact trivial
      clear hK K
      go_simp
      refine wpAnyH_take (i := 2) (v := ?_) rfl (by kernel_rfl) (by kernel_rfl) (by kernel_rfl) (fun _ _ _ h => h) (Or.inl ⟨by rfl, ?_⟩) (by assumption) ?_
      rotate_left
      · intro w hSw; (try dsimp only at hSw); go_simp; try with_reducible rfl
      go_simp
      refine wpAnyH_ready (rs := [5]) (by kernel_rfl) (by simp) ?_
      refine AllReadyH.cons rfl (fun K hK => ?_) AllReadyH.nil
      go_simp
      have hb : Below (World.heap xb).size xb (World.alloc xb (.cells #[.int .i64 0, .slice none 0 0, .int .i64 1, .slice (some ⟨b2, 0, none⟩) 117 117, .int .i64 2, .slice (some ⟨b1, 0, none⟩) 116 116] 24)) := (Below.refl _ _).alloc (Nat.le_refl _) _
      have ha : At (World.alloc xb (.cells #[.int .i64 0, .slice none 0 0, .int .i64 1, .slice (some ⟨b2, 0, none⟩) 117 117, .int .i64 2, .slice (some ⟨b1, 0, none⟩) 116 116] 24)) (p + 1) (some ⟨(World.heap xb).size, 0, none⟩) (3 * 2) (its [⟨0, none, 0, 0, []⟩, ⟨1, some ⟨b2, 0, none⟩, 117, 117, List.replicate 117 0⟩, ⟨2, some ⟨b1, 0, none⟩, 116, 116, List.replicate 116 0⟩]) := at_new _ _ _ _ _ _ _ rfl HLW_xb.out rfl rfl
      have hput := Lib.hid (put_lq (HLQ_xb.out.below hb) [⟨0, none, 0, 0, []⟩, ⟨1, some ⟨b2, 0, none⟩, 117, 117, List.replicate 117 0⟩, ⟨2, some ⟨b1, 0, none⟩, 116, 116, List.replicate 116 0⟩] 3 3 _ ha (Nat.le_refl _) (by omega) (fun q hq => by
        simp only [List.mem_cons, List.not_mem_nil, or_false] at hq
        rcases hq with rfl | rfl | rfl
        · exact ⟨⟨⟨rfl, fun h => absurd h (by simp)⟩, Nat.le_refl _, fun x hx => by cases hx⟩, by simp⟩
        · exact ⟨⟨HA117_xb.out.below hb, Nat.le_refl _, fun x hx => by have := List.eq_of_mem_replicate hx; omega⟩, by simp⟩
        · exact ⟨⟨HA116_xb.out.below hb, Nat.le_refl _, fun x hx => by have := List.eq_of_mem_replicate hx; omega⟩, by simp⟩))
      have hput' : Hid (Calls Try.prog 7 #[.pointer (some ⟨p, 0, none⟩), .slice (some ⟨(World.heap xb).size, 0, none⟩) 3 3] (World.alloc xb (.cells #[.int .i64 0, .slice none 0 0, .int .i64 1, .slice (some ⟨b2, 0, none⟩) 117 117, .int .i64 2, .slice (some ⟨b1, 0, none⟩) 116 116] 24)) fun e w' => e = .returned (.int .i64 1) ∧ LQ w w' p (p + 1) [(2, List.replicate 116 0)]) := by
        refine hput.out.mono ?_
        rintro e w' ⟨rfl, h1, _⟩
        exact ⟨congrArg (fun n : Nat => Ending.returned (.int .i64 (n : Int))) (show (putD 0 three).length = 1 by decide +kernel), (show putD 0 three = [(2, List.replicate 116 0)] by decide +kernel) ▸ h1⟩
      have HPUT := hput'
      clear hb ha hput hput'
      refine hK.out _ _ ?_ (fun hHeld => ?_)
      · exact trivial
      clear hK K
      go_simp
      refine wpAnyH_ready (rs := [6]) (by kernel_rfl) (by simp) ?_
      refine AllReadyH.cons rfl (fun K hK => ?_) AllReadyH.nil
      go_simp
      refine HPUT.out.mono ?_
      rintro e w5 ⟨rfl, hq5⟩
      have HQ5 := Lib.hid hq5
      clear hq5 HPUT
      refine hK.out _ _ ?_ (fun hHeld => ?_)
      · exact trivial
      clear hK K
      go_simp
      refine wpAnyH_take (i := 7) (v := ?_) rfl (by kernel_rfl) (by kernel_rfl) (by kernel_rfl) (fun _ _ _ h => h) (Or.inl ⟨by rfl, ?_⟩) (by assumption) ?_
      rotate_left
      · intro w hSw; (try dsimp only at hSw); go_simp; try with_reducible rfl
      go_simp
      refine wpAnyH_done (by kernel_rfl) ?_ _
      go_wp2_with fail
      go_meet
      exact ⟨rfl, HQ5⟩
    exact AllReadyH.nil
  case rest =>
    obtain ⟨rfl, HQ5⟩ := hcut
    obtain ⟨h, hh⟩ : ∃ h, wc.heap.size = h := ⟨_, rfl⟩
    have hph : p < h := by rw [← hh]; exact HQ5.out.lt
    clear HQ0 HZ117 HZ116 hmk117 hmk116
    go_wp2_with fail
    go_loopw [3, 4] (fun vl i w2 => ∃ k : Nat, k ≤ 40 ∧ i = .int .i64 (k : Int) ∧ Hid (KnI wc w2 h vl k)) (fun _ i _ => 40 - (intOf i).toNat)
    case atStart => exact ⟨0, by omega, rfl, [], RowQ.nil _ _, rfl, (fun _ h => by cases h), Below.refl _ _⟩
    case round =>
      obtain ⟨k, hk40, rfl, HK⟩ := hrel
      obtain ⟨qs, hrow, hdat, hfew, hb2⟩ := HK.out
      obtain ⟨A9, c9, e9, hkc9, hc9m, _, _⟩ := own_form hrow.2.1
      subst e9
      have hkI : (k : Int) ≤ 40 := by omega
      have hk0I : (0 : Int) ≤ (k : Int) := by omega
      have HROW := Lib.hid hrow
      have HDAT := Lib.hid hdat
      have HFEW := Lib.hid hfew
      have HB2 := Lib.hid hb2
      clear hrow hfew hb2 HK hdat
      by_cases hk : k < 40
      · have hk1I : (k : Int) < 40 := by omega
        have hrem : (k : Int).tmod 3 = ((k % 3 : Nat) : Int) := (Int.ofNat_tmod k 3).symm
        obtain ⟨m, hm⟩ : ∃ m, k % 3 = m := ⟨_, rfl⟩
        have hm3 : m < 3 := by omega
        rw [hm] at hrem
        have hadd : IntKind.i64.wrap (2 + (m : Int)) = 2 + (m : Int) := IntWalk.i64_in _ (by omega)
        have hu8 : IntKind.u8.wrap (k : Int) = (k : Int) := by
          have : IntKind.u8.wrap (k : Int) = (k : Int) % 256 := by simp [IntKind.wrap, IntKind.signed, IntKind.bits]
          omega
        have hsz : wc.heap.size ≤ wr.heap.size := HB2.out.size
        obtain ⟨s, hs⟩ : ∃ s, wr.heap.size = s := ⟨_, rfl⟩
        have HT : Hid (forty.take (k + 1) = forty.take k ++ [(2 + (m : Int), [k])]) := take_one forty k _ (by rw [← hm]; simp [forty, hk])
        have HIT : Hid (ItB (wr.alloc (.cells #[.int .u8 (k : Int)] 5)) h ⟨2 + (m : Int), some ⟨s, 0, none⟩, 1, 1, [k]⟩) := by rw [← hs]; exact itb_one wr h (by omega) _ k (by omega)
        have HIT2 := Lib.hid (HIT.out.below ((Below.refl _ _).alloc (Nat.le_refl _) (.cells #[.int .i64 (2 + (m : Int)), .slice (some ⟨s, 0, none⟩) 1 1] 24)))
        have HR2 : Hid (RowQ ((wr.alloc (.cells #[.int .u8 (k : Int)] 5)).alloc (.cells #[.int .i64 (2 + (m : Int)), .slice (some ⟨s, 0, none⟩) 1 1] 24)) h (.slice A9 k c9) k qs) := (HROW.out.below ((Below.refl _ _).alloc (Nat.le_refl _) _)).below ((Below.refl _ _).alloc (Nat.le_refl _) _)
        have hd1 : Hid (Rd ((wr.alloc (.cells #[.int .u8 (k : Int)] 5)).alloc (.cells #[.int .i64 (2 + (m : Int)), .slice (some ⟨s, 0, none⟩) 1 1] 24)) (s + 2) (some ⟨s + 1, 0, none⟩) (1 * 2) (itC ⟨2 + (m : Int), some ⟨s, 0, none⟩, 1, 1, [k]⟩)) := by rw [← hs]; exact rd_new _ _ _ _ _ _ _ (by simp) (by simp) rfl rfl
        have hd2 : Hid (ones (itC ⟨2 + (m : Int), some ⟨s, 0, none⟩, 1, 1, [k]⟩)) := fun u hu => by simp [itC] at hu; rcases hu with rfl | rfl <;> rfl
        have hd4 : Hid (h ≤ ((wr.alloc (.cells #[.int .u8 (k : Int)] 5)).alloc (.cells #[.int .i64 (2 + (m : Int)), .slice (some ⟨s, 0, none⟩) 1 1] 24)).heap.size) := by show _ ≤ _; simp; omega
        have HB3 : Hid (Below wc.heap.size wc ((wr.alloc (.cells #[.int .u8 (k : Int)] 5)).alloc (.cells #[.int .i64 (2 + (m : Int)), .slice (some ⟨s, 0, none⟩) 1 1] 24))) := (HB2.out.alloc hsz _).alloc (by simp; omega) _
        go_wp2_with (at_builtin; refine wpList_app _ rfl (.tmp 30) (.tmp 38) 29 rfl h 24 i0 (.agg #[.int .i64 0, .slice none 0 0]) 2 32 Try.underlying29 HI.out.1 HI.out.2.1 HI.out.2.2.1 HI.out.2.2.2 rfl (by decide) (.slice A9 k c9) k (its qs) rfl HR2.out.2.1 (s + 2) (some ⟨s + 1, 0, none⟩) 1 1 (itC ⟨2 + (m : Int), some ⟨s, 0, none⟩, 1, 1, [k]⟩) rfl hd1.out hd2.out (by unfold maxLen; omega) (by omega) hd4.out ?_)
        intro v3 w3 hown3 hgrow3
        have HT3 : Hid (KnI wc w3 h v3 (k + 1)) := ⟨qs ++ [⟨2 + (m : Int), some ⟨s, 0, none⟩, 1, 1, [k]⟩], HR2.out.push HIT2.out hown3 hgrow3, by rw [List.map_append, HDAT.out, HT.out]; rfl, fun q hq => by
          rw [List.mem_append] at hq
          rcases hq with hq | hq
          · exact HFEW.out q hq
          · have : q = ⟨2 + (m : Int), some ⟨s, 0, none⟩, 1, 1, [k]⟩ := by simpa using hq
            subst this
            show 1 ≤ _; omega, HB3.out.grown hgrow3 HB3.out.size (fun g hg => by have := (HR2.out.2.1.lt g hg).1; omega)⟩
        obtain ⟨A3, c3, e3, _⟩ := own_form hown3
        subst e3
        clear hown3 hgrow3
        go_wp2_with fail
        go_roundw
        case rel => first | exact ⟨k + 1, by omega, by go_num, HT3⟩ | exact ⟨_, _, _, _, _, _, _, _, _, _, _, _, _, _, _, _, ⟨k + 1, by omega, by go_num, HT3⟩, rfl⟩
        case measure => simp [intOf]; omega
      · have hk1I : ¬ (k : Int) < 40 := by omega
        obtain rfl : k = 40 := by omega
        have hd40 : qs.map dat = forty := by have := HDAT.out; rwa [List.take_of_length_le (by simp [forty])] at this
        have hat : At wr h A9 (40 * 2) (its qs) := At.of_own HROW.out.2.1
        have hql : qs.length = 40 := HROW.out.1
        have HPUT := Lib.hid (put_lq (HQ5.out.below HB2.out) qs 40 c9 A9 (hat.less (by omega)) hkc9 (by omega) (fun q hq => ⟨(HROW.out.2.2 q hq).ok.less (by omega), HFEW.out q hq⟩))
        rw [hd40, show [((2 : Int), List.replicate 116 0)].length = 1 from rfl, show putD 1 forty = forty.take 31 by decide +kernel, show (forty.take 31).length = 31 by decide +kernel] at HPUT
        obtain ⟨q0, hq0⟩ : ∃ q, qs[0]? = some q := ⟨_, List.getElem?_eq_getElem (by omega)⟩
        have hq0d : dat q0 = (2, [0]) := by
          have h1 : (qs.map dat)[0]? = some (dat q0) := by rw [List.getElem?_map, hq0]; rfl
          rw [hd40, show forty[0]? = some (2, [0]) by decide +kernel] at h1
          exact (Option.some.inj h1).symm
        obtain ⟨b, off, rfl, hhb, hbl, hcs⟩ := hat.2 (by omega)
        have c0 : wr.cell? ⟨b, off, none⟩ = some (.int .i64 q0.k) := hcs 0 _ (by have := its_get qs 0 q0 hq0 0 (by omega); simpa [itC] using this)
        have c1 : wr.cell? ⟨b, off + 1, none⟩ = some (.slice q0.A q0.n q0.c) := hcs 1 _ (by have := its_get qs 0 q0 hq0 1 (by omega); simpa [itC] using this)
        have HI0 : Hid (ItOk wr h q0 ∧ q0.n ≤ 1000000) := ⟨(HROW.out.2.2 q0 (List.mem_of_getElem? hq0)).ok, HFEW.out q0 (List.mem_of_getElem? hq0)⟩
        have HQD := Lib.hid hq0d
        have hc9I : (40 : Int) ≤ (c9 : Int) := by omega
        clear hd40 hat hcs hq0 hq0d
        go_wp2_with fail
        go_at_call 7
        refine HPUT.out.mono ?_
        rintro e w5 ⟨rfl, hq5, hg5⟩
        have HK1 : Hid (LQ w w5 p (p + 1) kd1) := hq5
        have c0 := hg5.cell c0 (by simp; omega)
        have c1 := hg5.cell c1 (by simp; omega)
        have HI5 : Hid (ItOk w5 h q0) := HI0.out.1.grown hg5 (by omega)
        have hb5 : b < w5.heap.size := Nat.lt_of_lt_of_le hbl hg5.size
        have hb5n : b ≠ w5.heap.size := by omega
        clear hq5 hg5 HPUT
        go_wp2_with fail
        go_at_call 8
        refine (len_lq HK1.out).mono ?_
        rintro e w6 ⟨rfl, hw6⟩
        subst hw6
        rw [show ((kd1.length : Nat) : Int) = 32 by decide +kernel]
        go_wp2_with fail
        go_at_call 7
        have hbn : Below w6.heap.size w6 (w6.alloc (.cells #[.int .i64 q0.k, .slice q0.A q0.n q0.c] 24)) := (Below.refl _ _).alloc (Nat.le_refl _) _
        refine (put_lq (HK1.out.below hbn) [q0] 1 1 (some ⟨w6.heap.size, 0, none⟩) (at_new _ _ _ _ _ _ _ rfl HK1.out.lt rfl rfl) (Nat.le_refl _) (by omega) (fun q hq => by
          have : q = q0 := by simpa using hq
          subst this
          exact ⟨(HI5.out.below hbn).less (by omega), HI0.out.2⟩)).mono ?_
        rintro e w7 ⟨rfl, hq7, _⟩
        rw [show putD kd1.length ([q0].map dat) = [] by rw [show kd1.length = 32 by decide +kernel]; rfl] at hq7 ⊢
        rw [List.append_nil] at hq7
        have HK7 := Lib.hid hq7
        clear hq7 hbn
        rw [show ((([] : List (Int × List Nat)).length : Nat) : Int) = 0 from rfl]
        go_wp2_with fail
        go_at_call 9
        refine (drop_lq (HK7.out.alloc _) [2, 3, 9] 3 3 (some ⟨w7.heap.size, 0, none⟩) (at_new _ _ _ _ _ _ _ rfl HK7.out.lt rfl rfl) (Nat.le_refl _) (by omega)).mono ?_
        rintro e w8 ⟨rfl, hq8, _⟩
        have HK8 : Hid (LQ w w8 p (p + 1) kd2) := hq8
        rw [show ((kd1.length : Nat) : Int) - (((kd1.filter (keepD [2, 3, 9])).length : Nat) : Int) = 22 by decide +kernel]
        clear hq8
        go_wp2_with fail
        go_at_call 9
        refine (drop_lq HK8.out [] 0 0 none ⟨rfl, fun h => absurd h (by omega)⟩ (Nat.le_refl _) (by omega)).mono ?_
        rintro e w9 ⟨rfl, hq9, _⟩
        rw [show kd2.filter (keepD []) = (4, [2]) :: kd3 by decide +kernel] at hq9 ⊢
        have HK9 := Lib.hid hq9
        rw [show ((kd2.length : Nat) : Int) - (((((4 : Int), [2]) :: kd3).length : Nat) : Int) = 0 by decide +kernel]
        clear hq9
        go_wp2_with fail
        go_at_call 10
        refine (pop_cons HK9.out).mono ?_
        rintro e w10 ⟨⟨k5, A5, n5, c5, bs5⟩, rfl, hd5, hi5, hq10, _⟩
        simp only [dat, Prod.mk.injEq] at hd5
        obtain ⟨rfl, rfl⟩ := hd5
        obtain rfl : n5 = 1 := by have := hi5.len; simpa using this.symm
        obtain ⟨b5, o5, e5, hb5l, hb5, hcs5⟩ := hi5.at'.2 (by simp only; omega)
        simp only at e5
        subst e5
        have hc51 : 1 ≤ c5 := hi5.cap
        have hc51I : (1 : Int) ≤ (c5 : Int) := by omega
        have hby := hcs5 0 (.int .u8 2) rfl
        obtain ⟨hx, hhx⟩ : ∃ x, w10.heap.size = x := ⟨_, rfl⟩
        obtain ⟨w11, hw11⟩ : ∃ x, w10.alloc (.cells #[.int .i64 4, .slice (some ⟨b5, o5, none⟩) 1 c5] 24) = x := ⟨_, rfl⟩
        have hb11 : Below w10.heap.size w10 w11 := by rw [← hw11]; exact (Below.refl _ _).alloc (Nat.le_refl _) _
        have u0 : w11.cell? ⟨hx, 0, none⟩ = some (.int .i64 4) := by rw [← hw11, ← hhx]; simp
        have u1 : w11.cell? ⟨hx, 1, none⟩ = some (.slice (some ⟨b5, o5, none⟩) 1 c5) := by rw [← hw11, ← hhx]; simp
        have u2 : w11.cell? ⟨b5, o5, none⟩ = some (.int .u8 2) := (hb11.cell (p := ⟨b5, o5, none⟩) hb5).trans hby
        have hb9 : p < w9.heap.size := HK9.out.lt
        have hpx : p < hx := by rw [← hhx]; exact hq10.lt
        have HK11 := Lib.hid (hq10.below hb11)
        clear hi5 hcs5 hby hq10 hb11
        go_wp2_with fail
        go_at_call 7
        refine (put_lq HK11.out [] 0 0 none ⟨rfl, fun h => absurd h (by omega)⟩ (Nat.le_refl _) (by omega) (fun q hq => by cases hq)).mono ?_
        rintro e w12 ⟨rfl, hq12, hg12⟩
        have u0 := hg12.cell u0 (by simp; omega)
        have u1 := hg12.cell u1 (by simp; omega)
        have u2 := hg12.cell u2 (by simp; omega)
        rw [show putD kd3.length (([] : List It).map dat) = [] from rfl] at hq12 ⊢
        rw [List.append_nil] at hq12
        have HK12 := Lib.hid hq12
        rw [show ((([] : List (Int × List Nat)).length : Nat) : Int) = 0 from rfl]
        clear hq12 hg12
        have HZ0 := Lib.hid (new_lq HK12.out.bel)
        obtain ⟨p2, hp2⟩ : ∃ x, w12.heap.size = x := ⟨_, rfl⟩
        rw [hp2] at HZ0
        have HSX : Hid (∀ W, Below w12.heap.size w12 W → W.cell? ⟨hx, 0, none⟩ = some (.int .i64 4) ∧ W.cell? ⟨hx, 1, none⟩ = some (.slice (some ⟨b5, o5, none⟩) 1 c5) ∧ W.cell? ⟨b5, o5, none⟩ = some (.int .u8 2)) := fun W hW => ⟨(hW.cell (p := ⟨hx, 0, none⟩) (cell_lt u0)).trans u0, (hW.cell (p := ⟨hx, 1, none⟩) (cell_lt u1)).trans u1, (hW.cell (p := ⟨b5, o5, none⟩) (cell_lt u2)).trans u2⟩
        have HB12 : Hid (Below w12.heap.size w12 (w12.alloc (.cells zeroQ 27))) := (Below.refl _ _).alloc (Nat.le_refl _) _
        clear u0 u1 u2
        go_wp2_with (refine wpList_queue_new 56 13 rfl rfl rfl rfl rfl rfl rfl rfl rfl (fun _ _ => rfl) (fun _ _ => rfl) ?_)
        go_at_call 11
        refine (first_nil HZ0.out).mono ?_
        rintro e w13 ⟨rfl, hq13, hb13⟩
        have HB14 : Hid (Below w12.heap.size w12 (w13.alloc (.cells #[.int .i64 0, .slice none 0 0] 24))) := ((HB12.out.trans (hb13.mono HB12.out.size)).alloc (Nat.le_trans HB12.out.size hb13.size) _)
        have HZ14 := Lib.hid (hq13.alloc (.cells #[.int .i64 0, .slice none 0 0] 24))
        clear hq13 hb13
        go_wp2_with fail
        go_at_call 10
        refine (pop_nil HZ14.out).mono ?_
        rintro e w15 ⟨rfl, hq15, hb15⟩
        have HB16 : Hid (Below w12.heap.size w12 (w15.alloc (.cells #[.int .i64 0, .slice none 0 0] 24))) := ((HB14.out.trans (hb15.mono HB14.out.size)).alloc (Nat.le_trans HB14.out.size hb15.size) _)
        clear hq15 hb15
        go_wp2_with fail
        go_at_call 12
        refine (known_any _).mono ?_
        rintro e w17 ⟨rfl, hb17⟩
        have HB17 : Hid (Below w12.heap.size w12 w17) := HB16.out.trans (hb17.mono HB16.out.size)
        obtain ⟨u0, u1, u2⟩ := HSX.out w17 HB17.out
        clear hb17
        go_wp2_with fail
        go_at_call 8
        refine (len_lq (HK12.out.below HB17.out)).mono ?_
        rintro e w18 ⟨rfl, hw18⟩
        subst hw18
        rw [show ((kd3.length : Nat) : Int) = 9 by decide +kernel]
        go_wp2_with fail
        go_ret
        exact ⟨rfl, HK12.out.bel.trans (HB17.out.mono HK12.out.bel.size)⟩
end Go.Proofs.Ytlaopkkfgkcejaa.Qu
