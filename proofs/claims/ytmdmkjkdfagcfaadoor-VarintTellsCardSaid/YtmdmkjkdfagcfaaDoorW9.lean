/- Takes. Conditions: as each theorem lists them. -/
import Derived.Test.YtmdmkjkdfagcfaaDoorW8
namespace Go.Proofs.YtmdmkjkdfagcfaaDoor
open Go Go.RowKit

/-- So many numbers in front, and what is behind; nothing: they are not all there. -/
def decs : Nat → List Nat → Option (List Nat × List Nat)
  | 0, bs => some ([], bs)
  | k + 1, bs => match dec bs with
    | none => none
    | some (v, W) => match decs k (bs.drop W) with
      | none => none
      | some (l, r) => some (v :: l, r)

theorem decs_len : ∀ (k : Nat) (bs : List Nat) (l r : List Nat), decs k bs = some (l, r) → l.length = k ∧ r.length + k ≤ bs.length ∧ ∃ p, bs = p ++ r
  | 0, bs, l, r, h => by simp only [decs, Option.some.injEq, Prod.mk.injEq] at h; obtain ⟨rfl, rfl⟩ := h; exact ⟨rfl, by simp, [], rfl⟩
  | k + 1, bs, l, r, h => by
    simp only [decs] at h
    split at h
    · cases h
    · rename_i v W hd
      split at h
      · cases h
      · rename_i l' r' hd'
        simp only [Option.some.injEq, Prod.mk.injEq] at h
        obtain ⟨rfl, rfl⟩ := h
        obtain ⟨h1, h2, p, hp⟩ := decs_len k _ _ _ hd'
        obtain ⟨hW, hWl, _⟩ := dec_le hd
        rw [List.length_drop] at h2
        exact ⟨by simp [h1], by omega, bs.take W ++ p, by rw [List.append_assoc, ← hp, List.take_append_drop]⟩

/-- What Takes has done behind some rounds: k numbers are still to come from what is left. -/
structure TkR (bs : List Nat) (count : Nat) (done left : List Nat) (k : Nat) : Prop where
  all : decs count bs = (decs k left).map fun x => (done ++ x.1, x.2)
  len : done.length + k = count
  suf : ∃ p, bs = p ++ left
  lt : ∀ c ∈ left, c < 256

theorem TkR.start (bs : List Nat) (count : Nat) (hb : ∀ c ∈ bs, c < 256) : TkR bs count [] bs count := ⟨by simp, by simp, ⟨[], rfl⟩, hb⟩
theorem TkR.next {bs : List Nat} {count : Nat} {done left : List Nat} {k v W : Nat} (h : TkR bs count done left (k + 1)) (hd : dec left = some (v, W)) : TkR bs count (done ++ [v]) (left.drop W) k := by
  refine ⟨?_, by have := h.len; simp; omega, ?_, fun c hc => h.lt c (List.mem_of_mem_drop hc)⟩
  · rw [h.all]
    simp only [decs, hd]
    cases decs k (left.drop W) with
    | none => rfl
    | some x => simp
  · obtain ⟨p, hp⟩ := h.suf
    exact ⟨p ++ left.take W, by rw [List.append_assoc, List.take_append_drop, hp]⟩
theorem TkR.fail {bs : List Nat} {count : Nat} {done left : List Nat} {k : Nat} (h : TkR bs count done left (k + 1)) (hd : dec left = none) : decs count bs = none := by
  rw [h.all]; simp [decs, hd]
theorem TkR.done_ {bs : List Nat} {count : Nat} {done left : List Nat} (h : TkR bs count done left 0) : decs count bs = some (done, left) := by
  rw [h.all]; simp [decs]

theorem few_none {bs : List Nat} {count : Nat} (h : bs.length < count) : decs count bs = none := by
  cases hd : decs count bs with
  | none => rfl
  | some x =>
    obtain ⟨_, h2, _⟩ := decs_len count bs x.1 x.2 hd
    omega

theorem info3 : (Tryd.prog.info? 3).map (fun i => (i.zero, i.size, i.bytes)) = some (some (.int .i64 0), 1, 8) := by kernel_rfl

set_option maxHeartbeats 1000000 in
theorem takes_few (bs : List Nat) (A : Option Addr) (cap : Nat) (count : Int) (w : World) (h : (bs.length : Int) < count) :
    Calls Tryd.prog 10 #[.slice A bs.length cap, .int .i64 count] w fun e w' => e = .returned (.tuple #[.slice none 0 0, .slice none 0 0, .int .i64 3]) ∧ w = w' := by
  go_enter Tryd.func10, Tryd.ntmps10
  go_wp2
  go_ret3
  exact ⟨rfl, rfl⟩

set_option maxHeartbeats 1000000 in
theorem takes_zero (bs : List Nat) (A : Option Addr) (cap : Nat) (count : Int) (w : World) (h : count ≤ 0) (hx : Rd w w.heap.size A bs.length (bv bs)) (hm : bs.length ≤ 140737488355328) :
    Calls Tryd.prog 10 #[.slice A bs.length cap, .int .i64 count] w fun e w' => ∃ v', e = .returned (.tuple #[.slice none 0 0, v', .int .i64 0]) ∧ w'.ownsRow w.heap.size 5 1 v' bs.length (bv bs) ∧ Below w.heap.size w w' := by
  have HF := Lib.hid (fresh_any A bs.length cap (bv bs) w.heap.size w hx (Nat.le_refl _) (ones_bv _) hm)
  clear hx
  go_enter Tryd.func10, Tryd.ntmps10
  go_wp2
  go_loop [0, 4] (fun b v => b = .slice A bs.length cap ∧ v = .slice none 0 0) (fun _ _ => 0)
  case atStart => exact ⟨rfl, rfl⟩
  case round =>
    obtain ⟨rfl, rfl⟩ := hrel
    go_wp2_with fail
    refine HF.out.mono ?_; rintro e w' ⟨v', rfl, ho, hb'⟩
    have HO := Lib.hid (And.intro ho hb')
    clear ho hb'
    go_wp2
    go_ret3
    exact ⟨_, rfl, HO.out⟩

def lenV : Value → Nat
  | .slice _ n _ => n
  | _ => 0

/-- The list so far, what is left, as the loop of Takes has them in memory. -/
def TkH (w wr : World) (bs : List Nat) (count : Nat) (done left : List Nat) (k : Nat) (A : Option Addr) (c : Nat) (v : Value) : Prop :=
  wr.ownsRow w.heap.size 3 1 v done.length (done.map fun x : Nat => Value.int .i64 (x : Int)) ∧ Below w.heap.size w wr ∧ TkR bs count done left k ∧ Rd wr w.heap.size A left.length (bv left) ∧ left.length ≤ c ∧ left.length ≤ bs.length

theorem own_base {w : World} {base base' e n : Nat} {v : Value} {xs : List Value} (h : w.ownsRow base e 1 v n xs) (hb : base' ≤ base) : w.ownsRow base' e 1 v n xs := by
  refine ⟨h.1, ?_⟩
  rcases h.2 with h | ⟨g, cap, cur, h1, h2, h3⟩
  · exact .inl h
  · exact .inr ⟨g, cap, cur, h1, Nat.le_trans hb h2, h3⟩
theorem own_below {w w' : World} {base e n : Nat} {v : Value} {xs : List Value} (h : w.ownsRow base e 1 v n xs) (hb : Below w.heap.size w w') : w'.ownsRow base e 1 v n xs :=
  h.kept (row := none) ⟨hb.os, hb.tape, hb.output, hb.size, fun k hk _ => hb.block k hk⟩ (by cases v.ownBlock <;> simp)

set_option maxHeartbeats 4000000 in
theorem takes_any (bs : List Nat) (A : Option Addr) (cap : Nat) (count : Nat) (w : World) (h0 : 0 < count) (hcb : count ≤ bs.length) (hc8 : count * 8 ≤ 140737488355328) (hx : Rd w w.heap.size A bs.length (bv bs)) (hb : ∀ c ∈ bs, c < 256) (hn : bs.length ≤ cap) (hm : bs.length ≤ 140737488355328) :
    Calls Tryd.prog 10 #[.slice A bs.length cap, .int .i64 (count : Int)] w fun e w' => (decs count bs = none ∧ e = .returned (.tuple #[.slice none 0 0, .slice none 0 0, .int .i64 3]) ∧ Below w.heap.size w w') ∨
      ∃ l r v v', decs count bs = some (l, r) ∧ e = .returned (.tuple #[v, v', .int .i64 0]) ∧ w'.ownsRow w.heap.size 3 1 v l.length (l.map fun x : Nat => Value.int .i64 (x : Int)) ∧ w'.ownsRow w.heap.size 5 1 v' r.length (bv r) ∧ Below w.heap.size w w' := by
  have HX := Lib.hid hx
  have HB := Lib.hid hb
  obtain ⟨i0, hi, hz0, hz1, hz2⟩ := info_parts info3
  have HI := Lib.hid (And.intro hi (And.intro hz0 (And.intro hz1 hz2)))
  have hmk := fun W => run_make (P := Tryd.prog) W 24 3 i0 (.int .i64 0) Tryd.underlying24 hi hz0 .i64 .i64 0 count (by omega) (by omega) (by rw [hz2]; omega) (by omega)
  simp only [hz1, Int.toNat_natCast, Int.toNat_zero, Nat.mul_one] at hmk
  have hpos : (0 : Int) < (count : Int) := by omega
  have hle : (count : Int) ≤ (bs.length : Int) := by omega
  have hlt0 : decide (bs.length < count) = false := by simpa using hcb
  clear hi hz0 hz1 hz2 hx hb
  go_enter Tryd.func10, Tryd.ntmps10
  go_wp2
  go_loopw [0, 4] (fun b v wr => ∃ done left k A' c', b = .slice A' left.length c' ∧ lenV v = done.length ∧ done.length + k = count ∧ left.length ≤ bs.length ∧ (∃ Al cl, v = .slice Al done.length cl) ∧ Hid (TkH w wr bs count done left k A' c' v)) (fun _ v _ => count - lenV v)
  case atStart =>
    refine ⟨[], bs, count, A, cap, rfl, rfl, by simp, Nat.le_refl _, ⟨_, _, rfl⟩, World.ownsRow_made _ _ count (Nat.le_refl _) (by unfold maxLen; omega) (by rw [size_madeCells, Nat.mul_one]), (Below.refl _ _).alloc (Nat.le_refl _) _, TkR.start bs count HB.out, HX.out.below ((Below.refl _ _).alloc (Nat.le_refl _) _) (Nat.le_refl _), hn, Nat.le_refl _⟩
  case round =>
    obtain ⟨done, left, k, A1, c1, rfl, hlv, hdk, hll, ⟨Al, cl, rfl⟩, HK⟩ := hrel
    obtain ⟨d, hd⟩ : ∃ d, Hid (done.length = d) := ⟨_, rfl⟩
    rw [hd.out] at hdk hlv ⊢
    rcases Nat.eq_zero_or_pos k with hk0 | hk0
    · subst hk0
      have hdc : (count : Int) ≤ (d : Int) := by omega
      have HF := Lib.hid (fresh_any A1 left.length c1 (bv left) w.heap.size wr HK.out.2.2.2.1 HK.out.2.1.size (ones_bv _) (by omega))
      clear hlv hdk
      go_wp2_with fail
      refine HF.out.mono ?_; rintro e w' ⟨v', rfl, ho, hb'⟩
      have HO := Lib.hid (And.intro ho hb')
      clear ho hb'
      go_wp2
      go_ret3
      have hH := HK.out
      rw [hd.out] at hH
      refine .inr ⟨done, left, _, _, hH.2.2.1.done_, rfl, ?_, own_base HO.out.1 hH.2.1.size, hH.2.1.trans (HO.out.2.mono hH.2.1.size)⟩
      exact own_below hH.1 HO.out.2
    · obtain ⟨k, rfl⟩ : ∃ j, k = j + 1 := ⟨k - 1, by omega⟩
      have hH := HK.out
      rw [hd.out] at hH
      have HK := Lib.hid hH
      clear hH
      have hdc : (d : Int) < (count : Int) := by omega
      have H := read_any left w.heap.size A1 c1 wr HK.out.2.2.2.1 HK.out.2.2.1.lt HK.out.2.2.2.2.1 (by omega)
      rcases hdec : dec left with _ | ⟨v, W⟩
      · rw [hdec] at H
        have H := Lib.hid H
        have HD := Lib.hid hdec
        clear hdec hlv hdk hk0
        go_wp2_with fail
        refine H.out.mono ?_; rintro e w' ⟨rfl, rfl⟩
        go_wp2
        go_ret3
        exact .inl ⟨HK.out.2.2.1.fail HD.out, rfl, HK.out.2.1⟩
      · rw [hdec] at H
        have H := Lib.hid H
        obtain ⟨hW0, hWn, hW8⟩ := dec_le hdec
        have HD := Lib.hid hdec
        have hw0 : ((W : Int) == 0) = false := by simp; omega
        have hwn : (W : Int) ≤ (left.length : Int) := by omega
        have hlc := HK.out.2.2.2.2.1
        have hwc : (W : Int) ≤ (c1 : Int) := by omega
        have hlpos : 0 < left.length := by omega
        obtain ⟨b1, off1, hA1, _, _⟩ := HK.out.2.2.2.1.2 hlpos
        subst hA1
        have hdk2 : d + 1 + k = count := by omega
        clear hdec hlv hdk hk0 hlpos
        have fin : ∀ (A' : Option Addr) (c' : Nat) (w1 : World) (v1 : Value), (A' = some ⟨b1, off1 + W, none⟩ ∨ left.length = W) → left.length - W ≤ c' →
            w1.ownsRow w.heap.size 3 1 v1 (d + 1) ((done.map fun x : Nat => Value.int .i64 (x : Int)) ++ [.int .i64 (v : Int)]) → Below w.heap.size w w1 →
            Hid (∃ Al cl, v1 = .slice Al (d + 1) cl) ∧ Hid (TkH w w1 bs count (done ++ [v]) (left.drop W) k A' c' v1) := fun A' c' w1 v1 hA hc ho hb1 => by
          obtain ⟨Al', cl', rfl, _⟩ := own_form ho
          refine ⟨⟨_, _, rfl⟩, ?_, hb1, HK.out.2.2.1.next HD.out, ?_, ?_, ?_⟩
          · rw [List.length_append, List.map_append, hd.out]; exact ho
          · have hr := HK.out.2.2.2.1.tail W hWn
            rw [← bv_drop] at hr
            rw [List.length_drop]
            have hr2 : Rd w1 w.heap.size (some ⟨b1, off1 + W, none⟩) (left.length - W) (bv (left.drop W)) :=
              ⟨hr.1, fun hn => by
                obtain ⟨b2, off2, e, hlt, hcell⟩ := hr.2 hn
                exact ⟨b2, off2, e, hlt, fun j u hu => ((hb1.cell (p := ⟨b2, off2 + j, none⟩) hlt).trans (HK.out.2.1.cell (p := ⟨b2, off2 + j, none⟩) hlt).symm).trans (hcell j u hu)⟩⟩
            rcases hA with rfl | hA
            · exact hr2
            · exact ⟨hr2.1, fun h => by omega⟩
          · rw [List.length_drop]; exact hc
          · rw [List.length_drop]; omega
        have FIN := Lib.hid fin
        have HOl : Hid (wr.ownsRow w.heap.size 3 1 (.slice Al d cl) d (done.map fun x : Nat => Value.int .i64 (x : Int))) := by
          have := HK.out.1
          rw [hd.out] at this
          exact this
        clear fin
        by_cases hcw : c1 = W
        all_goals
          try subst hcw
          go_wp2_with fail
          refine H.out.mono ?_; rintro e w' ⟨rfl, rfl⟩
          go_wp2_with (at_builtin; refine wpList_append_own _ rfl _ _ 24 rfl w.heap.size 3 i0 (.int .i64 0) 1 8 Tryd.underlying24 HI.out.1 HI.out.2.1 HI.out.2.2.1 HI.out.2.2.2 rfl (by decide) (.slice Al d cl) d (done.map fun x : Nat => Value.int .i64 (x : Int)) rfl (HOl.out.alloc _) ⟨wr.heap.size, 0, none⟩ 1 1 [.int .i64 (v : Int)] rfl rfl ?c1 ?c2 ?c3 ?c4 ?c5 ?_)
          case c1 => exact cell_one_new _ _ _
          case c2 => simp [Value.oneCell']
          case c3 => unfold maxLen; omega
          case c4 => omega
          case c5 => have := HK.out.2.1.size; simp only [World.size_alloc]; omega
          intro v1 w1 hown1 hgrow1 _
          have HB1 : Hid (Below w.heap.size w w1) := (HK.out.2.1.alloc HK.out.2.1.size _).grown hgrow1 (by have := HK.out.2.1.size; simp only [World.size_alloc]; omega) (fun g hg => (HK.out.1.lt g hg).1)
          have HO1 := Lib.hid hown1
          clear hown1 hgrow1
          go_wp2
          go_roundw
          case rel =>
            first
            | (obtain ⟨f1, f2⟩ := FIN.out (some ⟨b1, off1 + W, none⟩) (c1 - W) w1 v1 (.inl rfl) (by omega) HO1.out HB1.out
               have hf1 := f1.out
               obtain ⟨Al', cl', rfl⟩ := hf1
               refine ⟨done ++ [v], left.drop W, k, _, _, ?_, ?_, ?_, ?_, ?_, f2⟩
               · rw [List.length_drop]
               · simp [lenV, hd.out]
               · simp [hd.out]; omega
               · rw [List.length_drop]; omega
               · exact ⟨Al', cl', by simp [hd.out]⟩)
            | (obtain ⟨f1, f2⟩ := FIN.out (some ⟨b1, off1, none⟩) 0 w1 v1 (.inr (by omega)) (by omega) HO1.out HB1.out
               have hf1 := f1.out
               obtain ⟨Al', cl', rfl⟩ := hf1
               refine ⟨done ++ [v], left.drop c1, k, _, _, ?_, ?_, ?_, ?_, ?_, f2⟩
               · rw [List.length_drop]; congr 1; omega
               · simp [lenV, hd.out]
               · simp [hd.out]; omega
               · rw [List.length_drop]; omega
               · exact ⟨Al', cl', by simp [hd.out]⟩)
          case measure =>
            first
            | (obtain ⟨f1, _⟩ := FIN.out (some ⟨b1, off1 + W, none⟩) (left.length - W) w1 v1 (.inl rfl) (Nat.le_refl _) HO1.out HB1.out
               obtain ⟨_, _, rfl⟩ := f1.out
               simp [lenV]
               omega)
            | (obtain ⟨f1, _⟩ := FIN.out (some ⟨b1, off1 + c1, none⟩) (left.length - c1) w1 v1 (.inl rfl) (Nat.le_refl _) HO1.out HB1.out
               obtain ⟨_, _, rfl⟩ := f1.out
               simp [lenV]
               omega)
end Go.Proofs.YtmdmkjkdfagcfaaDoor
