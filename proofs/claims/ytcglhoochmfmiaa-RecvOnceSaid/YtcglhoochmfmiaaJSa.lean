/- odd, within, pairs, Spans of package spans (laid by ak/port2.py). Conditions: as each theorem lists them. -/
import Derived.Test.YtcglhoochmfmiaaJSm
import Derived.Test.YtcglhoochmfmiaaJH1
import Derived.Test.YtcglhoochmfmiaaJMm
import Derived.Deep.RegionHeld3
import Derived.Outline
set_option linter.unusedSimpArgs false
set_option linter.unusedVariables false

namespace Go.Proofs.Ytcglhoochmfmiaa.Sp
open Go Go.RowKit

set_option maxHeartbeats 400000 in
theorem odd_any (k : Nat) (w : World) (hk : k ≤ 9223372036854775807) :
    Calls Try.prog 102 #[.int .i64 (k : Int)] w fun e w' => e = .returned (.bool (oddB k)) ∧ w = w' := by
  cases ho : oddB k with
  | true =>
    have h : (((k : Int) % 2) == 1) = true := by unfold oddB at ho; simp at ho ⊢; omega
    clear ho
    go_enter Try.func102, Try.ntmps102
    go_wp2
    go_ret
    exact ⟨rfl, rfl⟩
  | false =>
    have h : (((k : Int) % 2) == 1) = false := by unfold oddB at ho; simp at ho ⊢; omega
    clear ho
    go_enter Try.func102, Try.ntmps102
    go_wp2
    go_ret
    exact ⟨rfl, rfl⟩

set_option maxHeartbeats 400000 in
theorem within_any (n : Int) (w : World) :
    Calls Try.prog 104 #[.int .i64 n] w fun e w' => e = .returned (.int .i64 (clamp n)) ∧ w = w' := by
  have hc : n < 0 ∨ (0 ≤ n ∧ n ≤ 4611686018427387904) ∨ (0 ≤ n ∧ 4611686018427387904 < n) := by omega
  rcases hc with h | ⟨h, h'⟩ | ⟨h, h'⟩
  all_goals
    obtain ⟨m, hm⟩ : ∃ m, Hid (clamp n = m) := ⟨_, rfl⟩
    rw [hm.out]
    go_enter Try.func104, Try.ntmps104
    go_wp2
    all_goals
      go_ret
      refine ⟨ret_int ?_, rfl⟩
      rw [← hm.out]
      unfold clamp
      omega
end Go.Proofs.Ytcglhoochmfmiaa.Sp
namespace Go.Proofs.Ytcglhoochmfmiaa.Sp
open Go Go.RowKit

theorem infoI : (Try.prog.info? 3).map (fun i => (i.zero, i.size, i.bytes)) = some (some (.int .i64 0), 1, 8) := by kernel_rfl
theorem infoP : (Try.prog.info? 94).map (fun i => (i.zero, i.size, i.bytes)) = some (some (.agg #[.int .i64 0, .int .i64 0]), 2, 16) := by kernel_rfl

set_option maxHeartbeats 4000000 in
theorem pairs_any (es : List Int) (B : Nat) (A : Option Addr) (c : Nat) (w : World) (hx : Rd w B A es.length (ints es)) (hB : B ≤ w.heap.size) (he : es.length % 2 = 0) (hm : es.length * 8 ≤ 140737488355328) (hc : es.length ≤ c) :
    Calls Try.prog 101 #[.slice A es.length c] w fun e w' => ∃ v', e = .returned v' ∧ w'.ownsRow w.heap.size 94 2 v' (es.length / 2) (ints es) ∧ Below w.heap.size w w' := by
  have HX := Lib.hid hx
  clear hx
  obtain ⟨n, hn⟩ : ∃ n, Hid (es.length = n) := ⟨_, rfl⟩
  rw [hn.out] at he hm hc HX ⊢
  obtain ⟨i0, hi, hz0, hz1, hz2⟩ := info_parts infoP
  have HI := Lib.hid (And.intro hi (And.intro hz0 (And.intro hz1 hz2)))
  have hmk := fun W => run_make (P := Try.prog) W 48 94 i0 (.agg #[.int .i64 0, .int .i64 0]) Try.underlying48 hi hz0 .i64 .i64 0 ((n : Int) / 2) (by omega) (by omega) (by rw [hz2]; omega) (by omega)
  simp only [hz1, Int.toNat_natCast, Int.toNat_zero] at hmk
  clear hi hz0 hz1 hz2
  have hto : Hid (((n : Int) / 2).toNat = n / 2) := by show _ = _; omega
  rw [hto.out] at hmk
  go_enter Try.func101, Try.ntmps101
  go_wp2
  have hown0 : Hid ((w.alloc (Obj.cells (madeCells #[Value.int IntKind.i64 0, Value.int IntKind.i64 0] (n / 2 * 2)) 94)).ownsRow w.heap.size 94 2 (.slice (some ⟨w.heap.size, 0, none⟩) 0 (n / 2)) 0 []) :=
    World.ownsRow_made _ _ _ (Nat.le_refl _) (by unfold maxLen; omega) (by rw [size_madeCells])
  go_loopw [3, 4] (fun v i wr => ∃ j : Nat, j ≤ n ∧ j % 2 = 0 ∧ i = .int .i64 j ∧ (∃ Al cl, v = .slice Al (j / 2) cl) ∧ Hid (wr.ownsRow w.heap.size 94 2 v (j / 2) (ints (es.take j)) ∧ Below w.heap.size w wr)) (fun _ i _ => n - (intOf i).toNat)
  case atStart => exact ⟨0, Nat.zero_le _, rfl, rfl, ⟨_, _, rfl⟩, hown0.out, (Below.refl _ _).alloc (Nat.le_refl _) _⟩
  case round =>
    clear hown0
    obtain ⟨j, hj, hj2, rfl, ⟨Al, cl, rfl⟩, HK⟩ := hrel
    by_cases hlt : j < n
    · have hj1 : j + 1 < n := by omega
      have hj1c : j + 1 < c := by omega
      have hjc : j < c := by omega
      have hlti : (j : Int) < (n : Int) := by omega
      have hlti1 : (j : Int) + 1 < (n : Int) := by omega
      obtain ⟨b, off, hA, hbn, hcs⟩ := HX.out.2 (by omega)
      subst hA
      obtain ⟨x, hxv⟩ : ∃ x, Hid (es.getD j 0 = x) := ⟨_, rfl⟩
      obtain ⟨y, hyv⟩ : ∃ y, Hid (es.getD (j + 1) 0 = y) := ⟨_, rfl⟩
      have hcx : wr.cell? ⟨b, off + j, none⟩ = some (.int .i64 x) := by
        rw [HK.out.2.cell (p := ⟨b, off + j, none⟩) (Nat.lt_of_lt_of_le hbn hB), hcs j _ (ints_get es j (by rw [hn.out]; omega)), hxv.out]
      have hcy : wr.cell? ⟨b, off + (j + 1), none⟩ = some (.int .i64 y) := by
        rw [HK.out.2.cell (p := ⟨b, off + (j + 1), none⟩) (Nat.lt_of_lt_of_le hbn hB), hcs (j + 1) _ (ints_get es (j + 1) (by rw [hn.out]; omega)), hyv.out]
      clear hcs
      have hsz : Hid (w.heap.size ≤ wr.heap.size) := HK.out.2.size
      have nx := World.new_ne wr _ hcx
      have ny := World.new_ne wr _ hcy
      go_wp2_with fail
      have s1 : IntKind.i64.wrap ((j : Int) + 1) = (j : Int) + 1 := IntWalk.i64_in _ (by omega)
      have s2 : 0 ≤ (j : Int) + 1 := by omega
      have s3 : ((j : Int) + 1).toNat = j + 1 := by omega
      have hb' : b < w.heap.size := Nat.lt_of_lt_of_le hbn hB
      have hmax : j / 2 + 1 ≤ maxLen := by unfold maxLen; omega
      have hby : (j / 2 + 1) * 16 ≤ 140737488355328 := by omega
      have hbs : w.heap.size ≤ ((wr.alloc (Obj.cells #[Value.int IntKind.i64 x, Value.int IntKind.i64 y] 94)).drew).heap.size := by have := hsz.out; simp; omega
      have HBS := Lib.hid hbs
      have HB0 : Hid (Below w.heap.size wr ((wr.alloc (Obj.cells #[Value.int IntKind.i64 x, Value.int IntKind.i64 y] 94)).drew)) := ((Below.refl _ _).alloc hsz.out _).drew
      have HR : Hid (Rd ((wr.alloc (Obj.cells #[Value.int IntKind.i64 x, Value.int IntKind.i64 y] 94)).drew) (wr.heap.size + 1) (some ⟨wr.heap.size, 0, none⟩) (1 * 2) (ints [x, y])) := (rd_new wr _ _ _ _ _ _ rfl (by omega) rfl rfl).drew
      clear hbs
      go_region_held3 (fun w' => w'.cell? ⟨b, off + j, none⟩ = some (.int .i64 x) ∧ w'.cell? ⟨b, off + (j + 1), none⟩ = some (.int .i64 y)) (first | go_keep | exact ⟨(HB1.out.cell (p := ⟨b, off + j, none⟩) hb').trans hcx, (HB1.out.cell (p := ⟨b, off + (j + 1), none⟩) hb').trans hcy⟩)
        ((refine step_own rfl (.tmp 15) (.tmp 26) 48 rfl w.heap.size 94 i0 (.agg #[.int .i64 0, .int .i64 0]) 2 16 Try.underlying48 HI.out.1 HI.out.2.1 HI.out.2.2.1 HI.out.2.2.2 rfl (by decide) (.slice Al (j / 2) cl) (j / 2) (ints (es.take j)) (by rfl) (HK.out.1.alloc _).drew (wr.heap.size + 1) (some ⟨wr.heap.size, 0, none⟩) 1 1 (ints [x, y]) (by rfl) HR.out (ones_ints _) hmax hby HBS.out ?_; intro v1 w1 hown1 hgrow1; have HB1 : Hid (Below w.heap.size wr w1) := HB0.out.grown hgrow1 HBS.out (fun g hg => (HK.out.1.lt g hg).1); have HO1 := Lib.hid hown1; clear hown1 hgrow1))
      have HN : Hid (w1.ownsRow w.heap.size 94 2 v1 ((j + 2) / 2) (ints (es.take (j + 2))) ∧ Below w.heap.size w w1) := by
        refine ⟨?_, HK.out.2.trans HB1.out⟩
        have e := take_pair es (j / 2) (by rw [hn.out]; omega)
        rw [show 2 * (j / 2 + 1) = j + 2 by omega, show 2 * (j / 2) = j by omega, hxv.out, hyv.out] at e
        rw [show (j + 2) / 2 = j / 2 + 1 by omega, e, ints_app]
        exact HO1.out
      clear HO1 HB1 s1 s2 s3 hcx hcy nx ny HB0 HR HBS
      obtain ⟨A1, c1, e1, _⟩ := own_form HN.out.1
      subst e1
      go_wp2
      go_roundw
      case rel => exact ⟨j + 2, by omega, by omega, by go_num, ⟨_, _, rfl⟩, HN⟩
      case measure => simp [intOf]; omega
    · have hlti : ¬ (j : Int) < (n : Int) := by omega
      obtain rfl : j = n := by omega
      go_wp2
      go_ret
      refine ⟨_, rfl, ?_, HK.out.2⟩
      have := HK.out.1
      rwa [List.take_of_length_le (by rw [hn.out]; exact Nat.le_refl _)] at this

set_option maxHeartbeats 1000000 in
theorem spans_any (es : List Int) (B : Nat) (p o : Nat) (A : Option Addr) (c : Nat) (w : World) (hp : w.cell? ⟨p, o, none⟩ = some (.slice A es.length c)) (hx : Rd w B A es.length (ints es)) (hB : B ≤ w.heap.size) (he : es.length % 2 = 0) (hm : es.length * 8 ≤ 140737488355328) (hc : es.length ≤ c) :
    Calls Try.prog 107 #[.pointer (some ⟨p, o, none⟩)] w fun e w' => ∃ v', e = .returned v' ∧ w'.ownsRow w.heap.size 94 2 v' (es.length / 2) (ints es) ∧ Below w.heap.size w w' := by
  have H := Lib.hid (pairs_any es B A c w hx hB he hm hc)
  clear hx he hm hc
  go_enter Try.func107, Try.ntmps107
  go_wp2_with (go_at_call 101; refine H.out.mono ?_; rintro e w' ⟨v', rfl, h1, h2⟩)
  have H1 := Lib.hid h1
  have H2 := Lib.hid h2
  clear h1 h2
  go_wp2
  go_ret
  exact ⟨_, rfl, H1.out, H2.out⟩
end Go.Proofs.Ytcglhoochmfmiaa.Sp
