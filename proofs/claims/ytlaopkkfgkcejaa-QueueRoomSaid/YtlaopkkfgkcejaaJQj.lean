/- QueueRoom: the walk. Conditions: the calls are an argument's. -/
import Derived.Test.YtlaopkkfgkcejaaJQi
import Derived.Test.YtlaopkkfgkcejaaJQc
import Derived.Test.YtlaopkkfgkcejaaJH1
set_option linter.unusedSimpArgs false
set_option linter.unusedVariables false

namespace Go.Proofs.Ytlaopkkfgkcejaa.Qu
open Go Go.RowKit Go.Proofs.Ytlaopkkfgkcejaa

theorem putD_all (m : Nat) (qs : List It) (h : ∀ q ∈ qs, fitD (dat q) = true) : (putD m (qs.map dat)).length = min (32 - m) qs.length := by
  unfold putD
  rw [List.length_take, List.filter_eq_self.2 (fun d hd => by obtain ⟨q, hq, rfl⟩ := List.mem_map.1 hd; exact h q hq), List.length_map]

/-- QueueRoom's row on its way. -/
def RoomI (w1 wr : World) (lo : Nat) (v : Value) (k : Nat) : Prop := ∃ qs, RowQ wr lo v k qs ∧ (∀ q ∈ qs, fitD (dat q) = true ∧ q.n ≤ 1000000) ∧ Below w1.heap.size w1 wr
/-- QueueRoom, between two calls. -/
def RoomO (w wr : World) (p : Nat) (n : Nat) : Prop := ∃ ds, LQ w wr p (p + 1) ds ∧ ds.length = n

set_option maxRecDepth 100000 in
set_option maxHeartbeats 16000000 in
theorem room_walk (A : Option Addr) (n cap : Nat) (rs : List Qc.Rc) (w : World) (hx : Qc.CallsIn w A cap n rs) (hnb : n ≤ 140737488355328) :
    Calls Try.prog 6 #[.slice A n cap] w fun e w' => e = .returned (.bool true) ∧ Below w.heap.size w w' := by
  have HX := Lib.hid hx
  have hnc := hx.le
  have HKN := Lib.hid known_any
  have HQ0 : Hid (LQ w (w.alloc (.cells zeroQ 27)) w.heap.size (w.heap.size + 1) []) := new_lq (Below.refl w.heap.size w)
  have hnI : (n : Int) ≤ 140737488355328 := by omega
  obtain ⟨i0, hi, hz0, hz1, hz2⟩ := info_parts infoIt
  have HI := Lib.hid (And.intro hi (And.intro hz0 (And.intro hz1 hz2)))
  obtain ⟨p, hp⟩ : ∃ p, w.heap.size = p := ⟨_, rfl⟩
  rw [hp] at HQ0
  clear hx hi hz0 hz1 hz2
  go_enter Try.func6, Try.ntmps6
  go_wp2_with (refine wpList_queue_new 12 3 rfl rfl rfl rfl rfl rfl rfl rfl rfl (fun _ _ => rfl) (fun _ _ => rfl) ?_)
  go_loopw [4, 15] (fun vn i wr => ∃ (j m : Nat), j ≤ n ∧ m ≤ 32 ∧ i = .int .i64 (j : Int) ∧ vn = .int .i64 (m : Int) ∧ Hid (RoomO w wr p m)) (fun _ i _ => n - (intOf i).toNat)
  case atStart => exact ⟨0, 0, Nat.zero_le _, Nat.zero_le _, rfl, rfl, [], HQ0.out, rfl⟩
  case round =>
    obtain ⟨j, m, hj, hm, rfl, rfl, HK⟩ := hrel
    by_cases hlt : j < n
    · have hltI : (j : Int) < (n : Int) := by omega
      have hjI : (0 : Int) ≤ (j : Int) := by omega
      have hm0I : (0 : Int) ≤ (m : Int) := by omega
      have hm1I : (m : Int) ≤ 32 := by omega
      obtain ⟨ds, hq, hds⟩ := HK.out
      obtain ⟨b, off, rfl, hbl, hcs⟩ := HX.out.rd (by omega)
      obtain ⟨r, hr⟩ : ∃ r, rs[j]? = some r := ⟨_, List.getElem?_eq_getElem (by have := HX.out.len; omega)⟩
      obtain ⟨hrok, hrc⟩ := hcs j r hr
      obtain ⟨f0, A1, f1, c1, A2, f2, c2⟩ := r
      have hbw := hq.bel
      have x0 : wr.cell? ⟨b, off + j * 3, none⟩ = some (.int .i64 f0) := (hbw.cell (p := ⟨b, off + j * 3, none⟩) hbl).trans (hrc 0 _ rfl)
      have x1 : wr.cell? ⟨b, off + j * 3 + 1, none⟩ = some (.slice A1 f1.length c1) := (hbw.cell (p := ⟨b, off + j * 3 + 1, none⟩) hbl).trans (hrc 1 _ rfl)
      have x2 : wr.cell? ⟨b, off + j * 3 + 2, none⟩ = some (.slice A2 f2.length c2) := (hbw.cell (p := ⟨b, off + j * 3 + 2, none⟩) hbl).trans (hrc 2 _ rfl)
      obtain ⟨L, hL⟩ : ∃ L, f1.length = L := ⟨_, rfl⟩
      rw [hL] at x1
      have hL0 : L ≤ 17592186044416 := by rw [← hL]; exact hrok.u1
      have hLI : (L : Int) ≤ 17592186044416 := by omega
      have hbn : b ≠ wr.heap.size := by have := hbw.size; omega
      obtain ⟨h, hh⟩ : ∃ h, wr.heap.size = h := ⟨_, rfl⟩
      obtain ⟨w1, hw1⟩ : ∃ x, wr.alloc (.cells #[.int .i64 f0, .slice A1 L c1, .slice A2 f2.length c2] 41) = x := ⟨_, rfl⟩
      have HQ1 : Hid (LQ w w1 p (p + 1) ds) := by rw [← hw1]; exact hq.alloc _
      have y0 : w1.cell? ⟨h, 0, none⟩ = some (.int .i64 f0) := by rw [← hw1, ← hh]; simp
      have Y1 : Hid (w1.cell? ⟨h, 1, none⟩ = some (.slice A1 L c1)) := by show _ = _; rw [← hw1, ← hh]; simp
      have hz1 : w1.heap.size = h + 1 := by rw [← hw1, ← hh]; simp
      have hph : p < h := by rw [← hh]; exact hq.lt
      have HP := Lib.hid (pick_any f0 3 w1 (by decide) (by decide))
      have hf0 := Int.emod_nonneg f0 (show (3 : Int) ≠ 0 by decide)
      obtain ⟨z, hz⟩ : ∃ z, f0 % 3 = z := ⟨_, rfl⟩
      rw [hz] at HP
      have HDS := Lib.hid hds
      clear HK hq hcs hrc hbw hrok hz hf0 hL hr hds
      go_wp2_with fail
      go_at_call 13
      refine HP.out.mono ?_
      rintro e w2 ⟨rfl, hw2⟩
      subst hw2
      by_cases hzz : z = 0
      · subst hzz
        cases ds with
        | nil =>
          obtain rfl : m = 0 := HDS.out.symm
          go_wp2_with fail
          go_at_call 10
          refine (pop_nil HQ1.out).mono ?_
          rintro e w5 ⟨rfl, hq5, hb5⟩
          have HQ9 : Hid (LQ w (w5.alloc (.cells #[.int .i64 0, .slice none 0 0] 24)) p (p + 1) []) := hq5.alloc _
          clear hq5 hb5
          go_wp2_with fail
          go_at_call 8
          refine (len_lq HQ9.out).mono ?_
          rintro e w9' ⟨rfl, rfl⟩
          go_wp2_with fail
          refine ⟨⟨j + 1, 0, by omega, by omega, by go_num, rfl, [], HQ9.out, rfl⟩, ?_⟩
          simp [intOf]; omega
        | cons d ds =>
          obtain ⟨m', rfl⟩ : ∃ m', m = m' + 1 := ⟨ds.length, HDS.out.symm⟩
          have hds' : ds.length = m' := by have := HDS.out; simpa using this
          have hmp : (0 : Int) < ((m' + 1 : Nat) : Int) := by omega
          have hwm : IntKind.i64.wrap (((m' + 1 : Nat) : Int) - 1) = (m' : Int) := by rw [IntWalk.i64_in _ (by omega)]; omega
          go_wp2_with fail
          go_at_call 10
          refine (pop_cons HQ1.out).mono ?_
          rintro e w5 ⟨⟨k5, A5, n5, c5, bs5⟩, rfl, _, _, hq5, _⟩
          have HQ9 : Hid (LQ w (w5.alloc (.cells #[.int .i64 k5, .slice A5 n5 c5] 24)) p (p + 1) ds) := hq5.alloc _
          clear hq5
          go_wp2_with fail
          go_at_call 8
          refine (len_lq HQ9.out).mono ?_
          rintro e w9' ⟨rfl, rfl⟩
          rw [hds']
          go_wp2_with fail
          refine ⟨⟨j + 1, m', by omega, by omega, by go_num, by go_num, ds, HQ9.out, hds'⟩, ?_⟩
          simp [intOf]; omega
      · have hzb : (z == 0) = false := by simpa using hzz
        have HPQ : Hid (p + 1 ≤ w1.heap.size) := by show _ ≤ _; omega
        go_wp2_with fail
        go_loopw [9, 10] (fun vl i w2 => ∃ k : Nat, k ≤ 12 ∧ k ≤ L ∧ i = .int .i64 (k : Int) ∧ Hid (RoomI w1 w2 (h + 1) vl k)) (fun _ i _ => 12 - (intOf i).toNat)
        case atStart => exact ⟨0, by omega, by omega, rfl, [], RowQ.nil _ _, (fun _ h => by cases h), Below.refl _ _⟩
        case round =>
          obtain ⟨k, hk12, hkL, rfl, HK⟩ := hrel
          obtain ⟨qs, hrow, hfit, hb2⟩ := HK.out
          obtain ⟨A9, c9, e9, hkc9, hc9m, _, _⟩ := own_form hrow.2.1
          subst e9
          have y1 : wr.cell? ⟨h, 1, none⟩ = some (.slice A1 L c1) := (hb2.cell (p := ⟨h, 1, none⟩) (by simp; omega)).trans Y1.out
          have hkI : (k : Int) ≤ 12 := by omega
          have hk0I : (0 : Int) ≤ (k : Int) := by omega
          have HROW := Lib.hid hrow
          have HFIT := Lib.hid hfit
          have HB2 := Lib.hid hb2
          clear hrow hfit hb2 HK
          by_cases hkk : k < L ∧ k < 12
          · obtain ⟨hk1, hk2⟩ := hkk
            have hk1I : (k : Int) < (L : Int) := by omega
            have hk2I : (k : Int) < 12 := by omega
            have hsz : w1.heap.size ≤ wr.heap.size := HB2.out.size
            obtain ⟨s, hs⟩ : ∃ s, wr.heap.size = s := ⟨_, rfl⟩
            have HIT : Hid (ItB (wr.alloc (.cells #[.int .u8 1] 5)) (h + 1) ⟨(k : Int), some ⟨s, 0, none⟩, 1, 1, [1]⟩) := by rw [← hs]; exact itb_one wr (h + 1) (by omega) (k : Int) 1 (by omega)
            have HIT2 := Lib.hid (HIT.out.below ((Below.refl _ _).alloc (Nat.le_refl _) (.cells #[.int .i64 (k : Int), .slice (some ⟨s, 0, none⟩) 1 1] 24)))
            have HR2 : Hid (RowQ ((wr.alloc (.cells #[.int .u8 1] 5)).alloc (.cells #[.int .i64 (k : Int), .slice (some ⟨s, 0, none⟩) 1 1] 24)) (h + 1) (.slice A9 k c9) k qs) := (HROW.out.below ((Below.refl _ _).alloc (Nat.le_refl _) _)).below ((Below.refl _ _).alloc (Nat.le_refl _) _)
            have hd1 : Hid (Rd ((wr.alloc (.cells #[.int .u8 1] 5)).alloc (.cells #[.int .i64 (k : Int), .slice (some ⟨s, 0, none⟩) 1 1] 24)) (s + 2) (some ⟨s + 1, 0, none⟩) (1 * 2) (itC ⟨(k : Int), some ⟨s, 0, none⟩, 1, 1, [1]⟩)) := by rw [← hs]; exact rd_new _ _ _ _ _ _ _ (by simp) (by simp) rfl rfl
            have hd2 : Hid (ones (itC ⟨(k : Int), some ⟨s, 0, none⟩, 1, 1, [1]⟩)) := fun u hu => by simp [itC] at hu; rcases hu with rfl | rfl <;> rfl
            have hd4 : Hid (h + 1 ≤ ((wr.alloc (.cells #[.int .u8 1] 5)).alloc (.cells #[.int .i64 (k : Int), .slice (some ⟨s, 0, none⟩) 1 1] 24)).heap.size) := by show _ ≤ _; simp; omega
            have HB3 : Hid (Below w1.heap.size w1 ((wr.alloc (.cells #[.int .u8 1] 5)).alloc (.cells #[.int .i64 (k : Int), .slice (some ⟨s, 0, none⟩) 1 1] 24))) := (HB2.out.alloc hsz _).alloc (by simp; omega) _
            go_wp2_with (at_builtin; refine wpList_app _ rfl (.tmp 45) (.tmp 49) 29 rfl (h + 1) 24 i0 (.agg #[.int .i64 0, .slice none 0 0]) 2 32 Try.underlying29 HI.out.1 HI.out.2.1 HI.out.2.2.1 HI.out.2.2.2 rfl (by decide) (.slice A9 k c9) k (its qs) rfl HR2.out.2.1 (s + 2) (some ⟨s + 1, 0, none⟩) 1 1 (itC ⟨(k : Int), some ⟨s, 0, none⟩, 1, 1, [1]⟩) rfl hd1.out hd2.out (by unfold maxLen; omega) (by omega) hd4.out ?_)
            intro v3 w3 hown3 hgrow3
            have HT3 : Hid (RoomI w1 w3 (h + 1) v3 (k + 1)) := ⟨qs ++ [⟨(k : Int), some ⟨s, 0, none⟩, 1, 1, [1]⟩], HR2.out.push HIT2.out hown3 hgrow3, fun q hq => by
              rw [List.mem_append] at hq
              rcases hq with hq | hq
              · exact HFIT.out q hq
              · have : q = ⟨(k : Int), some ⟨s, 0, none⟩, 1, 1, [1]⟩ := by simpa using hq
                subst this
                exact ⟨rfl, by show 1 ≤ _; omega⟩, HB3.out.grown hgrow3 HB3.out.size (fun g hg => by have := (HR2.out.2.1.lt g hg).1; omega)⟩
            obtain ⟨A3, c3, e3, _⟩ := own_form hown3
            subst e3
            clear hown3 hgrow3
            go_wp2_with fail
            refine ⟨⟨k + 1, by omega, by omega, by go_num, HT3⟩, ?_⟩
            simp [intOf]; omega
          · have HPUT := Lib.hid (put_lq (HQ1.out.below HB2.out) qs k c9 A9 ((At.of_own HROW.out.2.1).less (by omega)) hkc9 (by omega) (fun q hq => ⟨((HROW.out.2.2 q hq).ok.less (by omega)), (HFIT.out q hq).2⟩))
            have hpt : (putD ds.length (qs.map dat)).length = min (32 - m) k := by rw [putD_all _ _ (fun q hq => (HFIT.out q hq).1), HROW.out.1, HDS.out]
            obtain ⟨nw, hnw⟩ : ∃ nw, putD ds.length (qs.map dat) = nw := ⟨_, rfl⟩
            obtain ⟨pt, hptt⟩ : ∃ pt, nw.length = pt := ⟨_, rfl⟩
            rw [hnw, hptt] at hpt HPUT
            have hpI : (if 32 - (m : Int) < (k : Int) then 32 - (m : Int) else (k : Int)) = (pt : Int) := by split <;> omega
            have hw32 : IntKind.i64.wrap (32 - (m : Int)) = 32 - (m : Int) := IntWalk.i64_in _ (by omega)
            have hwm : IntKind.i64.wrap ((m : Int) + (pt : Int)) = ((m + pt : Nat) : Int) := by rw [IntWalk.i64_in _ (by omega)]; omega
            have hlen9 : (ds ++ nw).length = m + pt := by rw [List.length_append, HDS.out, hptt]
            have hmpt : m + pt ≤ 32 := by omega
            have hmptI : ((m + pt : Nat) : Int) ≤ 32 := by omega
            clear hnw hptt hpt
            by_cases hk1 : k < L
            · have hk1I : (k : Int) < (L : Int) := by omega
              have hk2I : ¬ (k : Int) < 12 := by omega
              go_wp2_with fail
              go_at_call 7
              refine HPUT.out.mono ?_
              rintro e w5 ⟨rfl, hq5, _⟩
              have HQ9 := Lib.hid hq5
              clear hq5
              go_wp2_with fail
              go_at_call 8
              refine (len_lq HQ9.out).mono ?_
              rintro e w9' ⟨rfl, rfl⟩
              rw [hlen9]
              go_wp2_with fail
              refine ⟨⟨j + 1, m + pt, by omega, hmpt, by go_num, by go_num, ds ++ nw, HQ9.out, hlen9⟩, ?_⟩
              simp [intOf]; omega
            · have hk1I : ¬ (k : Int) < (L : Int) := by omega
              go_wp2_with fail
              go_at_call 7
              refine HPUT.out.mono ?_
              rintro e w5 ⟨rfl, hq5, _⟩
              have HQ9 := Lib.hid hq5
              clear hq5
              go_wp2_with fail
              go_at_call 8
              refine (len_lq HQ9.out).mono ?_
              rintro e w9' ⟨rfl, rfl⟩
              rw [hlen9]
              go_wp2_with fail
              refine ⟨⟨j + 1, m + pt, by omega, hmpt, by go_num, by go_num, ds ++ nw, HQ9.out, hlen9⟩, ?_⟩
              simp [intOf]; omega
    · have hltI : ¬ (j : Int) < (n : Int) := by omega
      obtain rfl : j = n := by omega
      obtain ⟨ds, hq, _⟩ := HK.out
      have HQ := Lib.hid hq
      have HKW := Lib.hid (known_any wr)
      clear HK hq HKN
      go_wp2_with fail
      go_at_call 12
      refine HKW.out.mono ?_
      rintro e w5 ⟨rfl, hb5⟩
      have HB5 := Lib.hid hb5
      clear hb5
      go_wp2_with fail
      go_ret
      exact ⟨rfl, HQ.out.bel.trans (HB5.out.mono HQ.out.bel.size)⟩
end Go.Proofs.Ytlaopkkfgkcejaa.Qu
