/- The queue's Put: contract. Conditions: as each theorem lists them. -/
import Derived.Test.YtlaopkkfgkcejaaJQg
set_option linter.unusedSimpArgs false
set_option linter.unusedVariables false

namespace Go.Proofs.Ytlaopkkfgkcejaa.Qu
open Go Go.RowKit Go.Proofs.Ytlaopkkfgkcejaa

/-- Has it bytes, and no more than go? -/
def fitD (d : Int × List Nat) : Bool := decide (0 < d.2.length) && decide (d.2.length ≤ 116)
/-- What is put of these, behind m. -/
def putD (m : Nat) (ds : List (Int × List Nat)) : List (Int × List Nat) := (ds.filter fitD).take (32 - m)
theorem putD_step {m : Nat} {ds : List (Int × List Nat)} {d : Int × List Nat} (h : m + (putD m ds).length < 32) : putD m (ds ++ [d]) = putD m ds ++ (if fitD d then [d] else []) := by
  unfold putD at h ⊢
  rw [List.length_take] at h
  rw [List.filter_append]
  by_cases hf : fitD d = true
  · rw [if_pos hf, List.filter_cons, if_pos hf, List.filter_nil, List.take_of_length_le (by rw [List.length_append]; show _ + 1 ≤ _; omega), List.take_of_length_le (by omega)]
  · rw [if_neg hf, List.filter_cons, if_neg hf, List.filter_nil, List.append_nil, List.append_nil]
theorem putD_full {m : Nat} {a b : List (Int × List Nat)} (hm : m ≤ 32) (h : m + (putD m a).length = 32) : putD m (a ++ b) = putD m a := by
  unfold putD at h ⊢
  rw [List.length_take] at h
  rw [List.filter_append, List.take_append_of_le_length (by omega)]
/-- What Put leaves. -/
def PutP (w : World) (p lo : Nat) (ks qs : List It) (e : Ending) (w' : World) : Prop :=
  ∃ new : List It, e = .returned (.int .i64 (new.length : Int)) ∧ QIn w' p lo (ks ++ new) ∧ w.grownBy w' (some p) ∧ new.map dat = putD ks.length (qs.map dat)

theorem QAt.more {w : World} {p lo L : Nat} {all : List It} (h : QAt w p lo all L) (q : It) (hl : all.length = L) (h32 : L < 32) (hi : ItOk w lo q) (hn : 0 < q.n ∧ q.n ≤ 116) :
    QAt ((w.setCell ⟨p, L * 2, none⟩ (.int .i64 q.k)).setCell ⟨p, L * 2 + 1, none⟩ (.slice q.A q.n q.c)) p lo (all ++ [q]) L := by
  have h2 : (itC q).length = 2 := rfl
  refine h.write (L * 2) (itC q) (all ++ [q]) (by omega) (fun t u hu => ⟨fun h1 h3 => ?_, fun h1 => ?_⟩) (fun x hx => ?_) (by simp; omega)
  · rw [its_app, List.getElem?_append_right (by rw [its_len]; omega), its_len, hl] at hu
    simpa [its] using hu
  · rw [its_app] at hu
    by_cases h3 : t < L * 2
    · rwa [List.getElem?_append_left (by rw [its_len]; omega)] at hu
    · rw [List.getElem?_append_right (by rw [its_len]; omega), its_len, hl] at hu
      have := (List.getElem?_eq_some_iff.1 hu).1
      rw [its_len] at this
      simp at this
      omega
  · rw [List.mem_append] at hx
    rcases hx with hx | hx
    · exact h.items x hx
    · have : x = q := by simpa using hx
      subst this
      exact ⟨hi, hn⟩

set_option maxRecDepth 100000 in
set_option maxHeartbeats 8000000 in
theorem put_any {w : World} {p lo : Nat} {ks : List It} (hq : QIn w p lo ks) (hlo : lo ≤ w.heap.size) (qs : List It) (n c : Nat) (A : Option Addr) (hA : At w (p + 1) A (n * 2) (its qs)) (hc : n ≤ c) (hn : n ≤ 1000000) (hqs : ∀ q ∈ qs, ItOk w (p + 1) q ∧ q.n ≤ 1000000) :
    Calls Try.prog 7 #[.pointer (some ⟨p, 0, none⟩), .slice A n c] w (PutP w p lo ks qs) := by
  obtain ⟨m0, hm0⟩ : ∃ m, ks.length = m := ⟨_, rfl⟩
  have hlen : qs.length = n := by have := hA.1; rw [its_len] at this; omega
  have hm32 : m0 ≤ 32 := by rw [← hm0]; exact hq.le
  have c64 : w.cell? ⟨p, 64, none⟩ = some (.int .i64 (m0 : Int)) := by rw [← hm0]; exact hq.num
  have hnI : (n : Int) ≤ 1000000 := by omega
  have hncI : (n : Int) ≤ (c : Int) := by omega
  have HM0 := Lib.hid hm0
  have HQ := Lib.hid hq
  have HA := Lib.hid hA
  have HQS := Lib.hid hqs
  have HLEN := Lib.hid hlen
  have HLO0 := Lib.hid hlo
  clear hq hA hqs hlen hm0
  go_enter Try.func7, Try.ntmps7
  go_wp2_with fail
  go_loopw [7, 14] (fun _ i wr => ∃ (j : Nat) (new : List It), j ≤ n ∧ i = .int .i64 (j : Int) ∧ Hid (QIn wr p lo (ks ++ new) ∧ w.grownBy wr (some p) ∧ new.map dat = putD ks.length ((qs.take j).map dat))) (fun _ i _ => n - (intOf i).toNat)
  case atStart => exact ⟨0, [], Nat.zero_le _, rfl, by rw [List.append_nil]; exact HQ.out, grown_refl _ _, by simp [putD]⟩
  case round =>
    obtain ⟨j, new, hj, rfl, HK⟩ := hrel
    obtain ⟨hqi, hgi, hni⟩ := HK.out
    obtain ⟨all, hall⟩ : ∃ all, ks ++ new = all := ⟨_, rfl⟩
    rw [hall] at hqi
    obtain ⟨L, hL⟩ : ∃ L, all.length = L := ⟨_, rfl⟩
    have hLs : m0 + new.length = L := by rw [← hL, ← hall, List.length_append, HM0.out]
    have hL32 : L ≤ 32 := by rw [← hL]; exact hqi.le
    have n64 : wr.cell? ⟨p, 64, none⟩ = some (.int .i64 (L : Int)) := by rw [← hL]; exact hqi.num
    have hplr := hqi.lt
    have HQI : Hid (QAt wr p lo all L) := by have := hqi; unfold QIn at this; rw [hL] at this; exact this
    have HGI := Lib.hid hgi
    have HNEW := Lib.hid hni
    have HALL := Lib.hid hall
    have HAL := Lib.hid hL
    have wL : IntKind.i64.wrap ((L : Int) - (m0 : Int)) = ((new.length : Nat) : Int) := by rw [IntWalk.i64_in _ (by omega)]; omega
    have hFIN : Hid (putD ks.length (qs.map dat) = new.map dat → PutP w p lo ks qs (.returned (.int .i64 ((new.length : Nat) : Int))) wr) := fun h => ⟨new, rfl, by rw [HALL.out]; unfold QIn; rw [HAL.out]; exact HQI.out, HGI.out, h.symm⟩
    have hmI : (m0 : Int) ≤ (L : Int) := by omega
    have hLI : (L : Int) ≤ 32 := by omega
    have hL0I : (0 : Int) ≤ (L : Int) := by omega
    clear hqi hgi hni hall hL HK
    by_cases hlt : j < n
    · have hltI : (j : Int) < (n : Int) := by omega
      have hjI : (0 : Int) ≤ (j : Int) := by omega
      obtain ⟨q, hqj⟩ : ∃ q, qs[j]? = some q := ⟨_, List.getElem?_eq_getElem (by have := HLEN.out; omega)⟩
      obtain ⟨b, off, rfl, hpb, hbl, hcs⟩ := HA.out.2 (by omega)
      have hbp : b ≠ p := by omega
      have c0 : wr.cell? ⟨b, off + j * 2, none⟩ = some (.int .i64 q.k) := HGI.out.cell (hcs (j * 2) _ (by have := its_get qs j q hqj 0 (by omega); simpa [itC] using this)) (by simp; omega)
      have c1 : wr.cell? ⟨b, off + j * 2 + 1, none⟩ = some (.slice q.A q.n q.c) := HGI.out.cell (hcs (j * 2 + 1) _ (by have := its_get qs j q hqj 1 (by omega); simpa [itC] using this)) (by simp; omega)
      have hpn : p ≠ wr.heap.size := by omega
      have HT : Hid ((qs.take (j + 1)).map dat = (qs.take j).map dat ++ [dat q]) := by show _ = _; rw [take_one qs j q hqj, List.map_append]; rfl
      obtain ⟨hqo, hqn⟩ := HQS.out q (List.mem_of_getElem? hqj)
      have HQO : Hid (ItOk wr (p + 1) q) := hqo.grown HGI.out (by omega)
      have hql : q.bs.length = q.n := hqo.len
      have hqc := hqo.cap
      have hqcI : (q.n : Int) ≤ (q.c : Int) := by omega
      have hqnI : (q.n : Int) ≤ 1000000 := by omega
      have HBX : Hid (Below wr.heap.size wr (wr.alloc (.cells #[.int .i64 q.k, .slice q.A q.n q.c] 24))) := (Below.refl _ _).alloc (Nat.le_refl _) _
      clear hcs hqo hqj
      by_cases hfull : L = 32
      · subst hfull
        have HPF : Hid (putD ks.length (qs.map dat) = new.map dat) := by
          have e : qs.map dat = (qs.take j).map dat ++ (qs.drop j).map dat := by rw [← List.map_append, List.take_append_drop]
          show _ = _
          rw [e, putD_full (by rw [HM0.out]; exact hm32) (by rw [← HNEW.out, List.length_map, HM0.out]; omega), ← HNEW.out]
        have HFP : Hid (PutP w p lo ks qs (.returned (.int .i64 ((new.length : Nat) : Int))) (wr.alloc (.cells #[.int .i64 q.k, .slice q.A q.n q.c] 24))) := by
          obtain ⟨new', e1, h1, h2, h3⟩ := hFIN.out HPF.out
          exact ⟨new', e1, QAt.below h1 HBX.out, grown_trans h2 (grown_of_below p HBX.out), h3⟩
        clear hFIN HPF
        have e : (32 : Int) - (m0 : Int) = ((new.length : Nat) : Int) := by omega
        go_wp2_with fail
        go_ret
        exact HFP.out
      · have hLn : (L : Int) ≠ 32 := by omega
        have hLlt : L < 32 := by omega
        have hLltI : (L : Int) < 32 := by omega
        clear hFIN
        have HST : Hid (putD ks.length ((qs.take (j + 1)).map dat) = new.map dat ++ (if fitD (dat q) then [dat q] else [])) := by
          show _ = _
          rw [HT.out, putD_step (by rw [← HNEW.out, List.length_map, HM0.out]; omega), HNEW.out]
        have hfd : fitD (dat q) = (decide (0 < q.n) && decide (q.n ≤ 116)) := by show (decide (0 < q.bs.length) && decide (q.bs.length ≤ 116)) = _; rw [hql]
        obtain ⟨h, hh⟩ : ∃ h, wr.heap.size = h := ⟨_, rfl⟩
        obtain ⟨w7, hw7⟩ : ∃ x, wr.alloc (.cells #[.int .i64 q.k, .slice q.A q.n q.c] 24) = x := ⟨_, rfl⟩
        have hB7 := HBX.out
        rw [hw7] at hB7
        have d0 : w7.cell? ⟨h, 0, none⟩ = some (.int .i64 q.k) := by rw [← hw7, ← hh]; simp
        have d1 : w7.cell? ⟨h, 1, none⟩ = some (.slice q.A q.n q.c) := by rw [← hw7, ← hh]; simp
        have hph : p ≠ h := by omega
        have hhp : h ≠ p := by omega
        have c64' : w7.cell? ⟨p, 64, none⟩ = some (.int .i64 (L : Int)) := (hB7.cell (p := ⟨p, 64, none⟩) hplr).trans n64
        have hz7 : w7.heap.size = h + 1 := by rw [← hw7, ← hh]; simp
        have HQ7 : Hid (QAt w7 p lo all L) := HQI.out.below hB7
        have HG7 : Hid (w.grownBy w7.drew (some p)) := grown_drew (grown_trans HGI.out (grown_of_below p hB7))
        have HPL : Hid (p < w7.heap.size) := by show _ < _; omega
        have HHL : Hid (h < w7.heap.size) := by show _ < _; omega
        have HLO : Hid (lo ≤ w7.drew.heap.size) := Nat.le_trans HLO0.out HG7.out.size
        have HCO := Lib.hid (copied_any q (p + 1) w7.drew (HQO.out.below hB7.drew) (by omega))
        by_cases hf1 : 0 < q.n
        · have hf1I : (0 : Int) < (q.n : Int) := by omega
          by_cases hf2 : q.n ≤ 116
          · have hf2I : (q.n : Int) ≤ 116 := by omega
            have HSTEP : Hid (putD ks.length ((qs.take j).map dat) ++ [dat q] = putD ks.length ((qs.take (j + 1)).map dat)) := by
              show _ = _
              rw [HST.out, hfd, decide_eq_true hf1, decide_eq_true hf2, HNEW.out]
              rfl
            have C64 := Lib.hid c64'
            have D0 := Lib.hid d0
            have D1 := Lib.hid d1
            clear hfd HST hB7
            go_wp2_with fail
            refine wp_region_held_drew (S := (fun W : World => W.cell? ⟨p, 64, none⟩ = some (.int .i64 (L : Int)) ∧ W.cell? ⟨h, 0, none⟩ = some (.int .i64 q.k) ∧ W.cell? ⟨h, 1, none⟩ = some (.slice q.A q.n q.c))) (by kernel_rfl) ?_ (fun hHeld => ?_)
            · exact ⟨C64.out, D0.out, D1.out⟩
            refine wpAnyH_take (i := 0) (v := ?_) rfl (by kernel_rfl) (by kernel_rfl) (by kernel_rfl) (fun _ _ _ h => h) (Or.inl ⟨by rfl, ?_⟩) (by assumption) ?_
            rotate_left
            · intro w hSw; (try dsimp only at hSw); go_simp; try with_reducible rfl
            go_simp
            refine wpAnyH_take (i := 1) (v := ?_) rfl (by kernel_rfl) (by kernel_rfl) (by kernel_rfl) (fun _ _ _ h => h) (Or.inl ⟨by rfl, ?_⟩) (by assumption) ?_
            rotate_left
            · intro w hSw; (try dsimp only at hSw); go_simp; try with_reducible rfl
            go_simp
            refine wpAnyH_take (i := 2) (v := ?_) rfl (by kernel_rfl) (by kernel_rfl) (by kernel_rfl) (fun _ _ _ h => h) (Or.inl ⟨by rfl, ?_⟩) (by assumption) ?_
            rotate_left
            · intro w hSw; (try dsimp only at hSw); go_simp; try with_reducible rfl
            go_simp
            refine wpAnyH_take (i := 3) (v := ?_) rfl (by kernel_rfl) (by kernel_rfl) (by kernel_rfl) (fun _ _ _ h => h) (Or.inl ⟨by rfl, ?_⟩) (by assumption) ?_
            rotate_left
            · intro w hSw; (try dsimp only at hSw); go_simp; try with_reducible rfl
            go_simp
            refine wpAnyH_take (i := 4) (v := ?_) rfl (by kernel_rfl) (by kernel_rfl) (by kernel_rfl) (fun _ _ _ h => h) (Or.inl ⟨by rfl, ?_⟩) (by assumption) ?_
            rotate_left
            · intro w hSw; (try dsimp only at hSw); go_simp; try with_reducible rfl
            go_simp
            refine wpAnyH_take (i := 5) (v := ?_) rfl (by kernel_rfl) (by kernel_rfl) (by kernel_rfl) (fun _ _ _ h => h) (Or.inl ⟨by rfl, ?_⟩) (by assumption) ?_
            rotate_left
            · intro w hSw; (try dsimp only at hSw); go_simp; try with_reducible rfl
            go_simp
            refine wpAnyH_take (i := 7) (v := ?_) rfl (by kernel_rfl) (by kernel_rfl) (by kernel_rfl) (fun _ _ _ h => h) (Or.inl ⟨by rfl, ?_⟩) (by assumption) ?_
            rotate_left
            · intro w hSw; (try dsimp only at hSw); go_simp; try with_reducible rfl
            go_simp
            refine wpAnyH_take (i := 8) (v := ?_) rfl (by kernel_rfl) (by kernel_rfl) (by kernel_rfl) (fun _ _ _ h => h) (Or.inl ⟨by rfl, ?_⟩) (by assumption) ?_
            rotate_left
            · intro w hSw; (try dsimp only at hSw); go_simp; try with_reducible rfl
            go_simp
            refine wpAnyH_ready (rs := [6]) (by kernel_rfl) (by simp) ?_
            refine AllReadyH.cons rfl (fun K hK => ?_) AllReadyH.nil
            go_simp
            refine HCO.out.mono ?_
            rintro e w6 ⟨⟨k6, A6, n6, c6, bs6⟩, rfl, hd6, hi6, hb6⟩
            have HS6 : Hid (w6.cell? ⟨p, 64, none⟩ = some (.int .i64 (L : Int)) ∧ w6.cell? ⟨h, 0, none⟩ = some (.int .i64 q.k) ∧ w6.cell? ⟨h, 1, none⟩ = some (.slice q.A q.n q.c)) := ⟨(hb6.cell (p := ⟨p, 64, none⟩) HPL.out).trans C64.out, (hb6.cell (p := ⟨h, 0, none⟩) HHL.out).trans D0.out, (hb6.cell (p := ⟨h, 1, none⟩) HHL.out).trans D1.out⟩
            have hq6 := (HQ7.out.below (Below.refl _ _).drew).below hb6
            obtain ⟨r0, f0⟩ := hq6.room (L * 2) (by omega)
            obtain ⟨r1, f1⟩ := hq6.room (L * 2 + 1) (by omega)
            obtain ⟨x0, r0⟩ := Option.isSome_iff_exists.1 r0
            obtain ⟨x1, r1⟩ := Option.isSome_iff_exists.1 r1
            have HQ6 := Lib.hid hq6
            have HD6 := Lib.hid hd6
            have HI6 := Lib.hid hi6
            have HB6 := Lib.hid hb6
            clear hq6 hd6 hi6 hb6
            refine hK.out _ _ ?_ (fun hHeld => ?_)
            · exact HS6.out
            clear hK K
            go_simp
            refine wpAnyH_take (i := 9) (v := ?_) rfl (by kernel_rfl) (by kernel_rfl) (by kernel_rfl) (fun _ _ _ h => h) (Or.inl ⟨by rfl, ?_⟩) (by assumption) ?_
            rotate_left
            · intro w hSw; (try dsimp only at hSw); go_simp; try with_reducible rfl
            go_simp
            refine wpAnyH_ready (rs := [10]) (by kernel_rfl) (by simp) ?_
            refine AllReadyH.cons rfl (fun K hK => ?_) AllReadyH.nil
            go_simp
            refine hK.out _ _ ?_ (fun hHeld => ?_)
            · exact (by
              refine ⟨?_, ?_, ?_⟩
              · rw [World.cell?_setCell_other _ _ _ _ (by simp <;> omega), World.cell?_setCell_other _ _ _ _ (by simp <;> omega)]; exact HS6.out.1
              · rw [World.cell?_setCell_other _ _ _ _ (by simp <;> omega), World.cell?_setCell_other _ _ _ _ (by simp <;> omega)]; exact HS6.out.2.1
              · rw [World.cell?_setCell_other _ _ _ _ (by simp <;> omega), World.cell?_setCell_other _ _ _ _ (by simp <;> omega)]; exact HS6.out.2.2)
            clear hK K
            go_simp
            refine wpAnyH_done (by kernel_rfl) ?_ _
            have hq9 : QAt ((w6.setCell ⟨p, L * 2, none⟩ (.int .i64 k6)).setCell ⟨p, L * 2 + 1, none⟩ (.slice A6 n6 c6)) p lo (all ++ [⟨k6, A6, n6, c6, bs6⟩]) L := HQ6.out.more ⟨k6, A6, n6, c6, bs6⟩ HAL.out (by omega) (HI6.out.less HLO.out) (by have h1 := HI6.out.len; have h2 := HD6.out; simp only [dat, Prod.mk.injEq] at h2; rw [h2.2, hql] at h1; simp only at h1 ⊢; omega)
            have hg9 : w.grownBy ((w6.setCell ⟨p, L * 2, none⟩ (.int .i64 k6)).setCell ⟨p, L * 2 + 1, none⟩ (.slice A6 n6 c6)) (some p) := grown_set (grown_set (grown_trans HG7.out (grown_of_below p HB6.out)) _ _) _ _
            obtain ⟨w9, hw9⟩ : ∃ x, (w6.setCell ⟨p, L * 2, none⟩ (.int .i64 k6)).setCell ⟨p, L * 2 + 1, none⟩ (.slice A6 n6 c6) = x := ⟨_, rfl⟩
            rw [hw9] at hq9 hg9 ⊢
            have n9 := hq9.num
            have f9 := (hq9.room 64 (by omega)).2
            have HF9 : Hid (QIn (w9.setCell ⟨p, 64, none⟩ (.int .i64 ((L : Int) + 1))) p lo (ks ++ (new ++ [⟨k6, A6, n6, c6, bs6⟩])) ∧ w.grownBy (w9.setCell ⟨p, 64, none⟩ (.int .i64 ((L : Int) + 1))) (some p) ∧ (new ++ [(⟨k6, A6, n6, c6, bs6⟩ : It)]).map dat = putD ks.length ((qs.take (j + 1)).map dat)) := by
              have e : ks ++ (new ++ [⟨k6, A6, n6, c6, bs6⟩]) = all ++ [⟨k6, A6, n6, c6, bs6⟩] := by rw [← HALL.out, List.append_assoc]
              have hsay := hq9.say (L + 1)
              refine ⟨?_, grown_set hg9 _ _, ?_⟩
              · rw [e]; unfold QIn; rw [List.length_append, HAL.out]; exact hsay
              · rw [List.map_append, HNEW.out]; show _ ++ [dat ⟨k6, A6, n6, c6, bs6⟩] = _; rw [HD6.out]; exact HSTEP.out
            clear hq9 hg9 hw9
            go_wp2_with fail
            refine ⟨⟨j + 1, new ++ [⟨k6, A6, n6, c6, bs6⟩], by omega, by go_num, HF9⟩, ?_⟩
            simp [intOf]; omega
          · have hf2I : ¬ (q.n : Int) ≤ 116 := by omega
            have HNO : Hid (QIn w7 p lo (ks ++ new) ∧ w.grownBy w7 (some p) ∧ new.map dat = putD ks.length ((qs.take (j + 1)).map dat)) := ⟨by rw [HALL.out]; unfold QIn; rw [HAL.out]; exact HQ7.out, grown_trans HGI.out (grown_of_below p hB7), by rw [HST.out, hfd, decide_eq_true hf1, decide_eq_false hf2]; simp⟩
            clear hfd HST hB7 HCO
            go_wp2_with fail
            refine ⟨⟨j + 1, new, by omega, by go_num, HNO⟩, ?_⟩
            simp [intOf]; omega
        · have hf1I : ¬ (0 : Int) < (q.n : Int) := by omega
          have HNO : Hid (QIn w7 p lo (ks ++ new) ∧ w.grownBy w7 (some p) ∧ new.map dat = putD ks.length ((qs.take (j + 1)).map dat)) := ⟨by rw [HALL.out]; unfold QIn; rw [HAL.out]; exact HQ7.out, grown_trans HGI.out (grown_of_below p hB7), by rw [HST.out, hfd, decide_eq_false hf1]; simp⟩
          clear hfd HST hB7 HCO hf1
          go_wp2_with fail
          refine ⟨⟨j + 1, new, by omega, by go_num, HNO⟩, ?_⟩
          simp [intOf]; omega
    · have hltI : ¬ (j : Int) < (n : Int) := by omega
      obtain rfl : j = n := by omega
      have HPF : Hid (putD ks.length (qs.map dat) = new.map dat) := by
        show _ = _
        have h := HNEW.out
        rw [List.take_of_length_le (by have := HLEN.out; omega)] at h
        exact h.symm
      have HFP := Lib.hid (hFIN.out HPF.out)
      clear hFIN HPF
      have e : (L : Int) - (m0 : Int) = ((new.length : Nat) : Int) := by omega
      go_wp2_with fail
      go_ret
      exact HFP.out
end Go.Proofs.Ytlaopkkfgkcejaa.Qu
