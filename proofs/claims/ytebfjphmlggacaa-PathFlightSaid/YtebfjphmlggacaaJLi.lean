/- The ledger's Put: a contract (packets without frames). Conditions: as each theorem lists them. -/
import Derived.Test.YtebfjphmlggacaaJLh
import Derived.Deep.QuietTactic
import Derived.BigQuiet
import Derived.Lib.SliceRun
set_option linter.unusedSimpArgs false
set_option linter.unusedVariables false

namespace Go.Proofs.Ytebfjphmlggacaa.Ld
open Go Go.RowKit Go.Proofs.Ytebfjphmlggacaa Go.Proofs.Ytebfjphmlggacaa.Sp

set_option maxRecDepth 100000 in
theorem clone_nil (w : World) : Calls Try.prog 56 #[.slice none 0 0] w fun e w' => e = .returned (.slice none 0 0) ∧ w' = w := by
  have heq := fun (W : World) => Lib.run_eql_slice_nil (P := Try.prog) W 31 28 none 0 0 0 0 Try.underlying31
  go_enter Try.func56, Try.ntmps56
  go_wp2
  go_ret
  exact ⟨rfl, rfl⟩
set_option maxRecDepth 100000 in
theorem copied_nil (w : World) : Calls Try.prog 37 #[.slice none 0 0] w fun e w' => e = .returned (.slice none 0 0) ∧ w' = w := by
  go_enter Try.func37, Try.ntmps37
  go_wp2_with fail
  refine (clone_nil _).mono ?_
  rintro e w' ⟨rfl, rfl⟩
  go_wp2_with fail
  refine wp_loop_rounds 1 ?_
  rw [rounds_succ]
  go_wp2
  go_ret
  exact ⟨rfl, rfl⟩

def putStep (s : List Pk × Nat) (k : Pk) : List Pk × Nat := if k.num = s.2 then (s.1 ++ [k], s.2 + 1) else s
def putF (s : List Pk × Nat) (l : List Pk) : List Pk × Nat := l.foldl putStep s
theorem putF_snoc (s : List Pk × Nat) (l : List Pk) (k : Pk) : putF s (l ++ [k]) = putStep (putF s l) k := by simp [putF]
theorem putF_le (s : List Pk × Nat) (l : List Pk) : (putF s l).2 ≤ s.2 + l.length := by
  induction l generalizing s with
  | nil => exact Nat.le_refl _
  | cons k r ih =>
    refine Nat.le_trans (ih (putStep s k)) ?_
    have : (putStep s k).2 ≤ s.2 + 1 := by unfold putStep; split <;> simp
    simp only [List.length_cons]
    omega

/-- What stands while Put goes on. -/
structure PutI (w wr : World) (lo p o : Nat) (T : TypeId) (cur : Array Value) (ks : List Pk) (next behind : Nat) (cur' : Array Value) : Prop where
  led : Led wr lo p o T cur' ks next behind
  cs : CurSame o cur cur'
  mv : Moved lo p w wr
theorem PutI.keep {w wr w1 : World} {lo p o : Nat} {T : TypeId} {cur : Array Value} {ks : List Pk} {next behind : Nat} {cur' : Array Value} (h : PutI w wr lo p o T cur ks next behind cur') (hb : Below wr.heap.size wr w1) : PutI w w1 lo p o T cur ks next behind cur' :=
  ⟨h.led.keep hb, h.cs, h.mv.trans (Moved.of hb (Nat.le_trans h.led.lt.1 (Nat.le_of_lt h.led.lt.2)))⟩

set_option maxRecDepth 100000 in
set_option maxHeartbeats 8000000 in
theorem put_led (w : World) (lo p o : Nat) (T : TypeId) (cur : Array Value) (ks : List Pk) (next behind : Nat) (h : Led w lo p o T cur ks next behind) (l : List Pk) (hfr : ∀ k ∈ l, k.fa = none ∧ k.fn = 0 ∧ k.fc = 0) (hn : next + l.length ≤ 1800000000000) (A : Option Addr) (c : Nat) (hc : l.length ≤ c)
    (hrd : ∀ W, Moved lo p w W → Rd W W.heap.size A (l.length * 4) (pks l)) :
    Calls Try.prog 21 #[.pointer (some ⟨p, o, none⟩), .slice A l.length c] w fun e w' => e = .returned (.tuple #[]) ∧ ∃ cur', Led w' lo p o T cur' (putF (ks, next) l).1 (putF (ks, next) l).2 behind ∧ CurSame o cur cur' ∧ Moved lo p w w' := by
  obtain ⟨m, hm⟩ : ∃ m, Hid (l.length = m) := ⟨_, rfl⟩
  rw [hm.out] at hn hc ⊢
  have HRD := Lib.hid hrd
  have HFR := Lib.hid hfr
  have H := Lib.hid h
  have HN := Lib.hid hn
  have hmI : (m : Int) ≤ 1800000000000 := by omega
  have hmc : (m : Int) ≤ (c : Int) := by omega
  clear h hrd hfr hn
  go_enter Try.func21, Try.ntmps21
  go_wp2_with fail
  go_loopw [8] (fun i wr => ∃ j : Nat, i = .int .i64 (j : Int) ∧ j ≤ m ∧ Hid (∃ cur', PutI w wr lo p o T cur (putF (ks, next) (l.take j)).1 (putF (ks, next) (l.take j)).2 behind cur')) (fun i _ => m - (intOf i).toNat)
  case atStart => exact ⟨0, rfl, Nat.zero_le _, cur, H.out, CurSame.refl _ _, Moved.refl _ _ _⟩
  case round =>
    obtain ⟨j, rfl, hj, HK⟩ := hrel
    obtain ⟨cur', hK⟩ := HK.out
    clear HK
    obtain ⟨ks1, hks1⟩ : ∃ x, Hid ((putF (ks, next) (l.take j)).1 = x) := ⟨_, rfl⟩
    obtain ⟨nx, hnx⟩ : ∃ x, Hid ((putF (ks, next) (l.take j)).2 = x) := ⟨_, rfl⟩
    rw [hks1.out, hnx.out] at hK
    have HK := Lib.hid hK
    clear hK
    by_cases hlt : j < m
    · have hltI : (j : Int) < (m : Int) := by omega
      obtain ⟨k, hk⟩ : ∃ k, l[j]? = some k := ⟨_, List.getElem?_eq_getElem (by rw [hm.out]; exact hlt)⟩
      have hst : putF (ks, next) (l.take (j + 1)) = putStep (ks1, nx) k := by
        rw [take_snoc hk, putF_snoc, ← hks1.out, ← hnx.out]
      have hnb : nx ≤ next + j := by
        have := putF_le (ks, next) (l.take j)
        rw [hnx.out, List.length_take] at this
        show nx ≤ next + j
        have h2 : (ks, next).2 = next := rfl
        omega
      have hfrk := HFR.out k (List.mem_of_getElem? hk)
      obtain ⟨num, at', el, fa, fn, fc⟩ := k
      obtain ⟨rfl, rfl, rfl⟩ := hfrk
      have hR := HRD.out wr HK.out.mv
      rw [hm.out] at hR
      obtain ⟨b, off, hA, hb, hcs⟩ := hR.2 (by omega)
      subst hA
      have hg := pks_get l j _ hk
      have c0 : wr.cell? ⟨b, off + j * 4, none⟩ = some (.int .i64 (num : Int)) := hcs (j * 4 + 0) _ (hg 0 (by omega))
      have c1 : wr.cell? ⟨b, off + j * 4 + 1, none⟩ = some (.int .i64 at') := hcs (j * 4 + 1) _ (hg 1 (by omega))
      have c2 : wr.cell? ⟨b, off + j * 4 + 2, none⟩ = some (.bool el) := hcs (j * 4 + 2) _ (hg 2 (by omega))
      have c3 : wr.cell? ⟨b, off + j * 4 + 3, none⟩ = some (.slice none 0 0) := hcs (j * 4 + 3) _ (hg 3 (by omega))
      have HST := Lib.hid hst
      have HNB := Lib.hid hnb
      have hnbI : (nx : Int) ≤ 1800000000000 := by have := HN.out; omega
      have n0 := World.new_ne wr _ c0
      have HBW : Hid (b < wr.heap.size) := hb
      have hnxc : wr.cell? ⟨p, o + 1, none⟩ = some (.int .i64 (nx : Int)) := by
        obtain ⟨os, h1, h2⟩ := HK.out.led.led
        exact h1.cell.1
      have hpz : p ≠ wr.heap.size := by have := HK.out.led.lt.2; omega
      have hpz' : wr.heap.size ≠ p := Ne.symm hpz
      clear hcs hg hR hb hst hnb
      go_wp2_with fail
      obtain ⟨w1, hw1⟩ : ∃ x, wr.alloc (Obj.cells #[Value.int IntKind.i64 (num : Int), Value.int IntKind.i64 at', Value.bool el, Value.slice none 0 0] 63) = x := ⟨_, rfl⟩
      rw [hw1]
      have hb1 : Below wr.heap.size wr w1 := by rw [← hw1]; exact (Below.refl _ _).alloc (Nat.le_refl _) _
      have hz1 : w1.heap.size = wr.heap.size + 1 := by rw [← hw1]; exact World.size_alloc _ _
      have hk1 : w1.heap[wr.heap.size]? = some (.cells (Pk.cells ⟨num, at', el, none, 0, 0⟩) 63 (0, 0)) := by rw [← hw1]; exact heap_alloc_new wr _
      obtain ⟨bo, hbo⟩ : ∃ x, Hid (wr.heap.size = x) := ⟨_, rfl⟩
      rw [hbo.out] at hk1 hz1 ⊢
      have d0 := cell_of_row w1 bo 0 _ _ _ hk1
      simp only [Pk.cells, List.getElem?_toArray, List.getElem?_cons_zero, List.getElem?_cons_succ] at d0
      have dn : w1.cell? ⟨p, o + 1, none⟩ = some (.int .i64 (nx : Int)) := (hb1.cell (p := ⟨p, o + 1, none⟩) HK.out.led.lt.2).trans hnxc
      have HB1 := Lib.hid hb1
      have HZ1 := Lib.hid hz1
      have HK1 := Lib.hid hk1
      clear hw1 hb1 hz1 hk1 c0 c1 c2 c3 n0 hpz hpz' hnxc
      go_quiet (fail)
      have HBQ : Hid (Below wr.heap.size wr (w1.drewN nq)) := HB1.out.trans (Below.drewN' _ _ _)
      by_cases hnum : num = nx
      · obtain rfl : nx = num := hnum.symm
        obtain ⟨w2, hw2⟩ : ∃ x, w1.drewN nq = x := ⟨_, rfl⟩
        rw [hw2] at HBQ ⊢
        have hk2 : w2.heap[bo]? = some (.cells (Pk.cells ⟨nx, at', el, none, 0, 0⟩) 63 (0, 0)) := by rw [← hw2]; exact HK1.out
        have hz2 : w2.heap.size = bo + 1 := by rw [← hw2]; exact HZ1.out
        have HZ2 := Lib.hid hz2
        have HK2 := Lib.hid hk2
        have c3 := cell_of_row w2 bo 3 _ _ _ hk2
        have f3 := frozen_of_row w2 bo 3 _ _ hk2
        simp only [Pk.cells, List.getElem?_toArray, List.getElem?_cons_zero, List.getElem?_cons_succ] at c3
        have hnI : (nx : Int) = (nx : Int) := rfl
        clear hw2 d0 dn HK1 HZ1 HB1 hk2 hz2
        go_wp2_with fail
        refine (copied_nil _).mono ?_
        rintro e w' ⟨rfl, hw'⟩
        have hw' := hw'.symm
        subst hw'
        go_upto_region 5 with (fail)
        obtain ⟨w3, hw3⟩ : ∃ x, w2.setCell ⟨bo, 3, none⟩ (.slice none 0 0) = x := ⟨_, rfl⟩
        rw [hw3]
        have hk3 : w3.heap[bo]? = some (.cells (Pk.cells ⟨nx, at', el, none, 0, 0⟩) 63 (0, 0)) := by rw [← hw3]; exact set_slot HK2.out 3 _
        have hb3 : Below wr.heap.size wr w3 := by rw [← hw3]; exact HBQ.out.setCell (Nat.le_of_eq hbo.out) _
        have hz3 : w3.heap.size = bo + 1 := by rw [← hw3, ← HZ2.out]; simp [World.setCell]
        obtain ⟨os, hled, hos⟩ := HK.out.led.led
        have hl3 := hled.keep hb3
        obtain ⟨A1, c1, hA1, hR1⟩ := hl3.row
        obtain ⟨n1, hn1⟩ : ∃ n, Hid (os.length = n) := ⟨_, rfl⟩
        have hcs3 := cell_slot hl3.hp hA1
        rw [hn1.out] at hcs3
        have hlow : lo ≤ wr.heap.size := Nat.le_trans HK.out.led.lt.1 (Nat.le_of_lt HK.out.led.lt.2)
        have hb4 : Below w3.heap.size w3 (w3.alloc (.cells #[.pointer (some ⟨bo, 0, none⟩)] 82)) := (Below.refl _ _).alloc (Nat.le_refl _) _
        have hz4 : (w3.alloc (.cells #[.pointer (some ⟨bo, 0, none⟩)] 82)).heap.size = w3.heap.size + 1 := World.size_alloc _ _
        have hd1 : Hid (RowIn (w3.alloc (.cells #[.pointer (some ⟨bo, 0, none⟩)] 82)) lo (w3.alloc (.cells #[.pointer (some ⟨bo, 0, none⟩)] 82)).heap.size A1 c1 os) := hR1.mono (by have := hb3.size; omega) fun b hb _ => hb4.block b (Nat.lt_of_lt_of_le hb hb3.size)
        have hd2 : Hid ((w3.alloc (.cells #[.pointer (some ⟨bo, 0, none⟩)] 82)).heap[bo]? = some (.cells (Pk.cells ⟨nx, at', el, none, 0, 0⟩) 63 (0, 0))) := (hb4.block bo (by omega)).trans hk3
        have hd3 : Hid ((w3.alloc (.cells #[.pointer (some ⟨bo, 0, none⟩)] 82)).cell? ⟨w3.heap.size, 0, none⟩ = some (.pointer (some ⟨bo, 0, none⟩))) := cell_of_one (heap_alloc_new _ _)
        have hd4 : Hid (os.length ≤ 1800000000000) := by have := hl3.len; have := HN.out; have := HNB.out; show _ ≤ _; omega
        have hd5 : Hid (lo ≤ (w3.alloc (.cells #[.pointer (some ⟨bo, 0, none⟩)] 82)).heap.size) := by have := hb3.size; show _ ≤ _; omega
        have hd6 : Hid (lo ≤ bo) := by have := hbo.out; show _ ≤ _; omega
        have HL3 := Lib.hid hl3
        have HLD := Lib.hid hled
        have HB3 := Lib.hid hb3
        have HA1 := Lib.hid hA1
        have HPW : Hid (p < wr.heap.size) := HK.out.led.lt.2
        have hpb : p ≠ bo := by have := HPW.out; have := hbo.out; omega
        have hpz : p ≠ w3.heap.size := by have := HPW.out; have := hb3.size; omega
        have hf3 := hl3.free
        have HZ3 := Lib.hid hz3
        clear hw3 hb3 hled hl3 hA1 hR1 hb4 hk3 hz4 hz3 c3 f3 HBQ HK2
        go_wp2_with (at_builtin; refine wpList_push rfl (.tmp 27) (.tmp 28) rfl (w3.alloc (.cells #[.pointer (some ⟨bo, 0, none⟩)] 82)) lo A1 c1 os n1 hn1.out hd1.out ⟨nx, at', el, none, 0, 0⟩ bo hd6.out hd2.out w3.heap.size hd3.out hd4.out hd5.out rfl rfl ?_)
        intro A5 c5 w5 hr5 hm5
        have hb4 : Below w3.heap.size w3 (w3.alloc (.cells #[.pointer (some ⟨bo, 0, none⟩)] 82)) := (Below.refl _ _).alloc (Nat.le_refl _) _
        have hlow3 : lo ≤ w3.heap.size := by have := HB3.out.size; omega
        have hmv5 : Moved lo p w w5 := (HK.out.mv.trans (Moved.of HB3.out hlow)).trans ((Moved.of hb4 hlow3).trans (hm5.moved p))
        have hp4 := (hb4.block p (by have := HB3.out.size; have := HPW.out; omega)).trans HL3.out.hp
        have hp5 : w5.heap[p]? = some (.cells cur' T (0, 0)) := (hm5.kept p (lt_of_block hp4) (fun row e => by
          rw [hp4] at e
          simp only [Option.some.injEq, Obj.cells.injEq, and_true] at e
          exact HL3.out.hT.1 e.2)).trans hp4
        have hk5 : w5.heap[bo]? = some (.cells (Pk.cells ⟨nx, at', el, none, 0, 0⟩) 63 (0, 0)) := (hm5.kept bo (lt_of_block hd2.out) (fun row e => by
          rw [hd2.out] at e
          simp at e)).trans hd2.out
        have f5 : ∀ j, w5.frozen? ⟨p, j, none⟩ = false := fun j => free_slot hp5
        have hco5 := cell_slot hp5 HA1.out
        have hp6 := set_slot hp5 o (.slice A5 (n1 + 1) c5)
        have hc6 : (w5.setCell ⟨p, o, none⟩ (.slice A5 (n1 + 1) c5)).cell? ⟨p, o + 1, none⟩ = some (.int .i64 (nx : Int)) := cell_slot hp6 ((slot_other (by omega)).trans HL3.out.c1)
        have f6 : ∀ j, (w5.setCell ⟨p, o, none⟩ (.slice A5 (n1 + 1) c5)).frozen? ⟨p, j, none⟩ = false := fun j => free_slot hp6
        have hnI : ((nx + 1 : Nat) : Int) = (nx : Int) + 1 := by omega
        have HL7 := HL3.out.push (k := ⟨nx, at', el, none, 0, 0⟩) hp5 (lt_of_block hp5) (Nat.le_refl _) hr5 rfl (.slice A5 (n1 + 1) c5) (.int .i64 ((nx : Int) + 1)) (by rw [hn1.out]) (by rw [hnI])
        have hmv7 : Moved lo p w ((w5.setCell ⟨p, o, none⟩ (.slice A5 (n1 + 1) c5)).setCell ⟨p, o + 1, none⟩ (.int .i64 ((nx : Int) + 1))) := (hmv5.setP HL3.out.hlo _ _).setP HL3.out.hlo _ _
        have hcs7 := (HK.out.cs.set o (by omega) (.slice A5 (n1 + 1) c5)).set (o + 1) (by omega) (.int .i64 ((nx : Int) + 1))
        have hk7 := (Below.heap_setCell (w5.setCell ⟨p, o, none⟩ (.slice A5 (n1 + 1) c5)) ⟨p, o + 1, none⟩ (.int .i64 ((nx : Int) + 1)) bo (Ne.symm hpb)).trans ((Below.heap_setCell w5 ⟨p, o, none⟩ (.slice A5 (n1 + 1) c5) bo (Ne.symm hpb)).trans hk5)
        have hel7 := cell_of_row _ bo 2 _ _ _ hk7
        have hel5 := cell_of_row w5 bo 2 _ _ _ hk5
        simp only [Pk.cells, List.getElem?_toArray, List.getElem?_cons_zero, List.getElem?_cons_succ] at hel7 hel5
        have hfl7 := HL7.cell.2.2
        have f7 := HL7.free
        have hpf : putF (ks, next) (l.take (j + 1)) = (ks1 ++ [⟨nx, at', el, none, 0, 0⟩], nx + 1) := by
          rw [HST.out]
          exact if_pos rfl
        have HPF := Lib.hid hpf
        have hels : els ks1 ≤ 1800000000000 := by
          have h1 := HLD.out.len
          have h2 : els ks1 ≤ ks1.length := List.countP_le_length
          have h3 : ks1.length ≤ os.length := by rw [← hos]; exact List.length_filterMap_le _ _
          have := HN.out; have := HNB.out
          omega
        have helI : (els ks1 : Int) ≤ 1800000000000 := by omega
        obtain ⟨fq, hfq⟩ : ∃ q, Hid (els ks1 = q) := ⟨_, rfl⟩
        rw [hfq.out] at hfl7 helI HL7
        have houts : outs (os ++ [some (⟨nx, at', el, none, 0, 0⟩ : Pk)]) = ks1 ++ [⟨nx, at', el, none, 0, 0⟩] := by rw [outs_app, hos]; rfl
        have hbop : bo ≠ p := Ne.symm hpb
        cases el with
        | false =>
          have HN' : Hid (∃ cur', PutI w ((w5.setCell ⟨p, o, none⟩ (.slice A5 (n1 + 1) c5)).setCell ⟨p, o + 1, none⟩ (.int .i64 ((nx : Int) + 1))) lo p o T cur (putF (ks, next) (l.take (j + 1))).1 (putF (ks, next) (l.take (j + 1))).2 behind cur') := by
            rw [HPF.out]
            refine ⟨_, ⟨_, ?_, houts⟩, hcs7, hmv7⟩
            rw [els_app, hfq.out]
            exact HL7.more (Nat.le_of_eq (by simp [World.setCell])) (Nat.le_refl _)
          clear HL7 hmv7 hmv5 hcs7 hk7 hk5 hp5 hp4 hp6 hr5 hm5 hpf hnI hels HST hd1 hd2 hd3 hd4 hd5 hd6 HLD HL3 HA1 HPF hb4
          go_wp2_with fail
          refine ⟨⟨j + 1, by go_num, by omega, HN'⟩, ?_⟩
          simp [intOf]; omega
        | true =>
          have HN' : Hid (∃ cur', PutI w (((w5.setCell ⟨p, o, none⟩ (.slice A5 (n1 + 1) c5)).setCell ⟨p, o + 1, none⟩ (.int .i64 ((nx : Int) + 1))).setCell ⟨p, o + 3, none⟩ (.int .i64 ((fq : Int) + 1))) lo p o T cur (putF (ks, next) (l.take (j + 1))).1 (putF (ks, next) (l.take (j + 1))).2 behind cur') := by
            rw [HPF.out]
            refine ⟨_, ⟨_, ?_, houts⟩, hcs7.set (o + 3) (by omega) (.int .i64 ((fq : Int) + 1)), hmv7.setP HL3.out.hlo _ _⟩
            rw [els_app, hfq.out]
            exact (HL7.setFl (fq + 1) (.int .i64 ((fq : Int) + 1)) rfl).more (Nat.le_of_eq (by simp [World.setCell])) (Nat.le_refl _)
          clear HL7 hmv7 hmv5 hcs7 hk7 hk5 hp5 hp4 hp6 hr5 hm5 hpf hnI hels HST hd1 hd2 hd3 hd4 hd5 hd6 HLD HL3 HA1 HPF hb4
          go_wp2_with fail
          refine ⟨⟨j + 1, by go_num, by omega, HN'⟩, ?_⟩
          simp [intOf]; omega
      · have hni : ¬ ((num : Int) = (nx : Int)) := by omega
        have HN' : Hid (∃ cur', PutI w (w1.drewN nq) lo p o T cur (putF (ks, next) (l.take (j + 1))).1 (putF (ks, next) (l.take (j + 1))).2 behind cur') := by
          have e : putF (ks, next) (l.take (j + 1)) = (ks1, nx) := by
            rw [HST.out]
            unfold putStep
            exact if_neg hnum
          rw [e]
          exact ⟨cur', HK.out.keep HBQ.out⟩
        clear HK HST HK1 HB1
        go_wp2_with fail
        refine ⟨⟨j + 1, by go_num, by omega, HN'⟩, ?_⟩
        simp [intOf]; omega
    · have hltI : ¬ (j : Int) < (m : Int) := by omega
      go_wp2_with fail
      go_end0
      obtain rfl : j = m := by omega
      have e : l.take j = l := List.take_of_length_le (by rw [hm.out]; exact Nat.le_refl _)
      rw [e] at hks1 hnx
      rw [hks1.out, hnx.out]
      exact ⟨rfl, cur', HK.out.led, HK.out.cs, HK.out.mv⟩
end Go.Proofs.Ytebfjphmlggacaa.Ld
