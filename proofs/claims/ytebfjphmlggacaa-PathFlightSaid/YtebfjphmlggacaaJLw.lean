/- The ledger's Put of one packet with whatever frames: a contract. Conditions: as each theorem lists them. -/
import Derived.Test.YtebfjphmlggacaaJLi
import Derived.Test.YtebfjphmlggacaaJLv
import Derived.Test.YtebfjphmlggacaaJLj
set_option linter.unusedSimpArgs false
set_option linter.unusedVariables false

namespace Go.Proofs.Ytebfjphmlggacaa.Ld
open Go Go.RowKit Go.Proofs.Ytebfjphmlggacaa Go.Proofs.Ytebfjphmlggacaa.Sp

/-- What Put of one packet leaves: the packet, its frames copied. -/
def Put1P (w : World) (lo p o : Nat) (T : TypeId) (cur : Array Value) (ks : List Pk) (next behind : Nat) (k : Pk) (qs : List Fq) (w' : World) : Prop :=
  ∃ cur' k' qs', k'.num = next ∧ k'.at' = k.at' ∧ k'.el = k.el ∧ k'.fn = k.fn ∧ qs'.length = k.fn ∧ w'.ownsRow w.heap.size 28 9 (.slice k'.fa k'.fn k'.fc) k'.fn (fqs qs') ∧ (∀ (i : Nat) (q q' : Fq), qs[i]? = some q → qs'[i]? = some q' → FqSame q q' ∧ FqOwn w' w.heap.size q') ∧
    Led w' lo p o T cur' (ks ++ [k']) (next + 1) behind ∧ CurSame o cur cur' ∧ Moved lo p w w'

set_option maxRecDepth 100000 in
set_option maxHeartbeats 8000000 in
theorem put1_led (w : World) (lo p o : Nat) (T : TypeId) (cur : Array Value) (ks : List Pk) (nx behind : Nat) (h : Led w lo p o T cur ks nx behind) (at' : Int) (el : Bool) (fa : Option Addr) (fn fc : Nat) (qs : List Fq) (hql : qs.length = fn) (hfx : Rd w w.heap.size fa (fn * 9) (fqs qs)) (hfq : ∀ q ∈ qs, FqOk w q) (hfn : fn ≤ 1048576) (hn : nx < 1800000000000) (A : Option Addr) (c : Nat) (hc : 1 ≤ c)
    (hrd : Rd w w.heap.size A (1 * 4) (pks [⟨nx, at', el, fa, fn, fc⟩])) :
    Calls Try.prog 21 #[.pointer (some ⟨p, o, none⟩), .slice A 1 c] w fun e w' => e = .returned (.tuple #[]) ∧ Put1P w lo p o T cur ks nx behind ⟨nx, at', el, fa, fn, fc⟩ qs w' := by
  have HRD := Lib.hid hrd
  have H := Lib.hid h
  have HQL := Lib.hid hql
  have HFX := Lib.hid hfx
  have HFQ := Lib.hid hfq
  have HFN := Lib.hid hfn
  have HNB := Lib.hid hn
  have hmc : (1 : Int) ≤ (c : Int) := by omega
  have hnbI : (nx : Int) ≤ 1800000000000 := by omega
  clear h hrd hfx hfq hfn hn hql
  go_enter Try.func21, Try.ntmps21
  go_wp2_with fail
  go_loopw [8] (fun i wr => ∃ j : Nat, i = .int .i64 (j : Int) ∧ j ≤ 1 ∧ (j = 0 → w = wr) ∧ (j = 1 → Put1P w lo p o T cur ks nx behind ⟨nx, at', el, fa, fn, fc⟩ qs wr)) (fun i _ => 1 - (intOf i).toNat)
  case atStart => exact ⟨0, rfl, Nat.zero_le _, fun _ => rfl, fun h => by omega⟩
  case round =>
    obtain ⟨j, rfl, hj, hw0, hw1⟩ := hrel
    by_cases hlt : j < 1
    · have hltI : (j : Int) < 1 := by omega
      have HJ : Hid (j = 0) := by show _ = _; omega
      have hwr := hw0 (by omega)
      subst hwr
      obtain ⟨wr, hwr⟩ : ∃ x, w = x := ⟨w, rfl⟩
      subst hwr
      clear hw0 hw1
      have HK : Hid (PutI w w lo p o T cur ks nx behind cur) := ⟨H.out, CurSame.refl _ _, Moved.refl _ _ _⟩
      have hnum0 : (nx : Int) = (nx : Int) := rfl
      obtain ⟨b, off, hA, hb, hcs⟩ := HRD.out.2 (by omega)
      subst hA
      have hg := pks_get [⟨nx, at', el, fa, fn, fc⟩] 0 _ rfl
      have c0 : w.cell? ⟨b, off + j * 4, none⟩ = some (.int .i64 (nx : Int)) := by rw [HJ.out]; exact hcs (0 * 4 + 0) _ (hg 0 (by omega))
      have c1 : w.cell? ⟨b, off + j * 4 + 1, none⟩ = some (.int .i64 at') := by rw [HJ.out]; exact hcs (0 * 4 + 1) _ (hg 1 (by omega))
      have c2 : w.cell? ⟨b, off + j * 4 + 2, none⟩ = some (.bool el) := by rw [HJ.out]; exact hcs (0 * 4 + 2) _ (hg 2 (by omega))
      have c3 : w.cell? ⟨b, off + j * 4 + 3, none⟩ = some (.slice fa fn fc) := by rw [HJ.out]; exact hcs (0 * 4 + 3) _ (hg 3 (by omega))
      have n0 := World.new_ne w _ c0
      have hnxc : w.cell? ⟨p, o + 1, none⟩ = some (.int .i64 (nx : Int)) := by
        obtain ⟨os, h1, h2⟩ := HK.out.led.led
        exact h1.cell.1
      have hpz : p ≠ w.heap.size := by have := HK.out.led.lt.2; omega
      have hpz' : w.heap.size ≠ p := Ne.symm hpz
      clear hcs hg hb
      go_wp2_with fail
      obtain ⟨w1, hw1⟩ : ∃ x, w.alloc (Obj.cells #[Value.int IntKind.i64 (nx : Int), Value.int IntKind.i64 at', Value.bool el, Value.slice fa fn fc] 63) = x := ⟨_, rfl⟩
      rw [hw1]
      have hb1 : Below w.heap.size w w1 := by rw [← hw1]; exact (Below.refl _ _).alloc (Nat.le_refl _) _
      have hz1 : w1.heap.size = w.heap.size + 1 := by rw [← hw1]; exact World.size_alloc _ _
      have hk1 : w1.heap[w.heap.size]? = some (.cells (Pk.cells ⟨nx, at', el, fa, fn, fc⟩) 63 (0, 0)) := by rw [← hw1]; exact heap_alloc_new w _
      obtain ⟨bo, hbo⟩ : ∃ x, Hid (w.heap.size = x) := ⟨_, rfl⟩
      rw [hbo.out] at hk1 hz1 ⊢
      have d0 := cell_of_row w1 bo 0 _ _ _ hk1
      simp only [Pk.cells, List.getElem?_toArray, List.getElem?_cons_zero, List.getElem?_cons_succ] at d0
      have dn : w1.cell? ⟨p, o + 1, none⟩ = some (.int .i64 (nx : Int)) := (hb1.cell (p := ⟨p, o + 1, none⟩) HK.out.led.lt.2).trans hnxc
      have HB1 := Lib.hid hb1
      have HZ1 := Lib.hid hz1
      have HK1 := Lib.hid hk1
      clear hw1 hb1 hz1 hk1 c0 c1 c2 c3 n0 hpz hpz' hnxc
      go_quiet (fail)
      have HBQ : Hid (Below w.heap.size w (w1.drewN nq)) := HB1.out.trans (Below.drewN' _ _ _)
      · obtain ⟨w2, hw2⟩ : ∃ x, w1.drewN nq = x := ⟨_, rfl⟩
        rw [hw2] at HBQ ⊢
        have hk2 : w2.heap[bo]? = some (.cells (Pk.cells ⟨nx, at', el, fa, fn, fc⟩) 63 (0, 0)) := by rw [← hw2]; exact HK1.out
        have hz2 : w2.heap.size = bo + 1 := by rw [← hw2]; exact HZ1.out
        have HZ2 := Lib.hid hz2
        have HK2 := Lib.hid hk2
        have c3 := cell_of_row w2 bo 3 _ _ _ hk2
        have f3 := frozen_of_row w2 bo 3 _ _ hk2
        simp only [Pk.cells, List.getElem?_toArray, List.getElem?_cons_zero, List.getElem?_cons_succ] at c3
        have HCP := Lib.hid (copied_any qs fn fc fa w2 HQL.out ((HFX.out.below HBQ.out (Nat.le_refl _)).more HBQ.out.size) (fun q hq => (HFQ.out q hq).below HBQ.out) HFN.out)
        clear hw2 d0 dn HK1 HZ1 HB1 hk2 hz2
        go_wp2_with fail
        refine (HCP.out).mono ?_
        rintro e wk ⟨A9, c9, qs', rfl, hql9, ho9, hq9, hb9⟩
        have hk9 := (hb9.block bo (lt_of_block HK2.out)).trans HK2.out
        have c39 := cell_of_row wk bo 3 _ _ _ hk9
        have f39 := frozen_of_row wk bo 3 _ _ hk9
        simp only [Pk.cells, List.getElem?_toArray, List.getElem?_cons_zero, List.getElem?_cons_succ] at c39
        have HQ9 := Lib.hid (And.intro hql9 (And.intro ho9 hq9))
        have HK9 := Lib.hid hk9
        have HB9 : Hid (Below w.heap.size w wk) := HBQ.out.trans (hb9.mono HBQ.out.size)
        have HZ9 : Hid (w.heap.size ≤ w2.heap.size) := HBQ.out.size
        clear hql9 ho9 hq9 hb9 hk9 HCP c3 f3
        go_upto_region 5 with (fail)
        obtain ⟨w3, hw3⟩ : ∃ x, wk.setCell ⟨bo, 3, none⟩ (.slice A9 fn c9) = x := ⟨_, rfl⟩
        rw [hw3]
        have hk3 : w3.heap[bo]? = some (.cells (Pk.cells ⟨nx, at', el, A9, fn, c9⟩) 63 (0, 0)) := by rw [← hw3]; exact set_slot HK9.out 3 _
        have hb3 : Below w.heap.size w w3 := by rw [← hw3]; exact HB9.out.setCell (Nat.le_of_eq hbo.out) _
        have hz3 : bo < w3.heap.size := lt_of_block hk3
        have hbs : ∀ (v : Value) (e size n : Nat) (xs : List Value), wk.ownsRow w2.heap.size e size v n xs → e ≠ 63 → w3.ownsRow w.heap.size e size v n xs := fun v e size n xs h he => by
          rw [← hw3]
          refine own_base (ownsRow_setCell_other h ?_ _) HZ9.out
          rcases h.2 with ⟨rfl, _⟩ | ⟨g', cap, cu, rfl, _, hh, _⟩
          · simp [Value.ownBlock]
          · simp only [Value.ownBlock, ne_eq, Option.some.injEq]
            intro e'
            subst e'
            rw [HK9.out] at hh
            simp only [Option.some.injEq, Obj.cells.injEq, and_true] at hh
            exact he hh.2.symm
        have HQ3 : Hid (w3.ownsRow w.heap.size 28 9 (.slice A9 fn c9) fn (fqs qs') ∧ ∀ (i : Nat) (q q' : Fq), qs[i]? = some q → qs'[i]? = some q' → FqSame q q' ∧ FqOwn w3 w.heap.size q') :=
          ⟨hbs _ _ _ _ _ HQ9.out.2.1 (by decide), fun i q q' h1 h2 => by
            have := HQ9.out.2.2 i q q' h1 h2
            exact ⟨this.1, hbs _ _ _ _ _ this.2.1 (by decide), hbs _ _ _ _ _ this.2.2 (by decide)⟩⟩
        have HQL' : Hid (qs'.length = fn) := HQ9.out.1
        clear hbs HQ9 c39 f39 HZ9
        obtain ⟨os, hled, hos⟩ := HK.out.led.led
        have hl3 := hled.keep hb3
        obtain ⟨A1, c1, hA1, hR1⟩ := hl3.row
        obtain ⟨n1, hn1⟩ : ∃ n, Hid (os.length = n) := ⟨_, rfl⟩
        have hcs3 := cell_slot hl3.hp hA1
        rw [hn1.out] at hcs3
        have hlow : lo ≤ w.heap.size := Nat.le_trans HK.out.led.lt.1 (Nat.le_of_lt HK.out.led.lt.2)
        have hb4 : Below w3.heap.size w3 (w3.alloc (.cells #[.pointer (some ⟨bo, 0, none⟩)] 82)) := (Below.refl _ _).alloc (Nat.le_refl _) _
        have hz4 : (w3.alloc (.cells #[.pointer (some ⟨bo, 0, none⟩)] 82)).heap.size = w3.heap.size + 1 := World.size_alloc _ _
        have hd1 : Hid (RowIn (w3.alloc (.cells #[.pointer (some ⟨bo, 0, none⟩)] 82)) lo (w3.alloc (.cells #[.pointer (some ⟨bo, 0, none⟩)] 82)).heap.size A1 c1 os) := hR1.mono (by have := hb3.size; omega) fun b hb _ => hb4.block b (Nat.lt_of_lt_of_le hb hb3.size)
        have hd2 : Hid ((w3.alloc (.cells #[.pointer (some ⟨bo, 0, none⟩)] 82)).heap[bo]? = some (.cells (Pk.cells ⟨nx, at', el, A9, fn, c9⟩) 63 (0, 0))) := (hb4.block bo (by omega)).trans hk3
        have hd3 : Hid ((w3.alloc (.cells #[.pointer (some ⟨bo, 0, none⟩)] 82)).cell? ⟨w3.heap.size, 0, none⟩ = some (.pointer (some ⟨bo, 0, none⟩))) := cell_of_one (heap_alloc_new _ _)
        have hd4 : Hid (os.length ≤ 1800000000000) := by have := hl3.len; have := HNB.out; show _ ≤ _; omega
        have hd5 : Hid (lo ≤ (w3.alloc (.cells #[.pointer (some ⟨bo, 0, none⟩)] 82)).heap.size) := by have := hb3.size; show _ ≤ _; omega
        have hd6 : Hid (lo ≤ bo) := by have := hbo.out; show _ ≤ _; omega
        have HL3 := Lib.hid hl3
        have HLD := Lib.hid hled
        have HB3 := Lib.hid hb3
        have HA1 := Lib.hid hA1
        have HPW : Hid (p < w.heap.size) := HK.out.led.lt.2
        have hpb : p ≠ bo := by have := HPW.out; have := hbo.out; omega
        have hpz : p ≠ w3.heap.size := by have := HPW.out; have := hb3.size; omega
        have hf3 := hl3.free
        have HZ3 := Lib.hid hz3
        clear hw3 hb3 hled hl3 hA1 hR1 hb4 hk3 hz4 hz3 HBQ HK2 HK9 HB9
        go_wp2_with (at_builtin; refine wpList_push rfl (.tmp 27) (.tmp 28) rfl (w3.alloc (.cells #[.pointer (some ⟨bo, 0, none⟩)] 82)) lo A1 c1 os n1 hn1.out hd1.out ⟨nx, at', el, A9, fn, c9⟩ bo hd6.out hd2.out w3.heap.size hd3.out hd4.out hd5.out rfl rfl ?_)
        intro A5 c5 w5 hr5 hm5
        have hb4 : Below w3.heap.size w3 (w3.alloc (.cells #[.pointer (some ⟨bo, 0, none⟩)] 82)) := (Below.refl _ _).alloc (Nat.le_refl _) _
        have hlow3 : lo ≤ w3.heap.size := by have := HB3.out.size; omega
        have hm35 : Moved lo p w3 w5 := (Moved.of hb4 hlow3).trans (hm5.moved p)
        have hmv5 : Moved lo p w w5 := (HK.out.mv.trans (Moved.of HB3.out hlow)).trans ((Moved.of hb4 hlow3).trans (hm5.moved p))
        have hp4 := (hb4.block p (by have := HB3.out.size; have := HPW.out; omega)).trans HL3.out.hp
        have hp5 : w5.heap[p]? = some (.cells cur T (0, 0)) := (hm5.kept p (lt_of_block hp4) (fun row e => by
          rw [hp4] at e
          simp only [Option.some.injEq, Obj.cells.injEq, and_true] at e
          exact HL3.out.hT.1 e.2)).trans hp4
        have hk5 : w5.heap[bo]? = some (.cells (Pk.cells ⟨nx, at', el, A9, fn, c9⟩) 63 (0, 0)) := (hm5.kept bo (lt_of_block hd2.out) (fun row e => by
          rw [hd2.out] at e
          simp at e)).trans hd2.out
        have f5 : ∀ j, w5.frozen? ⟨p, j, none⟩ = false := fun j => free_slot hp5
        have hco5 := cell_slot hp5 HA1.out
        have hp6 := set_slot hp5 o (.slice A5 (n1 + 1) c5)
        have hc6 : (w5.setCell ⟨p, o, none⟩ (.slice A5 (n1 + 1) c5)).cell? ⟨p, o + 1, none⟩ = some (.int .i64 (nx : Int)) := cell_slot hp6 ((slot_other (by omega)).trans HL3.out.c1)
        have f6 : ∀ j, (w5.setCell ⟨p, o, none⟩ (.slice A5 (n1 + 1) c5)).frozen? ⟨p, j, none⟩ = false := fun j => free_slot hp6
        have hnI : ((nx + 1 : Nat) : Int) = (nx : Int) + 1 := by omega
        have HL7 := HL3.out.push (k := ⟨nx, at', el, A9, fn, c9⟩) hp5 (lt_of_block hp5) (Nat.le_refl _) hr5 rfl (.slice A5 (n1 + 1) c5) (.int .i64 ((nx : Int) + 1)) (by rw [hn1.out]) (by rw [hnI])
        have hmv7 : Moved lo p w ((w5.setCell ⟨p, o, none⟩ (.slice A5 (n1 + 1) c5)).setCell ⟨p, o + 1, none⟩ (.int .i64 ((nx : Int) + 1))) := (hmv5.setP HL3.out.hlo _ _).setP HL3.out.hlo _ _
        have hcs7 := (HK.out.cs.set o (by omega) (.slice A5 (n1 + 1) c5)).set (o + 1) (by omega) (.int .i64 ((nx : Int) + 1))
        have hk7 := (Below.heap_setCell (w5.setCell ⟨p, o, none⟩ (.slice A5 (n1 + 1) c5)) ⟨p, o + 1, none⟩ (.int .i64 ((nx : Int) + 1)) bo (Ne.symm hpb)).trans ((Below.heap_setCell w5 ⟨p, o, none⟩ (.slice A5 (n1 + 1) c5) bo (Ne.symm hpb)).trans hk5)
        have hel7 := cell_of_row _ bo 2 _ _ _ hk7
        have hel5 := cell_of_row w5 bo 2 _ _ _ hk5
        simp only [Pk.cells, List.getElem?_toArray, List.getElem?_cons_zero, List.getElem?_cons_succ] at hel7 hel5
        have hfl7 := HL7.cell.2.2
        have f7 := HL7.free
        have hels : els ks ≤ 1800000000000 := by
          have h1 := HLD.out.len
          have h2 : els ks ≤ ks.length := List.countP_le_length
          have h3 : ks.length ≤ os.length := by rw [← hos]; exact List.length_filterMap_le _ _
          have := HNB.out
          omega
        have helI : (els ks : Int) ≤ 1800000000000 := by omega
        obtain ⟨fq, hfq⟩ : ∃ q, Hid (els ks = q) := ⟨_, rfl⟩
        rw [hfq.out] at hfl7 helI HL7
        have houts : outs (os ++ [some (⟨nx, at', el, A9, fn, c9⟩ : Pk)]) = ks ++ [⟨nx, at', el, A9, fn, c9⟩] := by rw [outs_app, hos]; rfl
        have hbop : bo ≠ p := Ne.symm hpb
        cases el with
        | false =>
          have HN' : Hid (Put1P w lo p o T cur ks nx behind ⟨nx, at', false, fa, fn, fc⟩ qs ((w5.setCell ⟨p, o, none⟩ (.slice A5 (n1 + 1) c5)).setCell ⟨p, o + 1, none⟩ (.int .i64 ((nx : Int) + 1)))) := by
            have hmvq : Moved lo p w3 ((w5.setCell ⟨p, o, none⟩ (.slice A5 (n1 + 1) c5)).setCell ⟨p, o + 1, none⟩ (.int .i64 ((nx : Int) + 1))) := (hm35.setP HL3.out.hlo _ _).setP HL3.out.hlo _ _
            refine ⟨_, ⟨nx, at', false, A9, fn, c9⟩, qs', rfl, rfl, rfl, rfl, HQL'.out, own_moved HQ3.out.1 hmvq HPW.out (by decide), fun i q q' h1 h2 => ?_, ⟨_, ?_, houts⟩, hcs7, hmv7⟩
            · have := HQ3.out.2 i q q' h1 h2
              exact ⟨this.1, own_moved this.2.1 hmvq HPW.out (by decide), own_moved this.2.2 hmvq HPW.out (by decide)⟩
            · rw [els_app, hfq.out]
              exact HL7.more (Nat.le_of_eq (by simp [World.setCell])) (Nat.le_refl _)
          clear HL7 hmv7 hmv5 hcs7 hk7 hk5 hp5 hp4 hp6 hr5 hm5  hnI hels  hd1 hd2 hd3 hd4 hd5 hd6 HLD HL3 HA1  hb4
          go_wp2_with fail
          refine ⟨⟨1, by have := HJ.out; subst this; rfl, Nat.le_refl _, fun h => by omega, fun _ => HN'.out⟩, ?_⟩
          simp [intOf]; omega
        | true =>
          have HN' : Hid (Put1P w lo p o T cur ks nx behind ⟨nx, at', true, fa, fn, fc⟩ qs (((w5.setCell ⟨p, o, none⟩ (.slice A5 (n1 + 1) c5)).setCell ⟨p, o + 1, none⟩ (.int .i64 ((nx : Int) + 1))).setCell ⟨p, o + 3, none⟩ (.int .i64 ((fq : Int) + 1)))) := by
            have hmvq : Moved lo p w3 (((w5.setCell ⟨p, o, none⟩ (.slice A5 (n1 + 1) c5)).setCell ⟨p, o + 1, none⟩ (.int .i64 ((nx : Int) + 1))).setCell ⟨p, o + 3, none⟩ (.int .i64 ((fq : Int) + 1))) := ((hm35.setP HL3.out.hlo _ _).setP HL3.out.hlo _ _).setP HL3.out.hlo _ _
            refine ⟨_, ⟨nx, at', true, A9, fn, c9⟩, qs', rfl, rfl, rfl, rfl, HQL'.out, own_moved HQ3.out.1 hmvq HPW.out (by decide), fun i q q' h1 h2 => ?_, ⟨_, ?_, houts⟩, hcs7.set (o + 3) (by omega) (.int .i64 ((fq : Int) + 1)), hmv7.setP HL3.out.hlo _ _⟩
            · have := HQ3.out.2 i q q' h1 h2
              exact ⟨this.1, own_moved this.2.1 hmvq HPW.out (by decide), own_moved this.2.2 hmvq HPW.out (by decide)⟩
            · rw [els_app, hfq.out]
              exact (HL7.setFl (fq + 1) (.int .i64 ((fq : Int) + 1)) rfl).more (Nat.le_of_eq (by simp [World.setCell])) (Nat.le_refl _)
          clear HL7 hmv7 hmv5 hcs7 hk7 hk5 hp5 hp4 hp6 hr5 hm5  hnI hels  hd1 hd2 hd3 hd4 hd5 hd6 HLD HL3 HA1  hb4
          go_wp2_with fail
          refine ⟨⟨1, by have := HJ.out; subst this; rfl, Nat.le_refl _, fun h => by omega, fun _ => HN'.out⟩, ?_⟩
          simp [intOf]; omega
    · have hltI : ¬ (j : Int) < 1 := by omega
      have hF := Lib.hid (hw1 (by omega))
      clear hw0 hw1
      go_wp2_with fail
      go_end0
      exact ⟨rfl, hF.out⟩
end Go.Proofs.Ytebfjphmlggacaa.Ld
