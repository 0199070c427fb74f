/- The ledger's trim; the closure of Lose. Conditions: as each theorem lists them. -/
import Derived.Test.YtebfjphmlggacaaJLb
set_option linter.unusedSimpArgs false
set_option linter.unusedVariables false

namespace Go.Proofs.Ytebfjphmlggacaa.Ld
open Go Go.RowKit Go.Proofs.Ytebfjphmlggacaa Go.Proofs.Ytebfjphmlggacaa.Sp

def lenAt (w : World) (p o : Nat) : Nat := match w.cell? ⟨p, o, none⟩ with | some (.slice _ n _) => n | _ => 0
section
variable {w : World} {lo hi p o : Nat} {T : TypeId} {cur : Array Value} {os : List (Option Pk)} {fl next behind : Nat}

set_option maxHeartbeats 1000000 in
theorem trim_any (h : LedIn w lo hi p o T cur os fl next behind) :
    Calls Try.prog 63 #[.pointer (some ⟨p, o, none⟩)] w fun e w' => e = .returned (.tuple #[]) ∧ ∃ cur' os', LedIn w' lo hi p o T cur' os' fl next behind ∧ os'.filterMap id = os.filterMap id ∧ CurSame o cur cur' ∧ Moved lo p w w' := by
  have H := Lib.hid h
  clear h
  go_enter Try.func63, Try.ntmps63
  go_wp2_with fail
  go_loopw [] (fun wr => ∃ cur' os', Hid (LedIn wr lo hi p o T cur' os' fl next behind ∧ os'.filterMap id = os.filterMap id ∧ CurSame o cur cur' ∧ Moved lo p w wr)) (fun wr => lenAt wr p o)
  case atStart => exact ⟨cur, os, H.out, rfl, CurSame.refl _ _, Moved.refl _ _ _⟩
  case round =>
    obtain ⟨cur', os', HK⟩ := hrel
    obtain ⟨A, c, hA, hR⟩ := HK.out.1.row
    have hc := cell_slot HK.out.1.hp hA
    have HA := Lib.hid hA
    have HR := Lib.hid hR
    clear hA hR
    cases os' with
    | nil =>
      simp only [List.length_nil] at hc
      go_wp2_with fail
      go_end0
      exact ⟨rfl, _, _, HK.out⟩
    | cons u r =>
      simp only [List.length_cons] at hc
      have hl : ((r.length : Int) + 1 > 0) := by omega
      obtain ⟨g, off, row, e, hlo, hg, hrow, hs, hcs⟩ : ∃ g off row, A = some ⟨g, off, none⟩ ∧ lo ≤ g ∧ g < hi ∧ wr.heap[g]? = some (.cells row 82 (0, 0)) ∧ off + c ≤ row.size ∧ ∀ i u', (u :: r)[i]? = some u' → ∃ v, row[off + i]? = some v ∧ PtrOk wr lo hi v u' := by
        rcases HR.out.2.2 with ⟨_, e⟩ | h
        · have := HR.out.1
          simp only [List.length_cons] at this
          omega
        · exact h
      subst e
      obtain ⟨v, hv, hp⟩ := hcs 0 u rfl
      have hcv : wr.cell? ⟨g, off, none⟩ = some v := cell_slot hrow hv
      clear hcs hv
      cases u with
      | none =>
        have hv : v = .pointer none := hp
        subst hv
        clear hp
        have hf := HK.out.1.free o
        have hc1 : r.length + 1 ≤ c := HR.out.1
        have hcI : ((r.length : Int) + 1) ≤ (c : Int) := by omega
        have eT : tailA (some ⟨g, off, none⟩) c 1 = if c = 1 then some ⟨g, off, none⟩ else some ⟨g, off + 1, none⟩ := by unfold tailA; simp [Addr.add_lit]
        have HN := HK.out.1.trim1 HA.out HR.out
        rw [eT] at HN
        have HN := Lib.hid HN
        clear eT
        go_wp2_with fail
        refine ⟨⟨_, r, HN.out, HK.out.2.1, HK.out.2.2.1.set o (by omega) _, HK.out.2.2.2.setP HK.out.1.hlo _ _⟩, ?_⟩
        have h1 : lenAt wr p o = r.length + 1 := by unfold lenAt; rw [hc]
        have h2 := cell_slot HN.out.hp (slot_set HA.out)
        have h3 : ∀ w', w'.cell? ⟨p, o, none⟩ = some (.slice (if c = 1 then some ⟨g, off, none⟩ else some ⟨g, off + 1, none⟩) r.length (c - 1)) → lenAt w' p o = r.length := fun w' h => by unfold lenAt; rw [h]
        rw [h1, h3 _ h2]
        omega
      | some k =>
        obtain ⟨b, e, _⟩ := hp
        subst e
        go_wp2_with fail
        go_end0
        exact ⟨rfl, _, _, HK.out⟩

def oldB (behind : Nat) (n l : Int) (k : Pk) : Bool := decide ((k.num : Int) + 4 ≤ behind) || decide (k.at' ≤ n - l)
set_option maxHeartbeats 1000000 in
theorem clo_any (h : LedIn w lo hi p o T cur os fl next behind) (hn : next ≤ 4611686018427387904) (b b1 b2 b3 : Nat) (k : Pk) (n l : Int) (hk : w.heap[b]? = some (.cells k.cells 63 (0, 0)))
    (h1 : w.cell? ⟨b1, 0, none⟩ = some (.pointer (some ⟨p, o, none⟩))) (h2 : w.cell? ⟨b2, 0, none⟩ = some (.int .i64 n)) (h3 : w.cell? ⟨b3, 0, none⟩ = some (.int .i64 l))
    (ha : -9223372036854775808 ≤ k.at' ∧ k.at' ≤ 9223372036854775807) (hn' : -9223372036854775808 ≤ n ∧ n ≤ 9223372036854775807) (hl' : -9223372036854775808 ≤ l ∧ l ≤ 9223372036854775807) :
    Calls Try.prog 49 #[.pointer (some ⟨b, 0, none⟩), .pointer (some ⟨b1, 0, none⟩), .pointer (some ⟨b2, 0, none⟩), .pointer (some ⟨b3, 0, none⟩)] w fun e w' => e = .returned (.bool (oldB behind n l k)) ∧ Below w.heap.size w w' := by
  have HA : Hid (∀ m, Calls Try.prog 13 #[.pointer (some ⟨p, o, none⟩)] (w.drewN m) fun e w' => e = .returned (.int .i64 ((behind : Int) - 1)) ∧ w' = w.drewN m) := fun m => (acked_any (h.keep (Below.drewN' _ _ _)) hn).mono fun _ _ h => ⟨h.1, h.2.symm⟩
  have HG : Hid (∀ W, Calls Try.prog 50 #[.int .i64 k.at', .int .i64 n, .int .i64 l] W fun e w' => e = .returned (.bool (decide (k.at' ≤ n - l))) ∧ w' = W) := fun W => (aged_any _ _ _ W ha hn' hl').mono fun _ _ h => ⟨h.1, h.2.symm⟩
  have hb : (behind : Int) ≤ 4611686018427387904 := by have := h.beh; omega
  have k0 := cell_of_row w b 0 _ _ _ hk
  have k1 := cell_of_row w b 1 _ _ _ hk
  have H := Lib.hid h
  obtain ⟨num, at', el, fa, fn, fc⟩ := k
  simp only [Pk.cells] at k0 k1 HG
  simp only [List.getElem?_toArray, List.getElem?_cons_zero, List.getElem?_cons_succ] at k0 k1
  clear h hk ha hn' hl' hn
  by_cases hc : (num : Int) ≤ (behind : Int) - 1 - 3
  · have hr : Hid (oldB behind n l ⟨num, at', el, fa, fn, fc⟩ = true) := by show _ = _; simp [oldB]; omega
    rw [hr.out]
    have hd : decide ((num : Int) ≤ (behind : Int) - 1 - 3) = true := decide_eq_true hc
    go_enter Try.func49, Try.ntmps49
    go_wp2_with fail
    go_quiet (first | (go_at_call 13; exact Calls.quiet_of_same (HA.out _)) | (go_at_call 50; exact Calls.quiet_of_same (HG.out _)))
    go_wp2_with fail
    go_ret
    exact ⟨rfl, Below.drewN' _ _ _⟩
  · have hr : Hid (oldB behind n l ⟨num, at', el, fa, fn, fc⟩ = decide (at' ≤ n - l)) := by show _ = _; simp [oldB]; omega
    rw [hr.out]
    have hd : decide ((num : Int) ≤ (behind : Int) - 1 - 3) = false := decide_eq_false hc
    go_enter Try.func49, Try.ntmps49
    go_wp2_with fail
    go_quiet (first | (go_at_call 13; exact Calls.quiet_of_same (HA.out _)) | (go_at_call 50; exact Calls.quiet_of_same (HG.out _)))
    go_wp2_with fail
    go_ret
    exact ⟨rfl, Below.drewN' _ _ _⟩
end
end Go.Proofs.Ytebfjphmlggacaa.Ld
