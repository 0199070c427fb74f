/- FrameKnown: the walk. Conditions: the tables are laid. -/
import Derived.Test.YtkphmgfjlbdpgaaDoorJY0
import Derived.Test.YtkphmgfjlbdpgaaDoorJY1
import Derived.Outline
set_option linter.unusedSimpArgs false
set_option linter.unusedVariables false

namespace Go.Proofs.YtkphmgfjlbdpgaaDoor
open Go Go.RowKit

def l0 : Fr := ⟨2, 0, 0, 0, 0, 0, false, [], [8, 9, 4, 6, 0, 0]⟩
def l1 : Fr := ⟨3, 4, 70, 0, 0, 0, true, [97, 98], []⟩
def l2 : Fr := ⟨4, 1, 9, 2, 9, 0, false, [], []⟩
def l3 : Fr := ⟨5, 1, 0, 2, 0, 0, false, [], []⟩
def l4 : Fr := ⟨6, 0, 0, 64, 0, 0, false, [], []⟩
def l5 : Fr := ⟨7, 3, 0, 1, 0, 0, false, [], []⟩
def l6 : Fr := ⟨8, 0, 0, 7, 0, 0, true, [], []⟩
def l7 : Fr := ⟨9, 0, 0, 0, 0, -9, false, [0], []⟩
def l8 : Fr := ⟨11, 0, 0, 0, 0, 0, false, [], []⟩
def l9 : Fr := ⟨12, 0, 0, 3, 0, 0, false, [], []⟩
def ls : List Fr := [l0, l1, l2, l3, l4, l5, l6, l7, l8, l9]
theorem sps0 : SpsOk [8, 9, 4, 6, 0, 0] 3 := by
  refine ⟨rfl, fun k hk => ?_⟩
  have hc : k = 0 ∨ k = 1 ∨ k = 2 := by omega
  rcases hc with rfl | rfl | rfl <;> decide
theorem l0_ok : OkF l0 := by constructor <;> first | decide | (intros; rfl) | exact .inl ⟨rfl, 3, by decide, by decide, sps0⟩
theorem l1_ok : OkF l1 := by constructor <;> first | decide | (intros; rfl) | exact .inr ⟨by decide, rfl⟩
theorem l2_ok : OkF l2 := by constructor <;> first | decide | (intros; rfl) | exact .inr ⟨by decide, rfl⟩
theorem l3_ok : OkF l3 := by constructor <;> first | decide | (intros; rfl) | exact .inr ⟨by decide, rfl⟩
theorem l4_ok : OkF l4 := by constructor <;> first | decide | (intros; rfl) | exact .inr ⟨by decide, rfl⟩
theorem l5_ok : OkF l5 := by constructor <;> first | decide | (intros; rfl) | exact .inr ⟨by decide, rfl⟩
theorem l6_ok : OkF l6 := by constructor <;> first | decide | (intros; rfl) | exact .inr ⟨by decide, rfl⟩
theorem l7_ok : OkF l7 := by constructor <;> first | decide | (intros; rfl) | exact .inr ⟨by decide, rfl⟩
theorem l8_ok : OkF l8 := by constructor <;> first | decide | (intros; rfl) | exact .inr ⟨by decide, rfl⟩
theorem l9_ok : OkF l9 := by constructor <;> first | decide | (intros; rfl) | exact .inr ⟨by decide, rfl⟩
theorem ls_ok : ∀ f ∈ ls, OkF f := by
  intro f hf
  simp only [ls, List.mem_cons, List.not_mem_nil, or_false] at hf
  rcases hf with rfl | rfl | rfl | rfl | rfl | rfl | rfl | rfl | rfl | rfl
  · exact l0_ok
  · exact l1_ok
  · exact l2_ok
  · exact l3_ok
  · exact l4_ok
  · exact l5_ok
  · exact l6_ok
  · exact l7_ok
  · exact l8_ok
  · exact l9_ok
def wantL : List Nat := [2, 3, 9, 1, 2, 2, 4, 0, 3, 4, 64, 70, 1, 2, 97, 98, 4, 1, 2, 9, 9, 5, 1, 2, 6, 64, 64, 7, 3, 1, 8, 7, 1, 9, 1, 0, 11, 0, 12, 3]
theorem ls_lay : layF ls = wantL := by decide +kernel
theorem ping_right : OkF ping := by
  constructor <;> first | decide | (intros; rfl) | exact .inr ⟨by decide, rfl⟩
def nos : List (List Nat) := [[0], [13], [2, 0], [2, 9, 1], [2, 2, 5, 0, 1], [2, 1, 5, 6], [2, 2, 5, 0, 6, 0], [3, 0, 0, 2, 0], [3, 0, 0, 0, 64, 121], [4, 1, 2, 9, 10], [8, 1, 2], [9, 0]]
theorem nos_no : nos.all (fun bs => (readN bs.length ⟨bs, 0⟩).2.e == 2) = true := by decide +kernel
def shs : List (List Nat) := [[64], [2], [2, 2, 5, 0], [3, 0, 0, 0, 2, 97], [4, 1, 2, 9], [1, 10]]
theorem shs_no : shs.all (fun bs => (readN bs.length ⟨bs, 0⟩).2.e == 3) = true := by decide +kernel

theorem conv_same (w : World) (g n m : Nat) (cur : Array Value) (hh : w.heap[g]? = some (.cells cur 5 (0, 0))) : ∃ w', (convert 24 24 (.slice (some ⟨g, 0, none⟩) n m)).run Tryd.prog w = .ok (.slice (some ⟨g, 0, none⟩) n m) w' ∧ Below g w w' ∧ w'.heap.size = w.heap.size ∧ ∀ j u, cur[j]? = some u → w'.cell? ⟨g, j, none⟩ = some u := by
  have hsh : w.shape? g = some (5, cur.size) := by unfold World.shape?; rw [hh]
  refine ⟨w.freeze ⟨g, cur.size, none⟩ 1, ?_, ⟨rfl, rfl, rfl, by simp [World.freeze], fun j hj => ?_⟩, by simp [World.freeze], fun j u hu => ?_⟩
  · simp [convert, run_underlying Tryd.underlying24, run_underlying Tryd.underlying5, markStringish, hsh]
  · simp [World.freeze, Array.getElem?_modify, show ¬ g = j by omega]
  · simp [World.cell?, World.freeze, Array.getElem?_modify, hh, hu]

set_option maxRecDepth 100000 in
set_option maxHeartbeats 4000000 in
theorem ls_frs (w W1 wL : World) (hs : W1.heap.size = w.heap.size + 2) (hsp : Rd wL wL.heap.size (some ⟨w.heap.size, 0, none⟩) 6 (ints [8, 9, 4, 6, 0, 0])) (hab : Rd wL wL.heap.size (some ⟨w.heap.size + 1, 0, none⟩) 2 (bv [97, 98])) (hzb : Rd wL wL.heap.size (some ⟨W1.heap.size, 0, none⟩) 1 (bv [0]))
    (hh : wL.heap[W1.heap.size + 1]? = some (.cells #[.int .i64 2, .int .i64 0, .int .i64 0, .int .i64 0, .int .i64 0, .int .i64 0, .bool false, .slice none 0 0, .slice (some ⟨w.heap.size, 0, none⟩) 3 3, .int .i64 3, .int .i64 4, .int .i64 70, .int .i64 0, .int .i64 0, .int .i64 0, .bool true, .slice (some ⟨w.heap.size + 1, 0, none⟩) 2 2, .slice none 0 0, .int .i64 4, .int .i64 1, .int .i64 9, .int .i64 2, .int .i64 9, .int .i64 0, .bool false, .slice none 0 0, .slice none 0 0, .int .i64 5, .int .i64 1, .int .i64 0, .int .i64 2, .int .i64 0, .int .i64 0, .bool false, .slice none 0 0, .slice none 0 0, .int .i64 6, .int .i64 0, .int .i64 0, .int .i64 64, .int .i64 0, .int .i64 0, .bool false, .slice none 0 0, .slice none 0 0, .int .i64 7, .int .i64 3, .int .i64 0, .int .i64 1, .int .i64 0, .int .i64 0, .bool false, .slice none 0 0, .slice none 0 0, .int .i64 8, .int .i64 0, .int .i64 0, .int .i64 7, .int .i64 0, .int .i64 0, .bool true, .slice none 0 0, .slice none 0 0, .int .i64 9, .int .i64 0, .int .i64 0, .int .i64 0, .int .i64 0, .int .i64 (-9), .bool false, .slice (some ⟨W1.heap.size, 0, none⟩) 1 1, .slice none 0 0, .int .i64 11, .int .i64 0, .int .i64 0, .int .i64 0, .int .i64 0, .int .i64 0, .bool false, .slice none 0 0, .slice none 0 0, .int .i64 12, .int .i64 0, .int .i64 0, .int .i64 3, .int .i64 0, .int .i64 0, .bool false, .slice none 0 0, .slice none 0 0] 26 (0, 0))) : Rx.Frs wL (some ⟨W1.heap.size + 1, 0, none⟩) 10 10 ls := by
  have hlt := (Array.getElem?_eq_some_iff.1 hh).1
  have hc : ∀ j, wL.cell? ⟨W1.heap.size + 1, j, none⟩ = (#[.int .i64 2, .int .i64 0, .int .i64 0, .int .i64 0, .int .i64 0, .int .i64 0, .bool false, .slice none 0 0, .slice (some ⟨w.heap.size, 0, none⟩) 3 3, .int .i64 3, .int .i64 4, .int .i64 70, .int .i64 0, .int .i64 0, .int .i64 0, .bool true, .slice (some ⟨w.heap.size + 1, 0, none⟩) 2 2, .slice none 0 0, .int .i64 4, .int .i64 1, .int .i64 9, .int .i64 2, .int .i64 9, .int .i64 0, .bool false, .slice none 0 0, .slice none 0 0, .int .i64 5, .int .i64 1, .int .i64 0, .int .i64 2, .int .i64 0, .int .i64 0, .bool false, .slice none 0 0, .slice none 0 0, .int .i64 6, .int .i64 0, .int .i64 0, .int .i64 64, .int .i64 0, .int .i64 0, .bool false, .slice none 0 0, .slice none 0 0, .int .i64 7, .int .i64 3, .int .i64 0, .int .i64 1, .int .i64 0, .int .i64 0, .bool false, .slice none 0 0, .slice none 0 0, .int .i64 8, .int .i64 0, .int .i64 0, .int .i64 7, .int .i64 0, .int .i64 0, .bool true, .slice none 0 0, .slice none 0 0, .int .i64 9, .int .i64 0, .int .i64 0, .int .i64 0, .int .i64 0, .int .i64 (-9), .bool false, .slice (some ⟨W1.heap.size, 0, none⟩) 1 1, .slice none 0 0, .int .i64 11, .int .i64 0, .int .i64 0, .int .i64 0, .int .i64 0, .int .i64 0, .bool false, .slice none 0 0, .slice none 0 0, .int .i64 12, .int .i64 0, .int .i64 0, .int .i64 3, .int .i64 0, .int .i64 0, .bool false, .slice none 0 0, .slice none 0 0] : Array Value)[j]? := fun j => Am.cell_of wL _ j _ _ (0, 0) hh
  refine ⟨rfl, Nat.le_refl _, fun k hk => ?_⟩
  have hk10 : k = 0 ∨ k = 1 ∨ k = 2 ∨ k = 3 ∨ k = 4 ∨ k = 5 ∨ k = 6 ∨ k = 7 ∨ k = 8 ∨ k = 9 := by omega
  have nine : ∀ (l : List Value) (j : Nat) (u : Value), l.length = 9 → l[j]? = some u → j = 0 ∨ j = 1 ∨ j = 2 ∨ j = 3 ∨ j = 4 ∨ j = 5 ∨ j = 6 ∨ j = 7 ∨ j = 8 := fun l j u hl hu => by
    have := (List.getElem?_eq_some_iff.1 hu).1
    omega
  rcases hk10 with rfl | rfl | rfl | rfl | rfl | rfl | rfl | rfl | rfl | rfl
  · refine ⟨_, 0, l0, none, 0, 0, some ⟨w.heap.size, 0, none⟩, 3, 3, rfl, hlt, rfl, ⟨_, _, _, _, _, _, rfl, ⟨rfl, by decide, Rd.nil _ _ _, rfl, by decide, hsp⟩⟩, fun j u hu => ?_⟩
    rw [hc]
    rcases nine _ j u rfl hu with rfl | rfl | rfl | rfl | rfl | rfl | rfl | rfl | rfl <;> exact hu
  · refine ⟨_, 0, l1, some ⟨w.heap.size + 1, 0, none⟩, 2, 2, none, 0, 0, rfl, hlt, rfl, ⟨_, _, _, _, _, _, rfl, ⟨rfl, by decide, hab, rfl, by decide, Rd.nil _ _ _⟩⟩, fun j u hu => ?_⟩
    rw [hc]
    rcases nine _ j u rfl hu with rfl | rfl | rfl | rfl | rfl | rfl | rfl | rfl | rfl <;> exact hu
  · refine ⟨_, 0, l2, none, 0, 0, none, 0, 0, rfl, hlt, rfl, ⟨_, _, _, _, _, _, rfl, ⟨rfl, by decide, Rd.nil _ _ _, rfl, by decide, Rd.nil _ _ _⟩⟩, fun j u hu => ?_⟩
    rw [hc]
    rcases nine _ j u rfl hu with rfl | rfl | rfl | rfl | rfl | rfl | rfl | rfl | rfl <;> exact hu
  · refine ⟨_, 0, l3, none, 0, 0, none, 0, 0, rfl, hlt, rfl, ⟨_, _, _, _, _, _, rfl, ⟨rfl, by decide, Rd.nil _ _ _, rfl, by decide, Rd.nil _ _ _⟩⟩, fun j u hu => ?_⟩
    rw [hc]
    rcases nine _ j u rfl hu with rfl | rfl | rfl | rfl | rfl | rfl | rfl | rfl | rfl <;> exact hu
  · refine ⟨_, 0, l4, none, 0, 0, none, 0, 0, rfl, hlt, rfl, ⟨_, _, _, _, _, _, rfl, ⟨rfl, by decide, Rd.nil _ _ _, rfl, by decide, Rd.nil _ _ _⟩⟩, fun j u hu => ?_⟩
    rw [hc]
    rcases nine _ j u rfl hu with rfl | rfl | rfl | rfl | rfl | rfl | rfl | rfl | rfl <;> exact hu
  · refine ⟨_, 0, l5, none, 0, 0, none, 0, 0, rfl, hlt, rfl, ⟨_, _, _, _, _, _, rfl, ⟨rfl, by decide, Rd.nil _ _ _, rfl, by decide, Rd.nil _ _ _⟩⟩, fun j u hu => ?_⟩
    rw [hc]
    rcases nine _ j u rfl hu with rfl | rfl | rfl | rfl | rfl | rfl | rfl | rfl | rfl <;> exact hu
  · refine ⟨_, 0, l6, none, 0, 0, none, 0, 0, rfl, hlt, rfl, ⟨_, _, _, _, _, _, rfl, ⟨rfl, by decide, Rd.nil _ _ _, rfl, by decide, Rd.nil _ _ _⟩⟩, fun j u hu => ?_⟩
    rw [hc]
    rcases nine _ j u rfl hu with rfl | rfl | rfl | rfl | rfl | rfl | rfl | rfl | rfl <;> exact hu
  · refine ⟨_, 0, l7, some ⟨W1.heap.size, 0, none⟩, 1, 1, none, 0, 0, rfl, hlt, rfl, ⟨_, _, _, _, _, _, rfl, ⟨rfl, by decide, hzb, rfl, by decide, Rd.nil _ _ _⟩⟩, fun j u hu => ?_⟩
    rw [hc]
    rcases nine _ j u rfl hu with rfl | rfl | rfl | rfl | rfl | rfl | rfl | rfl | rfl <;> exact hu
  · refine ⟨_, 0, l8, none, 0, 0, none, 0, 0, rfl, hlt, rfl, ⟨_, _, _, _, _, _, rfl, ⟨rfl, by decide, Rd.nil _ _ _, rfl, by decide, Rd.nil _ _ _⟩⟩, fun j u hu => ?_⟩
    rw [hc]
    rcases nine _ j u rfl hu with rfl | rfl | rfl | rfl | rfl | rfl | rfl | rfl | rfl <;> exact hu
  · refine ⟨_, 0, l9, none, 0, 0, none, 0, 0, rfl, hlt, rfl, ⟨_, _, _, _, _, _, rfl, ⟨rfl, by decide, Rd.nil _ _ _, rfl, by decide, Rd.nil _ _ _⟩⟩, fun j u hu => ?_⟩
    rw [hc]
    rcases nine _ j u rfl hu with rfl | rfl | rfl | rfl | rfl | rfl | rfl | rfl | rfl <;> exact hu

set_option maxRecDepth 100000 in
set_option maxHeartbeats 8000000 in
theorem fknown_walk (w : World) (hL : laidMetH Tryd.prog laids w) :
    Calls Tryd.prog 3 #[] w fun e w' => e = .returned (.bool true) ∧ Below w.heap.size w w' := by
  have HLd := Lib.hid hL
  clear hL
  obtain ⟨W1, hcv, hb1, hs1, hc1⟩ := conv_same ((w.alloc (.cells #[.int .i64 8, .int .i64 9, .int .i64 4, .int .i64 6, .int .i64 0, .int .i64 0] 22)).alloc (.cells #[.int .u8 97, .int .u8 98] 5)) (w.heap.size + 1) 2 2 #[.int .u8 97, .int .u8 98] (by
    have := heap_alloc_new (w.alloc (.cells #[.int .i64 8, .int .i64 9, .int .i64 4, .int .i64 6, .int .i64 0, .int .i64 0] 22)) (.cells #[.int .u8 97, .int .u8 98] 5)
    simpa using this)
  have HS1 : Hid (W1.heap.size = w.heap.size + 2) := by show _ = _; rw [hs1]; simp
  have HB1 : Hid (Below w.heap.size w W1) := (((Below.refl _ _).alloc (Nat.le_refl _) _).alloc (by simp) _).trans (hb1.mono (by omega))
  have HSP : Hid (W1.heap[w.heap.size]? = some (.cells #[.int .i64 8, .int .i64 9, .int .i64 4, .int .i64 6, .int .i64 0, .int .i64 0] 22 (0, 0))) := by
    show _ = _
    rw [hb1.block w.heap.size (by omega), ((Below.refl (w.heap.size + 1) (w.alloc (.cells #[.int .i64 8, .int .i64 9, .int .i64 4, .int .i64 6, .int .i64 0, .int .i64 0] 22))).alloc (by simp) _).block w.heap.size (by omega)]
    exact heap_alloc_new _ _
  have HAB := Lib.hid hc1
  clear hb1 hs1 hc1
  go_enter Tryd.func3, Tryd.ntmps3
  go_wp2_with fail
  obtain ⟨wL, hwL⟩ : ∃ x, (W1.alloc (.cells #[.int .u8 0] 5)).alloc (.cells #[.int .i64 2, .int .i64 0, .int .i64 0, .int .i64 0, .int .i64 0, .int .i64 0, .bool false, .slice none 0 0, .slice (some ⟨w.heap.size, 0, none⟩) 3 3, .int .i64 3, .int .i64 4, .int .i64 70, .int .i64 0, .int .i64 0, .int .i64 0, .bool true, .slice (some ⟨w.heap.size + 1, 0, none⟩) 2 2, .slice none 0 0, .int .i64 4, .int .i64 1, .int .i64 9, .int .i64 2, .int .i64 9, .int .i64 0, .bool false, .slice none 0 0, .slice none 0 0, .int .i64 5, .int .i64 1, .int .i64 0, .int .i64 2, .int .i64 0, .int .i64 0, .bool false, .slice none 0 0, .slice none 0 0, .int .i64 6, .int .i64 0, .int .i64 0, .int .i64 64, .int .i64 0, .int .i64 0, .bool false, .slice none 0 0, .slice none 0 0, .int .i64 7, .int .i64 3, .int .i64 0, .int .i64 1, .int .i64 0, .int .i64 0, .bool false, .slice none 0 0, .slice none 0 0, .int .i64 8, .int .i64 0, .int .i64 0, .int .i64 7, .int .i64 0, .int .i64 0, .bool true, .slice none 0 0, .slice none 0 0, .int .i64 9, .int .i64 0, .int .i64 0, .int .i64 0, .int .i64 0, .int .i64 (-9), .bool false, .slice (some ⟨W1.heap.size, 0, none⟩) 1 1, .slice none 0 0, .int .i64 11, .int .i64 0, .int .i64 0, .int .i64 0, .int .i64 0, .int .i64 0, .bool false, .slice none 0 0, .slice none 0 0, .int .i64 12, .int .i64 0, .int .i64 0, .int .i64 3, .int .i64 0, .int .i64 0, .bool false, .slice none 0 0, .slice none 0 0] 26) = x := ⟨_, rfl⟩
  have hh : wL.heap[W1.heap.size + 1]? = some (.cells #[.int .i64 2, .int .i64 0, .int .i64 0, .int .i64 0, .int .i64 0, .int .i64 0, .bool false, .slice none 0 0, .slice (some ⟨w.heap.size, 0, none⟩) 3 3, .int .i64 3, .int .i64 4, .int .i64 70, .int .i64 0, .int .i64 0, .int .i64 0, .bool true, .slice (some ⟨w.heap.size + 1, 0, none⟩) 2 2, .slice none 0 0, .int .i64 4, .int .i64 1, .int .i64 9, .int .i64 2, .int .i64 9, .int .i64 0, .bool false, .slice none 0 0, .slice none 0 0, .int .i64 5, .int .i64 1, .int .i64 0, .int .i64 2, .int .i64 0, .int .i64 0, .bool false, .slice none 0 0, .slice none 0 0, .int .i64 6, .int .i64 0, .int .i64 0, .int .i64 64, .int .i64 0, .int .i64 0, .bool false, .slice none 0 0, .slice none 0 0, .int .i64 7, .int .i64 3, .int .i64 0, .int .i64 1, .int .i64 0, .int .i64 0, .bool false, .slice none 0 0, .slice none 0 0, .int .i64 8, .int .i64 0, .int .i64 0, .int .i64 7, .int .i64 0, .int .i64 0, .bool true, .slice none 0 0, .slice none 0 0, .int .i64 9, .int .i64 0, .int .i64 0, .int .i64 0, .int .i64 0, .int .i64 (-9), .bool false, .slice (some ⟨W1.heap.size, 0, none⟩) 1 1, .slice none 0 0, .int .i64 11, .int .i64 0, .int .i64 0, .int .i64 0, .int .i64 0, .int .i64 0, .bool false, .slice none 0 0, .slice none 0 0, .int .i64 12, .int .i64 0, .int .i64 0, .int .i64 3, .int .i64 0, .int .i64 0, .bool false, .slice none 0 0, .slice none 0 0] 26 (0, 0)) := by
    rw [← hwL]
    have := heap_alloc_new (W1.alloc (.cells #[.int .u8 0] 5)) (.cells #[.int .i64 2, .int .i64 0, .int .i64 0, .int .i64 0, .int .i64 0, .int .i64 0, .bool false, .slice none 0 0, .slice (some ⟨w.heap.size, 0, none⟩) 3 3, .int .i64 3, .int .i64 4, .int .i64 70, .int .i64 0, .int .i64 0, .int .i64 0, .bool true, .slice (some ⟨w.heap.size + 1, 0, none⟩) 2 2, .slice none 0 0, .int .i64 4, .int .i64 1, .int .i64 9, .int .i64 2, .int .i64 9, .int .i64 0, .bool false, .slice none 0 0, .slice none 0 0, .int .i64 5, .int .i64 1, .int .i64 0, .int .i64 2, .int .i64 0, .int .i64 0, .bool false, .slice none 0 0, .slice none 0 0, .int .i64 6, .int .i64 0, .int .i64 0, .int .i64 64, .int .i64 0, .int .i64 0, .bool false, .slice none 0 0, .slice none 0 0, .int .i64 7, .int .i64 3, .int .i64 0, .int .i64 1, .int .i64 0, .int .i64 0, .bool false, .slice none 0 0, .slice none 0 0, .int .i64 8, .int .i64 0, .int .i64 0, .int .i64 7, .int .i64 0, .int .i64 0, .bool true, .slice none 0 0, .slice none 0 0, .int .i64 9, .int .i64 0, .int .i64 0, .int .i64 0, .int .i64 0, .int .i64 (-9), .bool false, .slice (some ⟨W1.heap.size, 0, none⟩) 1 1, .slice none 0 0, .int .i64 11, .int .i64 0, .int .i64 0, .int .i64 0, .int .i64 0, .int .i64 0, .bool false, .slice none 0 0, .slice none 0 0, .int .i64 12, .int .i64 0, .int .i64 0, .int .i64 3, .int .i64 0, .int .i64 0, .bool false, .slice none 0 0, .slice none 0 0] 26)
    simpa using this
  have HWL : Hid (Below W1.heap.size W1 wL) := by rw [← hwL]; exact ((Below.refl _ _).alloc (Nat.le_refl _) _).alloc (by simp) _
  have hlL : W1.heap.size + 2 = wL.heap.size := by rw [← hwL]; simp
  have hsp : Rd wL wL.heap.size (some ⟨w.heap.size, 0, none⟩) 6 (ints [8, 9, 4, 6, 0, 0]) := rd_block wL _ #[.int .i64 8, .int .i64 9, .int .i64 4, .int .i64 6, .int .i64 0, .int .i64 0] 22 _ ((HWL.out.block _ (by have := HS1.out; omega)).trans HSP.out) (Nat.le_refl _)
  have hab : Rd wL wL.heap.size (some ⟨w.heap.size + 1, 0, none⟩) 2 (bv [97, 98]) := ⟨rfl, fun _ => ⟨_, 0, rfl, by have := HS1.out; omega, fun j u hu => by
    rw [Nat.zero_add, HWL.out.cell (p := ⟨w.heap.size + 1, j, none⟩) (by have := HS1.out; show w.heap.size + 1 < _; omega)]
    exact HAB.out j u (by simpa [bv] using hu)⟩⟩
  have hzb : Rd wL wL.heap.size (some ⟨W1.heap.size, 0, none⟩) 1 (bv [0]) := rd_block wL _ #[.int .u8 0] 5 _ (by
    rw [← hwL, ((Below.refl (W1.heap.size + 1) (W1.alloc (.cells #[.int .u8 0] 5))).alloc (by simp) _).block W1.heap.size (by omega)]
    exact heap_alloc_new _ _) (Nat.le_refl _)
  have HFR : Hid (∀ W, Below wL.heap.size wL W → Rx.Frs W (some ⟨W1.heap.size + 1, 0, none⟩) 10 10 ls) := fun W hW => (ls_frs w W1 wL HS1.out hsp hab hzb hh).below hW
  have HSPW : Hid (∀ W, Below wL.heap.size wL W → Rd W W.heap.size (some ⟨w.heap.size, 0, none⟩) 6 (ints [8, 9, 4, 6, 0, 0])) := fun W hW => (hsp.below hW (Nat.le_refl _)).more hW.size
  have HC : Hid (∀ W, Below wL.heap.size wL W → (W.cell? ⟨W1.heap.size + 1, 0, none⟩ = some (.int .i64 2) ∧ W.cell? ⟨W1.heap.size + 1, 1, none⟩ = some (.int .i64 0) ∧ W.cell? ⟨W1.heap.size + 1, 2, none⟩ = some (.int .i64 0) ∧ W.cell? ⟨W1.heap.size + 1, 3, none⟩ = some (.int .i64 0) ∧ W.cell? ⟨W1.heap.size + 1, 4, none⟩ = some (.int .i64 0) ∧ W.cell? ⟨W1.heap.size + 1, 5, none⟩ = some (.int .i64 0) ∧ W.cell? ⟨W1.heap.size + 1, 6, none⟩ = some (.bool false) ∧ W.cell? ⟨W1.heap.size + 1, 7, none⟩ = some (.slice none 0 0) ∧ W.cell? ⟨W1.heap.size + 1, 8, none⟩ = some (.slice (some ⟨w.heap.size, 0, none⟩) 3 3)) ∧ (W.cell? ⟨W1.heap.size + 1, 81, none⟩ = some (.int .i64 12) ∧ W.cell? ⟨W1.heap.size + 1, 82, none⟩ = some (.int .i64 0) ∧ W.cell? ⟨W1.heap.size + 1, 83, none⟩ = some (.int .i64 0) ∧ W.cell? ⟨W1.heap.size + 1, 84, none⟩ = some (.int .i64 3) ∧ W.cell? ⟨W1.heap.size + 1, 85, none⟩ = some (.int .i64 0) ∧ W.cell? ⟨W1.heap.size + 1, 86, none⟩ = some (.int .i64 0) ∧ W.cell? ⟨W1.heap.size + 1, 87, none⟩ = some (.bool false) ∧ W.cell? ⟨W1.heap.size + 1, 88, none⟩ = some (.slice none 0 0) ∧ W.cell? ⟨W1.heap.size + 1, 89, none⟩ = some (.slice none 0 0))) := fun W hW => by
    have hh2 := (hW.block _ (Array.getElem?_eq_some_iff.1 hh).1).trans hh
    exact ⟨⟨cell_of_row W _ 0 _ _ _ hh2, cell_of_row W _ 1 _ _ _ hh2, cell_of_row W _ 2 _ _ _ hh2, cell_of_row W _ 3 _ _ _ hh2, cell_of_row W _ 4 _ _ _ hh2, cell_of_row W _ 5 _ _ _ hh2, cell_of_row W _ 6 _ _ _ hh2, cell_of_row W _ 7 _ _ _ hh2, cell_of_row W _ 8 _ _ _ hh2⟩, ⟨cell_of_row W _ 81 _ _ _ hh2, cell_of_row W _ 82 _ _ _ hh2, cell_of_row W _ 83 _ _ _ hh2, cell_of_row W _ 84 _ _ _ hh2, cell_of_row W _ 85 _ _ _ hh2, cell_of_row W _ 86 _ _ _ hh2, cell_of_row W _ 87 _ _ _ hh2, cell_of_row W _ 88 _ _ _ hh2, cell_of_row W _ 89 _ _ _ hh2⟩⟩
  have HWT : Hid (Below w.heap.size w wL) := HB1.out.trans (HWL.out.mono (by have := HS1.out; omega))
  have HTB : Hid (∀ W, Below wL.heap.size wL W → Tabs W) := fun W hW => tabs_of HLd.out (HWT.out.trans (hW.mono HWT.out.size))
  have HKN : Hid (∀ W, Below wL.heap.size wL W → Calls Tryd.prog 14 #[] W fun e w' => e = .returned (.bool true) ∧ Below W.heap.size W w') := fun W hW => known_any HLd.out (HWT.out.trans (hW.mono HWT.out.size))
  rw [hwL]
  clear hcv hwL hsp hab hzb hh hlL HSP HAB
  have HLA := Lib.hid (Rx.lay_ok ls _ 10 10 wL (HTB.out wL (Below.refl _ _)) (HFR.out wL (Below.refl _ _)) ls_ok (by omega))
  refine HLA.out.mono ?_
  rintro e w1 ⟨Ao, no, co, rfl, hlo, hoo, hb⟩
  rw [ls_lay] at hlo hoo
  have hno : no = 40 := hlo.symm
  subst hno
  have H1 : Hid (Below wL.heap.size wL w1) := hb
  have HOW : Hid (∀ W, Below w1.heap.size w1 W → Rd W W.heap.size Ao 40 (bv wantL)) := fun W hW => by
    obtain ⟨_, _, ev, hnc, _, _, hrd⟩ := own_form hoo
    simp only [Value.slice.injEq] at ev
    obtain ⟨rfl, _, rfl⟩ := ev
    rw [Nat.mul_one] at hrd
    exact (hrd.below hW (Nat.le_refl _)).more hW.size
  have hco : 40 ≤ co := by
    obtain ⟨_, _, ev, hnc, _⟩ := own_form hoo
    simp only [Value.slice.injEq] at ev
    omega
  have HRE : Hid (Calls Tryd.prog 13 #[.slice Ao 40 co] w1 fun e w' => ∃ Ag cg, e = .returned (.tuple #[.slice Ag 10 cg, .int .i64 0]) ∧ FrsOwn w' w1.heap.size (.slice Ag 10 cg) (ls.map bare) ∧ Below w1.heap.size w1 w') := by
    have := read_ok wantL Ao co w1 (HOW.out w1 (Below.refl _ _)) (by decide) hco (by decide)
    rw [← ls_lay, read_enc ls _ ls_ok (Nat.le_refl _), ls_lay] at this
    refine this.mono ?_
    rintro e w' ⟨h1, _, h3⟩
    obtain ⟨Ag, cg, he, ho⟩ := h1 rfl
    exact ⟨Ag, cg, he, ho, h3⟩
  clear hlo hoo hb HLA
  go_wp2_with fail
  refine HRE.out.mono ?_
  rintro e w2 ⟨Ag, cg, rfl, hog, hb⟩
  have HOG := Lib.hid (Rx.of_frs (hog.frs (n := 10) rfl))
  have H12 : Hid (Below w1.heap.size w1 w2) := hb
  have H2 : Hid (Below wL.heap.size wL w2) := H1.out.trans (hb.mono H1.out.size)
  clear hog hb HRE
  go_wp2_with fail
  refine (HKN.out _ H2.out).mono ?_
  rintro e w3 ⟨rfl, hb⟩
  have H3 : Hid (Below wL.heap.size wL w3) := H2.out.trans (hb.mono H2.out.size)
  have HOG3 : Hid (Rx.Frs w3 Ag 10 cg (ls.map bare)) := HOG.out.below hb
  have C1 : (convert 24 9 (.slice Ao 40 co)).run Tryd.prog w3 = .ok (.string ⟨#[2, 3, 9, 1, 2, 2, 4, 0, 3, 4, 64, 70, 1, 2, 97, 98, 4, 1, 2, 9, 9, 5, 1, 2, 6, 64, 64, 7, 3, 1, 8, 7, 1, 9, 1, 0, 11, 0, 12, 3]⟩) w3 := conv_run (P := Tryd.prog) w3 24 9 5 Tryd.underlying24 Tryd.underlying5 Tryd.underlying9 _ _ _ _ wantL (HOW.out w3 (H12.out.trans (hb.mono H12.out.size)))
  have HSA := Lib.hid (Rx.same_ok ls (ls.map bare) (by rw [List.map_map]; rfl) _ Ag 10 10 cg w3 (HFR.out w3 H3.out) HOG3.out (by omega) (by decide))
  clear hb
  go_wp2_with fail
  refine HSA.out.mono ?_
  rintro e w4 ⟨rfl, hb⟩
  have H4 : Hid (Below wL.heap.size wL w4) := H3.out.trans (hb.mono H3.out.size)
  clear hb HSA C1
  obtain ⟨⟨p0, p1, p2, p3, p4, p5, p6, p7, p8⟩, _⟩ := HC.out w4 H4.out
  have HSZ := size_ok_f l0 none 0 0 (some ⟨w.heap.size, 0, none⟩) 3 3 w4 ⟨rfl, Nat.le_refl _, Rd.nil _ _ _, rfl, Nat.le_refl _, HSPW.out w4 H4.out⟩ l0_ok
  rw [show (((encF l0).length : Nat) : Int) = 8 by decide] at HSZ
  have HSZ := Lib.hid HSZ
  go_wp2_with fail
  refine HSZ.out.mono ?_
  rintro e w5 ⟨rfl, hb⟩
  have H5 : Hid (Below wL.heap.size wL w5) := H4.out.trans (hb.mono H4.out.size)
  clear hb HSZ p0 p1 p2 p3 p4 p5 p6 p7 p8
  go_wp2_with fail
  go_loopw [79] (fun i wr => ∃ k : Nat, k ≤ 12 ∧ i = .int .i64 k ∧ Hid (Below wL.heap.size wL wr)) (fun i _ => 12 - (intOf i).toNat)
  case atStart => exact ⟨0, Nat.zero_le _, rfl, H5⟩
  case round =>
    obtain ⟨k, hk, rfl, HK⟩ := hrel
    by_cases hlt : k < 12
    · have hcase : k = 0 ∨ k = 1 ∨ k = 2 ∨ k = 3 ∨ k = 4 ∨ k = 5 ∨ k = 6 ∨ k = 7 ∨ k = 8 ∨ k = 9 ∨ k = 10 ∨ k = 11 := by omega
      clear hk hlt
      rcases hcase with rfl | rfl | rfl | rfl | rfl | rfl | rfl | rfl | rfl | rfl | rfl | rfl
      · obtain ⟨cc, wc, hcv0, hcc, hcb, hrd⟩ := conv_str wr [0] (by decide)
        have hcv : (convert 9 24 (.string ⟨#[0]⟩)).run Tryd.prog wr = .ok (.slice (some ⟨wr.heap.size, 0, none⟩) 1 cc) wc := hcv0
        have HRN := Lib.hid (read_no [0] (some ⟨wr.heap.size, 0, none⟩) cc wc 2 hrd (by decide) hcc (by decide) (by decide) (by decide +kernel))
        have HKC : Hid (Below wL.heap.size wL wc) := HK.out.trans (hcb.mono HK.out.size)
        have hix : ∀ W, (Instr.index 36 (.agg #[.string ⟨#[0]⟩, .string ⟨#[13]⟩, .string ⟨#[2, 0]⟩, .string ⟨#[2, 9, 1]⟩, .string ⟨#[2, 2, 5, 0, 1]⟩, .string ⟨#[2, 1, 5, 6]⟩, .string ⟨#[2, 2, 5, 0, 6, 0]⟩, .string ⟨#[3, 0, 0, 2, 0]⟩, .string ⟨#[3, 0, 0, 0, 64, 121]⟩, .string ⟨#[4, 1, 2, 9, 10]⟩, .string ⟨#[8, 1, 2]⟩, .string ⟨#[9, 0]⟩]) (.int .i64 0)).run Tryd.prog W = .ok (.string ⟨#[0]⟩) W := fun _ => by kernel_rfl
        clear hcv0 hcc hcb hrd
        go_wp2_with fail
        refine HRN.out.mono ?_
        rintro e wd ⟨rfl, hb⟩
        have HN : Hid (Below wL.heap.size wL wd) := HKC.out.trans (hb.mono HKC.out.size)
        clear hb hcv hix
        go_wp2_with fail
        go_roundw
        case rel => exact ⟨1, by omega, rfl, HN⟩
        case measure => simp [intOf]
      · obtain ⟨cc, wc, hcv0, hcc, hcb, hrd⟩ := conv_str wr [13] (by decide)
        have hcv : (convert 9 24 (.string ⟨#[13]⟩)).run Tryd.prog wr = .ok (.slice (some ⟨wr.heap.size, 0, none⟩) 1 cc) wc := hcv0
        have HRN := Lib.hid (read_no [13] (some ⟨wr.heap.size, 0, none⟩) cc wc 2 hrd (by decide) hcc (by decide) (by decide) (by decide +kernel))
        have HKC : Hid (Below wL.heap.size wL wc) := HK.out.trans (hcb.mono HK.out.size)
        have hix : ∀ W, (Instr.index 36 (.agg #[.string ⟨#[0]⟩, .string ⟨#[13]⟩, .string ⟨#[2, 0]⟩, .string ⟨#[2, 9, 1]⟩, .string ⟨#[2, 2, 5, 0, 1]⟩, .string ⟨#[2, 1, 5, 6]⟩, .string ⟨#[2, 2, 5, 0, 6, 0]⟩, .string ⟨#[3, 0, 0, 2, 0]⟩, .string ⟨#[3, 0, 0, 0, 64, 121]⟩, .string ⟨#[4, 1, 2, 9, 10]⟩, .string ⟨#[8, 1, 2]⟩, .string ⟨#[9, 0]⟩]) (.int .i64 1)).run Tryd.prog W = .ok (.string ⟨#[13]⟩) W := fun _ => by kernel_rfl
        clear hcv0 hcc hcb hrd
        go_wp2_with fail
        refine HRN.out.mono ?_
        rintro e wd ⟨rfl, hb⟩
        have HN : Hid (Below wL.heap.size wL wd) := HKC.out.trans (hb.mono HKC.out.size)
        clear hb hcv hix
        go_wp2_with fail
        go_roundw
        case rel => exact ⟨2, by omega, rfl, HN⟩
        case measure => simp [intOf]
      · obtain ⟨cc, wc, hcv0, hcc, hcb, hrd⟩ := conv_str wr [2, 0] (by decide)
        have hcv : (convert 9 24 (.string ⟨#[2, 0]⟩)).run Tryd.prog wr = .ok (.slice (some ⟨wr.heap.size, 0, none⟩) 2 cc) wc := hcv0
        have HRN := Lib.hid (read_no [2, 0] (some ⟨wr.heap.size, 0, none⟩) cc wc 2 hrd (by decide) hcc (by decide) (by decide) (by decide +kernel))
        have HKC : Hid (Below wL.heap.size wL wc) := HK.out.trans (hcb.mono HK.out.size)
        have hix : ∀ W, (Instr.index 36 (.agg #[.string ⟨#[0]⟩, .string ⟨#[13]⟩, .string ⟨#[2, 0]⟩, .string ⟨#[2, 9, 1]⟩, .string ⟨#[2, 2, 5, 0, 1]⟩, .string ⟨#[2, 1, 5, 6]⟩, .string ⟨#[2, 2, 5, 0, 6, 0]⟩, .string ⟨#[3, 0, 0, 2, 0]⟩, .string ⟨#[3, 0, 0, 0, 64, 121]⟩, .string ⟨#[4, 1, 2, 9, 10]⟩, .string ⟨#[8, 1, 2]⟩, .string ⟨#[9, 0]⟩]) (.int .i64 2)).run Tryd.prog W = .ok (.string ⟨#[2, 0]⟩) W := fun _ => by kernel_rfl
        clear hcv0 hcc hcb hrd
        go_wp2_with fail
        refine HRN.out.mono ?_
        rintro e wd ⟨rfl, hb⟩
        have HN : Hid (Below wL.heap.size wL wd) := HKC.out.trans (hb.mono HKC.out.size)
        clear hb hcv hix
        go_wp2_with fail
        go_roundw
        case rel => exact ⟨3, by omega, rfl, HN⟩
        case measure => simp [intOf]
      · obtain ⟨cc, wc, hcv0, hcc, hcb, hrd⟩ := conv_str wr [2, 9, 1] (by decide)
        have hcv : (convert 9 24 (.string ⟨#[2, 9, 1]⟩)).run Tryd.prog wr = .ok (.slice (some ⟨wr.heap.size, 0, none⟩) 3 cc) wc := hcv0
        have HRN := Lib.hid (read_no [2, 9, 1] (some ⟨wr.heap.size, 0, none⟩) cc wc 2 hrd (by decide) hcc (by decide) (by decide) (by decide +kernel))
        have HKC : Hid (Below wL.heap.size wL wc) := HK.out.trans (hcb.mono HK.out.size)
        have hix : ∀ W, (Instr.index 36 (.agg #[.string ⟨#[0]⟩, .string ⟨#[13]⟩, .string ⟨#[2, 0]⟩, .string ⟨#[2, 9, 1]⟩, .string ⟨#[2, 2, 5, 0, 1]⟩, .string ⟨#[2, 1, 5, 6]⟩, .string ⟨#[2, 2, 5, 0, 6, 0]⟩, .string ⟨#[3, 0, 0, 2, 0]⟩, .string ⟨#[3, 0, 0, 0, 64, 121]⟩, .string ⟨#[4, 1, 2, 9, 10]⟩, .string ⟨#[8, 1, 2]⟩, .string ⟨#[9, 0]⟩]) (.int .i64 3)).run Tryd.prog W = .ok (.string ⟨#[2, 9, 1]⟩) W := fun _ => by kernel_rfl
        clear hcv0 hcc hcb hrd
        go_wp2_with fail
        refine HRN.out.mono ?_
        rintro e wd ⟨rfl, hb⟩
        have HN : Hid (Below wL.heap.size wL wd) := HKC.out.trans (hb.mono HKC.out.size)
        clear hb hcv hix
        go_wp2_with fail
        go_roundw
        case rel => exact ⟨4, by omega, rfl, HN⟩
        case measure => simp [intOf]
      · obtain ⟨cc, wc, hcv0, hcc, hcb, hrd⟩ := conv_str wr [2, 2, 5, 0, 1] (by decide)
        have hcv : (convert 9 24 (.string ⟨#[2, 2, 5, 0, 1]⟩)).run Tryd.prog wr = .ok (.slice (some ⟨wr.heap.size, 0, none⟩) 5 cc) wc := hcv0
        have HRN := Lib.hid (read_no [2, 2, 5, 0, 1] (some ⟨wr.heap.size, 0, none⟩) cc wc 2 hrd (by decide) hcc (by decide) (by decide) (by decide +kernel))
        have HKC : Hid (Below wL.heap.size wL wc) := HK.out.trans (hcb.mono HK.out.size)
        have hix : ∀ W, (Instr.index 36 (.agg #[.string ⟨#[0]⟩, .string ⟨#[13]⟩, .string ⟨#[2, 0]⟩, .string ⟨#[2, 9, 1]⟩, .string ⟨#[2, 2, 5, 0, 1]⟩, .string ⟨#[2, 1, 5, 6]⟩, .string ⟨#[2, 2, 5, 0, 6, 0]⟩, .string ⟨#[3, 0, 0, 2, 0]⟩, .string ⟨#[3, 0, 0, 0, 64, 121]⟩, .string ⟨#[4, 1, 2, 9, 10]⟩, .string ⟨#[8, 1, 2]⟩, .string ⟨#[9, 0]⟩]) (.int .i64 4)).run Tryd.prog W = .ok (.string ⟨#[2, 2, 5, 0, 1]⟩) W := fun _ => by kernel_rfl
        clear hcv0 hcc hcb hrd
        go_wp2_with fail
        refine HRN.out.mono ?_
        rintro e wd ⟨rfl, hb⟩
        have HN : Hid (Below wL.heap.size wL wd) := HKC.out.trans (hb.mono HKC.out.size)
        clear hb hcv hix
        go_wp2_with fail
        go_roundw
        case rel => exact ⟨5, by omega, rfl, HN⟩
        case measure => simp [intOf]
      · obtain ⟨cc, wc, hcv0, hcc, hcb, hrd⟩ := conv_str wr [2, 1, 5, 6] (by decide)
        have hcv : (convert 9 24 (.string ⟨#[2, 1, 5, 6]⟩)).run Tryd.prog wr = .ok (.slice (some ⟨wr.heap.size, 0, none⟩) 4 cc) wc := hcv0
        have HRN := Lib.hid (read_no [2, 1, 5, 6] (some ⟨wr.heap.size, 0, none⟩) cc wc 2 hrd (by decide) hcc (by decide) (by decide) (by decide +kernel))
        have HKC : Hid (Below wL.heap.size wL wc) := HK.out.trans (hcb.mono HK.out.size)
        have hix : ∀ W, (Instr.index 36 (.agg #[.string ⟨#[0]⟩, .string ⟨#[13]⟩, .string ⟨#[2, 0]⟩, .string ⟨#[2, 9, 1]⟩, .string ⟨#[2, 2, 5, 0, 1]⟩, .string ⟨#[2, 1, 5, 6]⟩, .string ⟨#[2, 2, 5, 0, 6, 0]⟩, .string ⟨#[3, 0, 0, 2, 0]⟩, .string ⟨#[3, 0, 0, 0, 64, 121]⟩, .string ⟨#[4, 1, 2, 9, 10]⟩, .string ⟨#[8, 1, 2]⟩, .string ⟨#[9, 0]⟩]) (.int .i64 5)).run Tryd.prog W = .ok (.string ⟨#[2, 1, 5, 6]⟩) W := fun _ => by kernel_rfl
        clear hcv0 hcc hcb hrd
        go_wp2_with fail
        refine HRN.out.mono ?_
        rintro e wd ⟨rfl, hb⟩
        have HN : Hid (Below wL.heap.size wL wd) := HKC.out.trans (hb.mono HKC.out.size)
        clear hb hcv hix
        go_wp2_with fail
        go_roundw
        case rel => exact ⟨6, by omega, rfl, HN⟩
        case measure => simp [intOf]
      · obtain ⟨cc, wc, hcv0, hcc, hcb, hrd⟩ := conv_str wr [2, 2, 5, 0, 6, 0] (by decide)
        have hcv : (convert 9 24 (.string ⟨#[2, 2, 5, 0, 6, 0]⟩)).run Tryd.prog wr = .ok (.slice (some ⟨wr.heap.size, 0, none⟩) 6 cc) wc := hcv0
        have HRN := Lib.hid (read_no [2, 2, 5, 0, 6, 0] (some ⟨wr.heap.size, 0, none⟩) cc wc 2 hrd (by decide) hcc (by decide) (by decide) (by decide +kernel))
        have HKC : Hid (Below wL.heap.size wL wc) := HK.out.trans (hcb.mono HK.out.size)
        have hix : ∀ W, (Instr.index 36 (.agg #[.string ⟨#[0]⟩, .string ⟨#[13]⟩, .string ⟨#[2, 0]⟩, .string ⟨#[2, 9, 1]⟩, .string ⟨#[2, 2, 5, 0, 1]⟩, .string ⟨#[2, 1, 5, 6]⟩, .string ⟨#[2, 2, 5, 0, 6, 0]⟩, .string ⟨#[3, 0, 0, 2, 0]⟩, .string ⟨#[3, 0, 0, 0, 64, 121]⟩, .string ⟨#[4, 1, 2, 9, 10]⟩, .string ⟨#[8, 1, 2]⟩, .string ⟨#[9, 0]⟩]) (.int .i64 6)).run Tryd.prog W = .ok (.string ⟨#[2, 2, 5, 0, 6, 0]⟩) W := fun _ => by kernel_rfl
        clear hcv0 hcc hcb hrd
        go_wp2_with fail
        refine HRN.out.mono ?_
        rintro e wd ⟨rfl, hb⟩
        have HN : Hid (Below wL.heap.size wL wd) := HKC.out.trans (hb.mono HKC.out.size)
        clear hb hcv hix
        go_wp2_with fail
        go_roundw
        case rel => exact ⟨7, by omega, rfl, HN⟩
        case measure => simp [intOf]
      · obtain ⟨cc, wc, hcv0, hcc, hcb, hrd⟩ := conv_str wr [3, 0, 0, 2, 0] (by decide)
        have hcv : (convert 9 24 (.string ⟨#[3, 0, 0, 2, 0]⟩)).run Tryd.prog wr = .ok (.slice (some ⟨wr.heap.size, 0, none⟩) 5 cc) wc := hcv0
        have HRN := Lib.hid (read_no [3, 0, 0, 2, 0] (some ⟨wr.heap.size, 0, none⟩) cc wc 2 hrd (by decide) hcc (by decide) (by decide) (by decide +kernel))
        have HKC : Hid (Below wL.heap.size wL wc) := HK.out.trans (hcb.mono HK.out.size)
        have hix : ∀ W, (Instr.index 36 (.agg #[.string ⟨#[0]⟩, .string ⟨#[13]⟩, .string ⟨#[2, 0]⟩, .string ⟨#[2, 9, 1]⟩, .string ⟨#[2, 2, 5, 0, 1]⟩, .string ⟨#[2, 1, 5, 6]⟩, .string ⟨#[2, 2, 5, 0, 6, 0]⟩, .string ⟨#[3, 0, 0, 2, 0]⟩, .string ⟨#[3, 0, 0, 0, 64, 121]⟩, .string ⟨#[4, 1, 2, 9, 10]⟩, .string ⟨#[8, 1, 2]⟩, .string ⟨#[9, 0]⟩]) (.int .i64 7)).run Tryd.prog W = .ok (.string ⟨#[3, 0, 0, 2, 0]⟩) W := fun _ => by kernel_rfl
        clear hcv0 hcc hcb hrd
        go_wp2_with fail
        refine HRN.out.mono ?_
        rintro e wd ⟨rfl, hb⟩
        have HN : Hid (Below wL.heap.size wL wd) := HKC.out.trans (hb.mono HKC.out.size)
        clear hb hcv hix
        go_wp2_with fail
        go_roundw
        case rel => exact ⟨8, by omega, rfl, HN⟩
        case measure => simp [intOf]
      · obtain ⟨cc, wc, hcv0, hcc, hcb, hrd⟩ := conv_str wr [3, 0, 0, 0, 64, 121] (by decide)
        have hcv : (convert 9 24 (.string ⟨#[3, 0, 0, 0, 64, 121]⟩)).run Tryd.prog wr = .ok (.slice (some ⟨wr.heap.size, 0, none⟩) 6 cc) wc := hcv0
        have HRN := Lib.hid (read_no [3, 0, 0, 0, 64, 121] (some ⟨wr.heap.size, 0, none⟩) cc wc 2 hrd (by decide) hcc (by decide) (by decide) (by decide +kernel))
        have HKC : Hid (Below wL.heap.size wL wc) := HK.out.trans (hcb.mono HK.out.size)
        have hix : ∀ W, (Instr.index 36 (.agg #[.string ⟨#[0]⟩, .string ⟨#[13]⟩, .string ⟨#[2, 0]⟩, .string ⟨#[2, 9, 1]⟩, .string ⟨#[2, 2, 5, 0, 1]⟩, .string ⟨#[2, 1, 5, 6]⟩, .string ⟨#[2, 2, 5, 0, 6, 0]⟩, .string ⟨#[3, 0, 0, 2, 0]⟩, .string ⟨#[3, 0, 0, 0, 64, 121]⟩, .string ⟨#[4, 1, 2, 9, 10]⟩, .string ⟨#[8, 1, 2]⟩, .string ⟨#[9, 0]⟩]) (.int .i64 8)).run Tryd.prog W = .ok (.string ⟨#[3, 0, 0, 0, 64, 121]⟩) W := fun _ => by kernel_rfl
        clear hcv0 hcc hcb hrd
        go_wp2_with fail
        refine HRN.out.mono ?_
        rintro e wd ⟨rfl, hb⟩
        have HN : Hid (Below wL.heap.size wL wd) := HKC.out.trans (hb.mono HKC.out.size)
        clear hb hcv hix
        go_wp2_with fail
        go_roundw
        case rel => exact ⟨9, by omega, rfl, HN⟩
        case measure => simp [intOf]
      · obtain ⟨cc, wc, hcv0, hcc, hcb, hrd⟩ := conv_str wr [4, 1, 2, 9, 10] (by decide)
        have hcv : (convert 9 24 (.string ⟨#[4, 1, 2, 9, 10]⟩)).run Tryd.prog wr = .ok (.slice (some ⟨wr.heap.size, 0, none⟩) 5 cc) wc := hcv0
        have HRN := Lib.hid (read_no [4, 1, 2, 9, 10] (some ⟨wr.heap.size, 0, none⟩) cc wc 2 hrd (by decide) hcc (by decide) (by decide) (by decide +kernel))
        have HKC : Hid (Below wL.heap.size wL wc) := HK.out.trans (hcb.mono HK.out.size)
        have hix : ∀ W, (Instr.index 36 (.agg #[.string ⟨#[0]⟩, .string ⟨#[13]⟩, .string ⟨#[2, 0]⟩, .string ⟨#[2, 9, 1]⟩, .string ⟨#[2, 2, 5, 0, 1]⟩, .string ⟨#[2, 1, 5, 6]⟩, .string ⟨#[2, 2, 5, 0, 6, 0]⟩, .string ⟨#[3, 0, 0, 2, 0]⟩, .string ⟨#[3, 0, 0, 0, 64, 121]⟩, .string ⟨#[4, 1, 2, 9, 10]⟩, .string ⟨#[8, 1, 2]⟩, .string ⟨#[9, 0]⟩]) (.int .i64 9)).run Tryd.prog W = .ok (.string ⟨#[4, 1, 2, 9, 10]⟩) W := fun _ => by kernel_rfl
        clear hcv0 hcc hcb hrd
        go_wp2_with fail
        refine HRN.out.mono ?_
        rintro e wd ⟨rfl, hb⟩
        have HN : Hid (Below wL.heap.size wL wd) := HKC.out.trans (hb.mono HKC.out.size)
        clear hb hcv hix
        go_wp2_with fail
        go_roundw
        case rel => exact ⟨10, by omega, rfl, HN⟩
        case measure => simp [intOf]
      · obtain ⟨cc, wc, hcv0, hcc, hcb, hrd⟩ := conv_str wr [8, 1, 2] (by decide)
        have hcv : (convert 9 24 (.string ⟨#[8, 1, 2]⟩)).run Tryd.prog wr = .ok (.slice (some ⟨wr.heap.size, 0, none⟩) 3 cc) wc := hcv0
        have HRN := Lib.hid (read_no [8, 1, 2] (some ⟨wr.heap.size, 0, none⟩) cc wc 2 hrd (by decide) hcc (by decide) (by decide) (by decide +kernel))
        have HKC : Hid (Below wL.heap.size wL wc) := HK.out.trans (hcb.mono HK.out.size)
        have hix : ∀ W, (Instr.index 36 (.agg #[.string ⟨#[0]⟩, .string ⟨#[13]⟩, .string ⟨#[2, 0]⟩, .string ⟨#[2, 9, 1]⟩, .string ⟨#[2, 2, 5, 0, 1]⟩, .string ⟨#[2, 1, 5, 6]⟩, .string ⟨#[2, 2, 5, 0, 6, 0]⟩, .string ⟨#[3, 0, 0, 2, 0]⟩, .string ⟨#[3, 0, 0, 0, 64, 121]⟩, .string ⟨#[4, 1, 2, 9, 10]⟩, .string ⟨#[8, 1, 2]⟩, .string ⟨#[9, 0]⟩]) (.int .i64 10)).run Tryd.prog W = .ok (.string ⟨#[8, 1, 2]⟩) W := fun _ => by kernel_rfl
        clear hcv0 hcc hcb hrd
        go_wp2_with fail
        refine HRN.out.mono ?_
        rintro e wd ⟨rfl, hb⟩
        have HN : Hid (Below wL.heap.size wL wd) := HKC.out.trans (hb.mono HKC.out.size)
        clear hb hcv hix
        go_wp2_with fail
        go_roundw
        case rel => exact ⟨11, by omega, rfl, HN⟩
        case measure => simp [intOf]
      · obtain ⟨cc, wc, hcv0, hcc, hcb, hrd⟩ := conv_str wr [9, 0] (by decide)
        have hcv : (convert 9 24 (.string ⟨#[9, 0]⟩)).run Tryd.prog wr = .ok (.slice (some ⟨wr.heap.size, 0, none⟩) 2 cc) wc := hcv0
        have HRN := Lib.hid (read_no [9, 0] (some ⟨wr.heap.size, 0, none⟩) cc wc 2 hrd (by decide) hcc (by decide) (by decide) (by decide +kernel))
        have HKC : Hid (Below wL.heap.size wL wc) := HK.out.trans (hcb.mono HK.out.size)
        have hix : ∀ W, (Instr.index 36 (.agg #[.string ⟨#[0]⟩, .string ⟨#[13]⟩, .string ⟨#[2, 0]⟩, .string ⟨#[2, 9, 1]⟩, .string ⟨#[2, 2, 5, 0, 1]⟩, .string ⟨#[2, 1, 5, 6]⟩, .string ⟨#[2, 2, 5, 0, 6, 0]⟩, .string ⟨#[3, 0, 0, 2, 0]⟩, .string ⟨#[3, 0, 0, 0, 64, 121]⟩, .string ⟨#[4, 1, 2, 9, 10]⟩, .string ⟨#[8, 1, 2]⟩, .string ⟨#[9, 0]⟩]) (.int .i64 11)).run Tryd.prog W = .ok (.string ⟨#[9, 0]⟩) W := fun _ => by kernel_rfl
        clear hcv0 hcc hcb hrd
        go_wp2_with fail
        refine HRN.out.mono ?_
        rintro e wd ⟨rfl, hb⟩
        have HN : Hid (Below wL.heap.size wL wd) := HKC.out.trans (hb.mono HKC.out.size)
        clear hb hcv hix
        go_wp2_with fail
        go_roundw
        case rel => exact ⟨12, by omega, rfl, HN⟩
        case measure => simp [intOf]
    · obtain rfl : k = 12 := by omega
      clear hk hlt
      obtain ⟨w6, hw6⟩ : ∃ x, wr = x := ⟨_, rfl⟩
      subst hw6
      go_wp2_with fail
      go_loopw [92] (fun i wr => ∃ k : Nat, k ≤ 6 ∧ i = .int .i64 k ∧ Hid (Below wL.heap.size wL wr)) (fun i _ => 6 - (intOf i).toNat)
      case atStart => exact ⟨0, Nat.zero_le _, rfl, HK⟩
      case round =>
        obtain ⟨k, hk, rfl, HK⟩ := hrel
        by_cases hlt : k < 6
        · have hcase : k = 0 ∨ k = 1 ∨ k = 2 ∨ k = 3 ∨ k = 4 ∨ k = 5 := by omega
          clear hk hlt
          rcases hcase with rfl | rfl | rfl | rfl | rfl | rfl
          · obtain ⟨cc, wc, hcv0, hcc, hcb, hrd⟩ := conv_str wr [64] (by decide)
            have hcv : (convert 9 24 (.string ⟨#[64]⟩)).run Tryd.prog wr = .ok (.slice (some ⟨wr.heap.size, 0, none⟩) 1 cc) wc := hcv0
            have HRN := Lib.hid (read_no [64] (some ⟨wr.heap.size, 0, none⟩) cc wc 3 hrd (by decide) hcc (by decide) (by decide) (by decide +kernel))
            have HKC : Hid (Below wL.heap.size wL wc) := HK.out.trans (hcb.mono HK.out.size)
            have hix : ∀ W, (Instr.index 37 (.agg #[.string ⟨#[64]⟩, .string ⟨#[2]⟩, .string ⟨#[2, 2, 5, 0]⟩, .string ⟨#[3, 0, 0, 0, 2, 97]⟩, .string ⟨#[4, 1, 2, 9]⟩, .string ⟨#[1, 10]⟩]) (.int .i64 0)).run Tryd.prog W = .ok (.string ⟨#[64]⟩) W := fun _ => by kernel_rfl
            clear hcv0 hcc hcb hrd
            go_wp2_with fail
            refine HRN.out.mono ?_
            rintro e wd ⟨rfl, hb⟩
            have HN : Hid (Below wL.heap.size wL wd) := HKC.out.trans (hb.mono HKC.out.size)
            clear hb hcv hix
            go_wp2_with fail
            go_roundw
            case rel => exact ⟨_, _, _, _, _, _, _, _, _, _, _, _, _, _, _, _, ⟨1, by omega, rfl, HN⟩, rfl⟩
            case measure => simp [intOf]
          · obtain ⟨cc, wc, hcv0, hcc, hcb, hrd⟩ := conv_str wr [2] (by decide)
            have hcv : (convert 9 24 (.string ⟨#[2]⟩)).run Tryd.prog wr = .ok (.slice (some ⟨wr.heap.size, 0, none⟩) 1 cc) wc := hcv0
            have HRN := Lib.hid (read_no [2] (some ⟨wr.heap.size, 0, none⟩) cc wc 3 hrd (by decide) hcc (by decide) (by decide) (by decide +kernel))
            have HKC : Hid (Below wL.heap.size wL wc) := HK.out.trans (hcb.mono HK.out.size)
            have hix : ∀ W, (Instr.index 37 (.agg #[.string ⟨#[64]⟩, .string ⟨#[2]⟩, .string ⟨#[2, 2, 5, 0]⟩, .string ⟨#[3, 0, 0, 0, 2, 97]⟩, .string ⟨#[4, 1, 2, 9]⟩, .string ⟨#[1, 10]⟩]) (.int .i64 1)).run Tryd.prog W = .ok (.string ⟨#[2]⟩) W := fun _ => by kernel_rfl
            clear hcv0 hcc hcb hrd
            go_wp2_with fail
            refine HRN.out.mono ?_
            rintro e wd ⟨rfl, hb⟩
            have HN : Hid (Below wL.heap.size wL wd) := HKC.out.trans (hb.mono HKC.out.size)
            clear hb hcv hix
            go_wp2_with fail
            go_roundw
            case rel => exact ⟨_, _, _, _, _, _, _, _, _, _, _, _, _, _, _, _, ⟨2, by omega, rfl, HN⟩, rfl⟩
            case measure => simp [intOf]
          · obtain ⟨cc, wc, hcv0, hcc, hcb, hrd⟩ := conv_str wr [2, 2, 5, 0] (by decide)
            have hcv : (convert 9 24 (.string ⟨#[2, 2, 5, 0]⟩)).run Tryd.prog wr = .ok (.slice (some ⟨wr.heap.size, 0, none⟩) 4 cc) wc := hcv0
            have HRN := Lib.hid (read_no [2, 2, 5, 0] (some ⟨wr.heap.size, 0, none⟩) cc wc 3 hrd (by decide) hcc (by decide) (by decide) (by decide +kernel))
            have HKC : Hid (Below wL.heap.size wL wc) := HK.out.trans (hcb.mono HK.out.size)
            have hix : ∀ W, (Instr.index 37 (.agg #[.string ⟨#[64]⟩, .string ⟨#[2]⟩, .string ⟨#[2, 2, 5, 0]⟩, .string ⟨#[3, 0, 0, 0, 2, 97]⟩, .string ⟨#[4, 1, 2, 9]⟩, .string ⟨#[1, 10]⟩]) (.int .i64 2)).run Tryd.prog W = .ok (.string ⟨#[2, 2, 5, 0]⟩) W := fun _ => by kernel_rfl
            clear hcv0 hcc hcb hrd
            go_wp2_with fail
            refine HRN.out.mono ?_
            rintro e wd ⟨rfl, hb⟩
            have HN : Hid (Below wL.heap.size wL wd) := HKC.out.trans (hb.mono HKC.out.size)
            clear hb hcv hix
            go_wp2_with fail
            go_roundw
            case rel => exact ⟨_, _, _, _, _, _, _, _, _, _, _, _, _, _, _, _, ⟨3, by omega, rfl, HN⟩, rfl⟩
            case measure => simp [intOf]
          · obtain ⟨cc, wc, hcv0, hcc, hcb, hrd⟩ := conv_str wr [3, 0, 0, 0, 2, 97] (by decide)
            have hcv : (convert 9 24 (.string ⟨#[3, 0, 0, 0, 2, 97]⟩)).run Tryd.prog wr = .ok (.slice (some ⟨wr.heap.size, 0, none⟩) 6 cc) wc := hcv0
            have HRN := Lib.hid (read_no [3, 0, 0, 0, 2, 97] (some ⟨wr.heap.size, 0, none⟩) cc wc 3 hrd (by decide) hcc (by decide) (by decide) (by decide +kernel))
            have HKC : Hid (Below wL.heap.size wL wc) := HK.out.trans (hcb.mono HK.out.size)
            have hix : ∀ W, (Instr.index 37 (.agg #[.string ⟨#[64]⟩, .string ⟨#[2]⟩, .string ⟨#[2, 2, 5, 0]⟩, .string ⟨#[3, 0, 0, 0, 2, 97]⟩, .string ⟨#[4, 1, 2, 9]⟩, .string ⟨#[1, 10]⟩]) (.int .i64 3)).run Tryd.prog W = .ok (.string ⟨#[3, 0, 0, 0, 2, 97]⟩) W := fun _ => by kernel_rfl
            clear hcv0 hcc hcb hrd
            go_wp2_with fail
            refine HRN.out.mono ?_
            rintro e wd ⟨rfl, hb⟩
            have HN : Hid (Below wL.heap.size wL wd) := HKC.out.trans (hb.mono HKC.out.size)
            clear hb hcv hix
            go_wp2_with fail
            go_roundw
            case rel => exact ⟨_, _, _, _, _, _, _, _, _, _, _, _, _, _, _, _, ⟨4, by omega, rfl, HN⟩, rfl⟩
            case measure => simp [intOf]
          · obtain ⟨cc, wc, hcv0, hcc, hcb, hrd⟩ := conv_str wr [4, 1, 2, 9] (by decide)
            have hcv : (convert 9 24 (.string ⟨#[4, 1, 2, 9]⟩)).run Tryd.prog wr = .ok (.slice (some ⟨wr.heap.size, 0, none⟩) 4 cc) wc := hcv0
            have HRN := Lib.hid (read_no [4, 1, 2, 9] (some ⟨wr.heap.size, 0, none⟩) cc wc 3 hrd (by decide) hcc (by decide) (by decide) (by decide +kernel))
            have HKC : Hid (Below wL.heap.size wL wc) := HK.out.trans (hcb.mono HK.out.size)
            have hix : ∀ W, (Instr.index 37 (.agg #[.string ⟨#[64]⟩, .string ⟨#[2]⟩, .string ⟨#[2, 2, 5, 0]⟩, .string ⟨#[3, 0, 0, 0, 2, 97]⟩, .string ⟨#[4, 1, 2, 9]⟩, .string ⟨#[1, 10]⟩]) (.int .i64 4)).run Tryd.prog W = .ok (.string ⟨#[4, 1, 2, 9]⟩) W := fun _ => by kernel_rfl
            clear hcv0 hcc hcb hrd
            go_wp2_with fail
            refine HRN.out.mono ?_
            rintro e wd ⟨rfl, hb⟩
            have HN : Hid (Below wL.heap.size wL wd) := HKC.out.trans (hb.mono HKC.out.size)
            clear hb hcv hix
            go_wp2_with fail
            go_roundw
            case rel => exact ⟨_, _, _, _, _, _, _, _, _, _, _, _, _, _, _, _, ⟨5, by omega, rfl, HN⟩, rfl⟩
            case measure => simp [intOf]
          · obtain ⟨cc, wc, hcv0, hcc, hcb, hrd⟩ := conv_str wr [1, 10] (by decide)
            have hcv : (convert 9 24 (.string ⟨#[1, 10]⟩)).run Tryd.prog wr = .ok (.slice (some ⟨wr.heap.size, 0, none⟩) 2 cc) wc := hcv0
            have HRN := Lib.hid (read_no [1, 10] (some ⟨wr.heap.size, 0, none⟩) cc wc 3 hrd (by decide) hcc (by decide) (by decide) (by decide +kernel))
            have HKC : Hid (Below wL.heap.size wL wc) := HK.out.trans (hcb.mono HK.out.size)
            have hix : ∀ W, (Instr.index 37 (.agg #[.string ⟨#[64]⟩, .string ⟨#[2]⟩, .string ⟨#[2, 2, 5, 0]⟩, .string ⟨#[3, 0, 0, 0, 2, 97]⟩, .string ⟨#[4, 1, 2, 9]⟩, .string ⟨#[1, 10]⟩]) (.int .i64 5)).run Tryd.prog W = .ok (.string ⟨#[1, 10]⟩) W := fun _ => by kernel_rfl
            clear hcv0 hcc hcb hrd
            go_wp2_with fail
            refine HRN.out.mono ?_
            rintro e wd ⟨rfl, hb⟩
            have HN : Hid (Below wL.heap.size wL wd) := HKC.out.trans (hb.mono HKC.out.size)
            clear hb hcv hix
            go_wp2_with fail
            go_roundw
            case rel => exact ⟨_, _, _, _, _, _, _, _, _, _, _, _, _, _, _, _, ⟨6, by omega, rfl, HN⟩, rfl⟩
            case measure => simp [intOf]
        · obtain rfl : k = 6 := by omega
          clear hk hlt
          obtain ⟨w7, hw6⟩ : ∃ x, wr = x := ⟨_, rfl⟩
          subst hw6
          go_wp2_with fail
          have HBD := Lib.hid (lay_part [ping, ⟨1, 0, 0, 1, 0, 0, false, [], []⟩] 1 (some ⟨wr.heap.size, 0, none⟩) 2 2 (wr.alloc (.cells #[.int .i64 1, .int .i64 0, .int .i64 0, .int .i64 0, .int .i64 0, .int .i64 0, .bool false, .slice none 0 0, .slice none 0 0, .int .i64 1, .int .i64 0, .int .i64 0, .int .i64 1, .int .i64 0, .int .i64 0, .bool false, .slice none 0 0, .slice none 0 0] 26)) ((HTB.out wr HK.out).alloc _)
            ⟨rfl, Nat.le_refl _, _, rd_new _ _ _ _ _ _ _ rfl (by simp) rfl rfl, [.int .i64 1, .int .i64 0, .int .i64 0, .int .i64 0, .int .i64 0, .int .i64 0, .bool false, .slice none 0 0, .slice none 0 0], [.int .i64 1, .int .i64 0, .int .i64 0, .int .i64 1, .int .i64 0, .int .i64 0, .bool false, .slice none 0 0, .slice none 0 0], rfl, ping_cells _, [.int .i64 1, .int .i64 0, .int .i64 0, .int .i64 1, .int .i64 0, .int .i64 0, .bool false, .slice none 0 0, .slice none 0 0], [], rfl, ⟨none, 0, 0, none, 0, 0, rfl, rfl, rfl, own_nil _ _ _ _, own_nil _ _ _ _⟩, rfl⟩
            (by intro f hf; simp at hf; rw [hf]; exact ping_right) ⟨1, 0, 0, 1, 0, 0, false, [], []⟩ rfl (by decide) (by decide) (by decide) (by omega))
          refine HBD.out.mono ?_
          rintro e w8 ⟨rfl, hb⟩
          have H8 : Hid (Below wL.heap.size wL w8) := (HK.out.alloc HK.out.size _).trans (hb.mono (by have := HK.out.size; simp; omega))
          clear hb HBD HK
          go_wp2_with fail
          have HL0 := Lib.hid (lay_ok [] none 0 0 w8 (HTB.out w8 H8.out) ⟨rfl, Nat.le_refl _, [], Rd.nil _ _ _, rfl⟩ (by intro f hf; cases hf) (by omega))
          refine HL0.out.mono ?_
          rintro e w9 ⟨A9, n9, c9, rfl, hl9, _, hb⟩
          have hn9 : n9 = 0 := hl9.symm
          subst hn9
          have H9 : Hid (Below wL.heap.size wL w9) := H8.out.trans (hb.mono H8.out.size)
          clear hb hl9 HL0
          go_wp2_with fail
          have HR0 := Lib.hid (read_ok [] none 0 w9 (Rd.nil _ _ _) (by decide) (by decide) (by decide))
          refine HR0.out.mono ?_
          rintro e w10 ⟨h1, _, hb⟩
          obtain ⟨A10, c10, he, _⟩ := h1 rfl
          have he2 : e = .returned (.tuple #[.slice A10 0 c10, .int .i64 0]) := he
          subst he2
          have H10 : Hid (Below wL.heap.size wL w10) := H9.out.trans (hb.mono H9.out.size)
          clear hb h1 he HR0
          have HE1 : Hid (∀ W, Below wL.heap.size wL W → Calls Tryd.prog 17 #[.slice (some ⟨W1.heap.size + 1, 0, none⟩) 10 10] W fun e w' => e = .returned (.bool true) ∧ Below W.heap.size W w') := fun W hW => by
            have := Rx.elicits_any ls _ 10 10 W (HFR.out W hW) (by omega)
            rw [show (ls.any fun f => elB f.k) = true by decide] at this
            exact this
          have HE2 : Hid (∀ W, Below wL.heap.size wL W → Calls Tryd.prog 17 #[.slice (some ⟨W.heap.size, 0, none⟩) 2 2] (W.alloc (.cells #[.int .i64 2, .int .i64 0, .int .i64 0, .int .i64 0, .int .i64 0, .int .i64 0, .bool false, .slice none 0 0, .slice (some ⟨w.heap.size, 0, none⟩) 3 3, .int .i64 12, .int .i64 0, .int .i64 0, .int .i64 3, .int .i64 0, .int .i64 0, .bool false, .slice none 0 0, .slice none 0 0] 26)) fun e w' => e = .returned (.bool false) ∧ Below (W.alloc (.cells #[.int .i64 2, .int .i64 0, .int .i64 0, .int .i64 0, .int .i64 0, .int .i64 0, .bool false, .slice none 0 0, .slice (some ⟨w.heap.size, 0, none⟩) 3 3, .int .i64 12, .int .i64 0, .int .i64 0, .int .i64 3, .int .i64 0, .int .i64 0, .bool false, .slice none 0 0, .slice none 0 0] 26)).heap.size (W.alloc (.cells #[.int .i64 2, .int .i64 0, .int .i64 0, .int .i64 0, .int .i64 0, .int .i64 0, .bool false, .slice none 0 0, .slice (some ⟨w.heap.size, 0, none⟩) 3 3, .int .i64 12, .int .i64 0, .int .i64 0, .int .i64 3, .int .i64 0, .int .i64 0, .bool false, .slice none 0 0, .slice none 0 0] 26)) w') := fun W hW => by
            have hx := heap_alloc_new W (.cells #[.int .i64 2, .int .i64 0, .int .i64 0, .int .i64 0, .int .i64 0, .int .i64 0, .bool false, .slice none 0 0, .slice (some ⟨w.heap.size, 0, none⟩) 3 3, .int .i64 12, .int .i64 0, .int .i64 0, .int .i64 3, .int .i64 0, .int .i64 0, .bool false, .slice none 0 0, .slice none 0 0] 26)
            have hc : ∀ j, (W.alloc (.cells #[.int .i64 2, .int .i64 0, .int .i64 0, .int .i64 0, .int .i64 0, .int .i64 0, .bool false, .slice none 0 0, .slice (some ⟨w.heap.size, 0, none⟩) 3 3, .int .i64 12, .int .i64 0, .int .i64 0, .int .i64 3, .int .i64 0, .int .i64 0, .bool false, .slice none 0 0, .slice none 0 0] 26)).cell? ⟨W.heap.size, j, none⟩ = ((#[.int .i64 2, .int .i64 0, .int .i64 0, .int .i64 0, .int .i64 0, .int .i64 0, .bool false, .slice none 0 0, .slice (some ⟨w.heap.size, 0, none⟩) 3 3, .int .i64 12, .int .i64 0, .int .i64 0, .int .i64 3, .int .i64 0, .int .i64 0, .bool false, .slice none 0 0, .slice none 0 0] : Array Value))[j]? := fun j => Am.cell_of _ _ j _ _ (0, 0) hx
            have nine : ∀ (l : List Value) (j : Nat) (u : Value), l.length = 9 → l[j]? = some u → j = 0 ∨ j = 1 ∨ j = 2 ∨ j = 3 ∨ j = 4 ∨ j = 5 ∨ j = 6 ∨ j = 7 ∨ j = 8 := fun l j u hl hu => by
              have := (List.getElem?_eq_some_iff.1 hu).1
              omega
            have hf : Rx.Frs (W.alloc (.cells #[.int .i64 2, .int .i64 0, .int .i64 0, .int .i64 0, .int .i64 0, .int .i64 0, .bool false, .slice none 0 0, .slice (some ⟨w.heap.size, 0, none⟩) 3 3, .int .i64 12, .int .i64 0, .int .i64 0, .int .i64 3, .int .i64 0, .int .i64 0, .bool false, .slice none 0 0, .slice none 0 0] 26)) (some ⟨W.heap.size, 0, none⟩) 2 2 [l0, l9] := by
              refine ⟨rfl, Nat.le_refl _, fun k hk => ?_⟩
              have hk2 : k = 0 ∨ k = 1 := by omega
              rcases hk2 with rfl | rfl
              · refine ⟨_, 0, l0, none, 0, 0, some ⟨w.heap.size, 0, none⟩, 3, 3, rfl, by simp, rfl, ⟨_, _, _, _, _, _, rfl, ⟨rfl, by decide, Rd.nil _ _ _, rfl, by decide, HSPW.out _ (hW.alloc hW.size _)⟩⟩, fun j u hu => ?_⟩
                rw [hc]
                rcases nine _ j u rfl hu with rfl | rfl | rfl | rfl | rfl | rfl | rfl | rfl | rfl <;> exact hu
              · refine ⟨_, 0, l9, none, 0, 0, none, 0, 0, rfl, by simp, rfl, ⟨_, _, _, _, _, _, rfl, ⟨rfl, by decide, Rd.nil _ _ _, rfl, by decide, Rd.nil _ _ _⟩⟩, fun j u hu => ?_⟩
                rw [hc]
                rcases nine _ j u rfl hu with rfl | rfl | rfl | rfl | rfl | rfl | rfl | rfl | rfl <;> exact hu
            have := Rx.elicits_any [l0, l9] _ 2 2 _ hf (by omega)
            rw [show ([l0, l9].any fun f => elB f.k) = false by decide] at this
            exact this
          have HE3 : Hid (∀ W : World, Calls Tryd.prog 17 #[.slice none 0 0] W fun e w' => e = .returned (.bool false) ∧ Below W.heap.size W w') := fun W => Rx.elicits_any [] none 0 0 W ⟨rfl, Nat.le_refl _, fun k hk => absurd hk (Nat.not_lt_zero _)⟩ (by omega)
          have HS0 : Hid (∀ W : World, Calls Tryd.prog 16 #[.agg #[.int .i64 0, .int .i64 0, .int .i64 0, .int .i64 0, .int .i64 0, .int .i64 0, .bool false, .slice none 0 0, .slice none 0 0]] W fun e w' => e = .returned (.int .i64 (-1)) ∧ Below W.heap.size W w') := fun W => size_bad ⟨0, 0, 0, 0, 0, 0, false, [], []⟩ none 0 0 none 0 0 W ⟨rfl, Nat.le_refl _, Rd.nil _ _ _, rfl, Nat.le_refl _, Rd.nil _ _ _⟩ (by omega) (by omega) (by decide)
          have HR1 : Hid (∀ W : World, Calls Tryd.prog 18 #[.agg #[.int .i64 9, .int .i64 0, .int .i64 0, .int .i64 0, .int .i64 0, .int .i64 0, .bool false, .slice none 0 0, .slice none 0 0]] W fun e w' => e = .returned (.bool false) ∧ Below W.heap.size W w') := fun W => by
            have := right_any ⟨9, 0, 0, 0, 0, 0, false, [], []⟩ W.heap.size none 0 0 none 0 0 W ⟨rfl, Nat.le_refl _, Rd.nil _ _ _, rfl, Nat.le_refl _, Rd.nil _ _ _⟩ (Nat.le_refl _) (by omega) (by omega)
            rw [show rightB ⟨9, 0, 0, 0, 0, 0, false, [], []⟩ = false by decide +kernel] at this
            exact this
          have HR2 : Hid (∀ W : World, Calls Tryd.prog 18 #[.agg #[.int .i64 2, .int .i64 0, .int .i64 0, .int .i64 0, .int .i64 0, .int .i64 0, .bool false, .slice none 0 0, .slice (some ⟨W.heap.size, 0, none⟩) 2 2]] (W.alloc (.cells #[.int .i64 4, .int .i64 5, .int .i64 2, .int .i64 3] 22)) fun e w' => e = .returned (.bool false) ∧ Below (W.alloc (.cells #[.int .i64 4, .int .i64 5, .int .i64 2, .int .i64 3] 22)).heap.size (W.alloc (.cells #[.int .i64 4, .int .i64 5, .int .i64 2, .int .i64 3] 22)) w') := fun W => by
            have := right_any ⟨2, 0, 0, 0, 0, 0, false, [], [4, 5, 2, 3]⟩ (W.heap.size + 1) none 0 0 (some ⟨W.heap.size, 0, none⟩) 2 2 (W.alloc (.cells #[.int .i64 4, .int .i64 5, .int .i64 2, .int .i64 3] 22)) ⟨rfl, Nat.le_refl _, Rd.nil _ _ _, rfl, Nat.le_refl _, rd_new _ _ _ _ _ _ _ rfl (by omega) rfl rfl⟩ (by simp) (by omega) (by omega)
            rw [show rightB ⟨2, 0, 0, 0, 0, 0, false, [], [4, 5, 2, 3]⟩ = false by decide +kernel] at this
            exact this
          have HR3 : Hid (∀ W : World, Calls Tryd.prog 18 #[.agg #[.int .i64 3, .int .i64 0, .int .i64 4611686018427387903, .int .i64 0, .int .i64 0, .int .i64 0, .bool false, .slice none 0 0, .slice none 0 0]] W fun e w' => e = .returned (.bool true) ∧ Below W.heap.size W w') := fun W => by
            have := right_any ⟨3, 0, 4611686018427387903, 0, 0, 0, false, [], []⟩ W.heap.size none 0 0 none 0 0 W ⟨rfl, Nat.le_refl _, Rd.nil _ _ _, rfl, Nat.le_refl _, Rd.nil _ _ _⟩ (Nat.le_refl _) (by omega) (by omega)
            rw [show rightB ⟨3, 0, 4611686018427387903, 0, 0, 0, false, [], []⟩ = true by decide +kernel] at this
            exact this
          have HR4 : Hid (∀ W : World, Calls Tryd.prog 18 #[.agg #[.int .i64 3, .int .i64 0, .int .i64 4611686018427387903, .int .i64 0, .int .i64 0, .int .i64 0, .bool false, .slice (some ⟨W.heap.size, 0, none⟩) 1 1, .slice none 0 0]] (W.alloc (.cells #[.int .u8 1] 5)) fun e w' => e = .returned (.bool false) ∧ Below (W.alloc (.cells #[.int .u8 1] 5)).heap.size (W.alloc (.cells #[.int .u8 1] 5)) w') := fun W => by
            have := right_any ⟨3, 0, 4611686018427387903, 0, 0, 0, false, [1], []⟩ (W.heap.size + 1) (some ⟨W.heap.size, 0, none⟩) 1 1 none 0 0 (W.alloc (.cells #[.int .u8 1] 5)) ⟨rfl, Nat.le_refl _, rd_new _ _ _ _ _ _ _ rfl (by omega) rfl rfl, rfl, Nat.le_refl _, Rd.nil _ _ _⟩ (by simp) (by omega) (by omega)
            rw [show rightB ⟨3, 0, 4611686018427387903, 0, 0, 0, false, [1], []⟩ = false by decide +kernel] at this
            exact this
          have HCC : Hid (∀ W, Below wL.heap.size wL W → W.cell? ⟨W1.heap.size + 1, 0, none⟩ = some (.int .i64 2) ∧ W.cell? ⟨W1.heap.size + 1, 1, none⟩ = some (.int .i64 0) ∧ W.cell? ⟨W1.heap.size + 1, 2, none⟩ = some (.int .i64 0) ∧ W.cell? ⟨W1.heap.size + 1, 3, none⟩ = some (.int .i64 0) ∧ W.cell? ⟨W1.heap.size + 1, 4, none⟩ = some (.int .i64 0) ∧ W.cell? ⟨W1.heap.size + 1, 5, none⟩ = some (.int .i64 0) ∧ W.cell? ⟨W1.heap.size + 1, 6, none⟩ = some (.bool false) ∧ W.cell? ⟨W1.heap.size + 1, 7, none⟩ = some (.slice none 0 0) ∧ W.cell? ⟨W1.heap.size + 1, 8, none⟩ = some (.slice (some ⟨w.heap.size, 0, none⟩) 3 3) ∧ W.cell? ⟨W1.heap.size + 1, 81, none⟩ = some (.int .i64 12) ∧ W.cell? ⟨W1.heap.size + 1, 82, none⟩ = some (.int .i64 0) ∧ W.cell? ⟨W1.heap.size + 1, 83, none⟩ = some (.int .i64 0) ∧ W.cell? ⟨W1.heap.size + 1, 84, none⟩ = some (.int .i64 3) ∧ W.cell? ⟨W1.heap.size + 1, 85, none⟩ = some (.int .i64 0) ∧ W.cell? ⟨W1.heap.size + 1, 86, none⟩ = some (.int .i64 0) ∧ W.cell? ⟨W1.heap.size + 1, 87, none⟩ = some (.bool false) ∧ W.cell? ⟨W1.heap.size + 1, 88, none⟩ = some (.slice none 0 0) ∧ W.cell? ⟨W1.heap.size + 1, 89, none⟩ = some (.slice none 0 0)) := fun W hW => by
            obtain ⟨⟨p0, p1, p2, p3, p4, p5, p6, p7, p8⟩, q0, q1, q2, q3, q4, q5, q6, q7, q8⟩ := HC.out W hW
            exact ⟨p0, p1, p2, p3, p4, p5, p6, p7, p8, q0, q1, q2, q3, q4, q5, q6, q7, q8⟩
          go_wp2_with fail
          refine wp_region_held_drew (S := (fun W => W.cell? ⟨W1.heap.size + 1, 0, none⟩ = some (.int .i64 2) ∧ W.cell? ⟨W1.heap.size + 1, 1, none⟩ = some (.int .i64 0) ∧ W.cell? ⟨W1.heap.size + 1, 2, none⟩ = some (.int .i64 0) ∧ W.cell? ⟨W1.heap.size + 1, 3, none⟩ = some (.int .i64 0) ∧ W.cell? ⟨W1.heap.size + 1, 4, none⟩ = some (.int .i64 0) ∧ W.cell? ⟨W1.heap.size + 1, 5, none⟩ = some (.int .i64 0) ∧ W.cell? ⟨W1.heap.size + 1, 6, none⟩ = some (.bool false) ∧ W.cell? ⟨W1.heap.size + 1, 7, none⟩ = some (.slice none 0 0) ∧ W.cell? ⟨W1.heap.size + 1, 8, none⟩ = some (.slice (some ⟨w.heap.size, 0, none⟩) 3 3) ∧ W.cell? ⟨W1.heap.size + 1, 81, none⟩ = some (.int .i64 12) ∧ W.cell? ⟨W1.heap.size + 1, 82, none⟩ = some (.int .i64 0) ∧ W.cell? ⟨W1.heap.size + 1, 83, none⟩ = some (.int .i64 0) ∧ W.cell? ⟨W1.heap.size + 1, 84, none⟩ = some (.int .i64 3) ∧ W.cell? ⟨W1.heap.size + 1, 85, none⟩ = some (.int .i64 0) ∧ W.cell? ⟨W1.heap.size + 1, 86, none⟩ = some (.int .i64 0) ∧ W.cell? ⟨W1.heap.size + 1, 87, none⟩ = some (.bool false) ∧ W.cell? ⟨W1.heap.size + 1, 88, none⟩ = some (.slice none 0 0) ∧ W.cell? ⟨W1.heap.size + 1, 89, none⟩ = some (.slice none 0 0))) (by kernel_rfl) ?_ (fun hHeld => ?_)
          · exact HCC.out _ H10.out.drew
          refine wpAnyH_take (i := 0) (v := ?_) rfl (by kernel_rfl) (by kernel_rfl) (by kernel_rfl) (fun _ _ _ h => h) (Or.inl ⟨by rfl, ?_⟩) (by assumption) ?_
          rotate_left
          · intro w hSw; (try dsimp only at hSw); go_simp; try with_reducible rfl
          go_simp
          refine wpAnyH_take (i := 1) (v := ?_) rfl (by kernel_rfl) (by kernel_rfl) (by kernel_rfl) (fun _ _ _ h => h) (Or.inl ⟨by rfl, ?_⟩) (by assumption) ?_
          rotate_left
          · intro w hSw; (try dsimp only at hSw); go_simp; try with_reducible rfl
          go_simp
          refine wpAnyH_take (i := 2) (v := ?_) rfl (by kernel_rfl) (by kernel_rfl) (by kernel_rfl) (fun _ _ _ h => h) (Or.inl ⟨by rfl, ?_⟩) (by assumption) ?_
          rotate_left
          · intro w hSw; (try dsimp only at hSw); go_simp; try with_reducible rfl
          go_simp
          refine wpAnyH_take (i := 3) (v := ?_) rfl (by kernel_rfl) (by kernel_rfl) (by kernel_rfl) (fun _ _ _ h => h) (Or.inl ⟨by rfl, ?_⟩) (by assumption) ?_
          rotate_left
          · intro w hSw; (try dsimp only at hSw); go_simp; try with_reducible rfl
          go_simp
          refine wpAnyH_take (i := 4) (v := ?_) rfl (by kernel_rfl) (by kernel_rfl) (by kernel_rfl) (fun _ _ _ h => h) (Or.inl ⟨by rfl, ?_⟩) (by assumption) ?_
          rotate_left
          · intro w hSw; (try dsimp only at hSw); go_simp; try with_reducible rfl
          go_simp
          refine wpAnyH_take (i := 5) (v := ?_) rfl (by kernel_rfl) (by kernel_rfl) (by kernel_rfl) (fun _ _ _ h => h) (Or.inl ⟨by rfl, ?_⟩) (by assumption) ?_
          rotate_left
          · intro w hSw; (try dsimp only at hSw); go_simp; try with_reducible rfl
          go_simp
          refine wpAnyH_take (i := 6) (v := ?_) rfl (by kernel_rfl) (by kernel_rfl) (by kernel_rfl) (fun _ _ _ h => h) (Or.inl ⟨by rfl, ?_⟩) (by assumption) ?_
          rotate_left
          · intro w hSw; (try dsimp only at hSw); go_simp; try with_reducible rfl
          go_simp
          refine wpAnyH_take (i := 7) (v := ?_) rfl (by kernel_rfl) (by kernel_rfl) (by kernel_rfl) (fun _ _ _ h => h) (Or.inl ⟨by rfl, ?_⟩) (by assumption) ?_
          rotate_left
          · intro w hSw; (try dsimp only at hSw); go_simp; try with_reducible rfl
          go_simp
          refine wpAnyH_take (i := 8) (v := ?_) rfl (by kernel_rfl) (by kernel_rfl) (by kernel_rfl) (fun _ _ _ h => h) (Or.inl ⟨by rfl, ?_⟩) (by assumption) ?_
          rotate_left
          · intro w hSw; (try dsimp only at hSw); go_simp; try with_reducible rfl
          go_simp
          refine wpAnyH_take (i := 9) (v := ?_) rfl (by kernel_rfl) (by kernel_rfl) (by kernel_rfl) (fun _ _ _ h => h) (Or.inl ⟨by rfl, ?_⟩) (by assumption) ?_
          rotate_left
          · intro w hSw; (try dsimp only at hSw); go_simp; try with_reducible rfl
          go_simp
          refine wpAnyH_take (i := 10) (v := ?_) rfl (by kernel_rfl) (by kernel_rfl) (by kernel_rfl) (fun _ _ _ h => h) (Or.inl ⟨by rfl, ?_⟩) (by assumption) ?_
          rotate_left
          · intro w hSw; (try dsimp only at hSw); go_simp; try with_reducible rfl
          go_simp
          refine wpAnyH_take (i := 11) (v := ?_) rfl (by kernel_rfl) (by kernel_rfl) (by kernel_rfl) (fun _ _ _ h => h) (Or.inl ⟨by rfl, ?_⟩) (by assumption) ?_
          rotate_left
          · intro w hSw; (try dsimp only at hSw); go_simp; try with_reducible rfl
          go_simp
          refine wpAnyH_take (i := 12) (v := ?_) rfl (by kernel_rfl) (by kernel_rfl) (by kernel_rfl) (fun _ _ _ h => h) (Or.inl ⟨by rfl, ?_⟩) (by assumption) ?_
          rotate_left
          · intro w hSw; (try dsimp only at hSw); go_simp; try with_reducible rfl
          go_simp
          refine wpAnyH_take (i := 13) (v := ?_) rfl (by kernel_rfl) (by kernel_rfl) (by kernel_rfl) (fun _ _ _ h => h) (Or.inl ⟨by rfl, ?_⟩) (by assumption) ?_
          rotate_left
          · intro w hSw; (try dsimp only at hSw); go_simp; try with_reducible rfl
          go_simp
          refine wpAnyH_take (i := 14) (v := ?_) rfl (by kernel_rfl) (by kernel_rfl) (by kernel_rfl) (fun _ _ _ h => h) (Or.inl ⟨by rfl, ?_⟩) (by assumption) ?_
          rotate_left
          · intro w hSw; (try dsimp only at hSw); go_simp; try with_reducible rfl
          go_simp
          refine wpAnyH_take (i := 15) (v := ?_) rfl (by kernel_rfl) (by kernel_rfl) (by kernel_rfl) (fun _ _ _ h => h) (Or.inl ⟨by rfl, ?_⟩) (by assumption) ?_
          rotate_left
          · intro w hSw; (try dsimp only at hSw); go_simp; try with_reducible rfl
          go_simp
          refine wpAnyH_take (i := 16) (v := ?_) rfl (by kernel_rfl) (by kernel_rfl) (by kernel_rfl) (fun _ _ _ h => h) (Or.inl ⟨by rfl, ?_⟩) (by assumption) ?_
          rotate_left
          · intro w hSw; (try dsimp only at hSw); go_simp; try with_reducible rfl
          go_simp
          refine wpAnyH_take (i := 17) (v := ?_) rfl (by kernel_rfl) (by kernel_rfl) (by kernel_rfl) (fun _ _ _ h => h) (Or.inl ⟨by rfl, ?_⟩) (by assumption) ?_
          rotate_left
          · intro w hSw; (try dsimp only at hSw); go_simp; try with_reducible rfl
          go_simp
          refine wpAnyH_take (i := 18) (v := ?_) rfl (by kernel_rfl) (by kernel_rfl) (by kernel_rfl) (fun _ _ _ h => h) (Or.inl ⟨by rfl, ?_⟩) (by assumption) ?_
          rotate_left
          · intro w hSw; (try dsimp only at hSw); go_simp; try with_reducible rfl
          go_simp
          refine wpAnyH_take (i := 19) (v := ?_) rfl (by kernel_rfl) (by kernel_rfl) (by kernel_rfl) (fun _ _ _ h => h) (Or.inl ⟨by rfl, ?_⟩) (by assumption) ?_
          rotate_left
          · intro w hSw; (try dsimp only at hSw); go_simp; try with_reducible rfl
          go_simp
          refine wpAnyH_take (i := 20) (v := ?_) rfl (by kernel_rfl) (by kernel_rfl) (by kernel_rfl) (fun _ _ _ h => h) (Or.inl ⟨by rfl, ?_⟩) (by assumption) ?_
          rotate_left
          · intro w hSw; (try dsimp only at hSw); go_simp; try with_reducible rfl
          go_simp
          refine wpAnyH_take (i := 21) (v := ?_) rfl (by kernel_rfl) (by kernel_rfl) (by kernel_rfl) (fun _ _ _ h => h) (Or.inl ⟨by rfl, ?_⟩) (by assumption) ?_
          rotate_left
          · intro w hSw; (try dsimp only at hSw); go_simp; try with_reducible rfl
          go_simp
          refine wpAnyH_ready (rs := [22]) (by kernel_rfl) (by simp) ?_
          refine AllReadyH.cons rfl (fun K hK => ?_) AllReadyH.nil
          go_simp
          refine (HE1.out _ H10.out.drew).mono ?_
          rintro e w11 ⟨rfl, hb⟩
          have H11 : Hid (Below wL.heap.size wL w11) := H10.out.drew.trans (hb.mono H10.out.drew.size)
          clear hb
          refine hK.out _ _ ?_ (fun hHeld => ?_)
          · exact HCC.out _ H11.out
          clear hK K
          go_simp
          refine wpAnyH_take (i := 23) (v := ?_) rfl (by kernel_rfl) (by kernel_rfl) (by kernel_rfl) (fun _ _ _ h => h) (Or.inl ⟨by rfl, ?_⟩) (by assumption) ?_
          rotate_left
          · intro w hSw; (try dsimp only at hSw); go_simp; try with_reducible rfl
          go_simp
          refine wpAnyH_take (i := 24) (v := ?_) rfl (by kernel_rfl) (by kernel_rfl) (by kernel_rfl) (fun _ _ _ h => h) (Or.inl ⟨by rfl, ?_⟩) (by assumption) ?_
          rotate_left
          · intro w hSw; (try dsimp only at hSw); go_simp; try with_reducible rfl
          go_simp
          refine wpAnyH_take (i := 25) (v := ?_) rfl (by kernel_rfl) (by kernel_rfl) (by kernel_rfl) (fun _ _ _ h => h) (Or.inl ⟨by rfl, ?_⟩) (by assumption) ?_
          rotate_left
          · intro w hSw; (try dsimp only at hSw); go_simp; try with_reducible rfl
          go_simp
          refine wpAnyH_take (i := 26) (v := ?_) rfl (by kernel_rfl) (by kernel_rfl) (by kernel_rfl) (fun _ _ _ h => h) (Or.inl ⟨by rfl, ?_⟩) (by assumption) ?_
          rotate_left
          · intro w hSw; (try dsimp only at hSw); go_simp; try with_reducible rfl
          go_simp
          refine wpAnyH_take (i := 28) (v := ?_) rfl (by kernel_rfl) (by kernel_rfl) (by kernel_rfl) (fun _ _ _ h => h) (Or.inl ⟨by rfl, ?_⟩) (by assumption) ?_
          rotate_left
          · intro w hSw; (try dsimp only at hSw); go_simp; try with_reducible rfl
          go_simp
          refine wpAnyH_take (i := 29) (v := ?_) rfl (by kernel_rfl) (by kernel_rfl) (by kernel_rfl) (fun _ _ _ h => h) (Or.inl ⟨by rfl, ?_⟩) (by assumption) ?_
          rotate_left
          · intro w hSw; (try dsimp only at hSw); go_simp; try with_reducible rfl
          go_simp
          refine wpAnyH_take (i := 27) (v := ?_) rfl (by kernel_rfl) (by kernel_rfl) (by kernel_rfl) (fun _ _ _ h => h) (Or.inl ⟨by rfl, ?_⟩) (by assumption) ?_
          rotate_left
          · intro w hSw; (try dsimp only at hSw); go_simp; try with_reducible rfl
          go_simp
          refine wpAnyH_take (i := 30) (v := ?_) rfl (by kernel_rfl) (by kernel_rfl) (by kernel_rfl) (fun _ _ _ h => h) (Or.inl ⟨by rfl, ?_⟩) (by assumption) ?_
          rotate_left
          · intro w hSw; (try dsimp only at hSw); go_simp; try with_reducible rfl
          go_simp
          refine wpAnyH_ready (rs := [31]) (by kernel_rfl) (by simp) ?_
          refine AllReadyH.cons rfl (fun K hK => ?_) AllReadyH.nil
          go_simp
          refine hK.out _ _ ?_ (fun hHeld => ?_)
          · exact HCC.out _ (H11.out.alloc H11.out.size _)
          clear hK K
          go_simp
          refine wpAnyH_ready (rs := [32]) (by kernel_rfl) (by simp) ?_
          refine AllReadyH.cons rfl (fun K hK => ?_) AllReadyH.nil
          go_simp
          refine (HE2.out _ H11.out).mono ?_
          rintro e w12 ⟨rfl, hb⟩
          have H12 : Hid (Below wL.heap.size wL w12) := (H11.out.alloc H11.out.size (.cells #[.int .i64 2, .int .i64 0, .int .i64 0, .int .i64 0, .int .i64 0, .int .i64 0, .bool false, .slice none 0 0, .slice (some ⟨w.heap.size, 0, none⟩) 3 3, .int .i64 12, .int .i64 0, .int .i64 0, .int .i64 3, .int .i64 0, .int .i64 0, .bool false, .slice none 0 0, .slice none 0 0] 26)).trans (hb.mono (H11.out.alloc H11.out.size (.cells #[.int .i64 2, .int .i64 0, .int .i64 0, .int .i64 0, .int .i64 0, .int .i64 0, .bool false, .slice none 0 0, .slice (some ⟨w.heap.size, 0, none⟩) 3 3, .int .i64 12, .int .i64 0, .int .i64 0, .int .i64 3, .int .i64 0, .int .i64 0, .bool false, .slice none 0 0, .slice none 0 0] 26)).size)
          clear hb
          refine hK.out _ _ ?_ (fun hHeld => ?_)
          · exact HCC.out _ H12.out
          clear hK K
          go_simp
          refine wpAnyH_take (i := 33) (v := ?_) rfl (by kernel_rfl) (by kernel_rfl) (by kernel_rfl) (fun _ _ _ h => h) (Or.inl ⟨by rfl, ?_⟩) (by assumption) ?_
          rotate_left
          · intro w hSw; (try dsimp only at hSw); go_simp; try with_reducible rfl
          go_simp
          refine wpAnyH_take (i := 34) (v := ?_) rfl (by kernel_rfl) (by kernel_rfl) (by kernel_rfl) (fun _ _ _ h => h) (Or.inl ⟨by rfl, ?_⟩) (by assumption) ?_
          rotate_left
          · intro w hSw; (try dsimp only at hSw); go_simp; try with_reducible rfl
          go_simp
          refine wpAnyH_take (i := 35) (v := ?_) rfl (by kernel_rfl) (by kernel_rfl) (by kernel_rfl) (fun _ _ _ h => h) (Or.inl ⟨by rfl, ?_⟩) (by assumption) ?_
          rotate_left
          · intro w hSw; (try dsimp only at hSw); go_simp; try with_reducible rfl
          go_simp
          refine wpAnyH_ready (rs := [36]) (by kernel_rfl) (by simp) ?_
          refine AllReadyH.cons rfl (fun K hK => ?_) AllReadyH.nil
          go_simp
          refine (HE3.out _).mono ?_
          rintro e w13 ⟨rfl, hb⟩
          have H13 : Hid (Below wL.heap.size wL w13) := H12.out.trans (hb.mono H12.out.size)
          clear hb
          refine hK.out _ _ ?_ (fun hHeld => ?_)
          · exact HCC.out _ H13.out
          clear hK K
          go_simp
          refine wpAnyH_take (i := 37) (v := ?_) rfl (by kernel_rfl) (by kernel_rfl) (by kernel_rfl) (fun _ _ _ h => h) (Or.inl ⟨by rfl, ?_⟩) (by assumption) ?_
          rotate_left
          · intro w hSw; (try dsimp only at hSw); go_simp; try with_reducible rfl
          go_simp
          refine wpAnyH_take (i := 38) (v := ?_) rfl (by kernel_rfl) (by kernel_rfl) (by kernel_rfl) (fun _ _ _ h => h) (Or.inl ⟨by rfl, ?_⟩) (by assumption) ?_
          rotate_left
          · intro w hSw; (try dsimp only at hSw); go_simp; try with_reducible rfl
          go_simp
          refine wpAnyH_take (i := 39) (v := ?_) rfl (by kernel_rfl) (by kernel_rfl) (by kernel_rfl) (fun _ _ _ h => h) (Or.inl ⟨by rfl, ?_⟩) (by assumption) ?_
          rotate_left
          · intro w hSw; (try dsimp only at hSw); go_simp; try with_reducible rfl
          go_simp
          refine wpAnyH_take (i := 40) (v := ?_) rfl (by kernel_rfl) (by kernel_rfl) (by kernel_rfl) (fun _ _ _ h => h) (Or.inl ⟨by rfl, ?_⟩) (by assumption) ?_
          rotate_left
          · intro w hSw; (try dsimp only at hSw); go_simp; try with_reducible rfl
          go_simp
          refine wpAnyH_ready (rs := [41]) (by kernel_rfl) (by simp) ?_
          refine AllReadyH.cons rfl (fun K hK => ?_) AllReadyH.nil
          go_simp
          refine (HS0.out _).mono ?_
          rintro e w14 ⟨rfl, hb⟩
          have H14 : Hid (Below wL.heap.size wL w14) := H13.out.trans (hb.mono H13.out.size)
          clear hb
          refine hK.out _ _ ?_ (fun hHeld => ?_)
          · exact HCC.out _ H14.out
          clear hK K
          go_simp
          refine wpAnyH_take (i := 42) (v := ?_) rfl (by kernel_rfl) (by kernel_rfl) (by kernel_rfl) (fun _ _ _ h => h) (Or.inl ⟨by rfl, ?_⟩) (by assumption) ?_
          rotate_left
          · intro w hSw; (try dsimp only at hSw); go_simp; try with_reducible rfl
          go_simp
          refine wpAnyH_take (i := 43) (v := ?_) rfl (by kernel_rfl) (by kernel_rfl) (by kernel_rfl) (fun _ _ _ h => h) (Or.inl ⟨by rfl, ?_⟩) (by assumption) ?_
          rotate_left
          · intro w hSw; (try dsimp only at hSw); go_simp; try with_reducible rfl
          go_simp
          refine wpAnyH_take (i := 44) (v := ?_) rfl (by kernel_rfl) (by kernel_rfl) (by kernel_rfl) (fun _ _ _ h => h) (Or.inl ⟨by rfl, ?_⟩) (by assumption) ?_
          rotate_left
          · intro w hSw; (try dsimp only at hSw); go_simp; try with_reducible rfl
          go_simp
          refine wpAnyH_take (i := 45) (v := ?_) rfl (by kernel_rfl) (by kernel_rfl) (by kernel_rfl) (fun _ _ _ h => h) (Or.inl ⟨by rfl, ?_⟩) (by assumption) ?_
          rotate_left
          · intro w hSw; (try dsimp only at hSw); go_simp; try with_reducible rfl
          go_simp
          refine wpAnyH_ready (rs := [46]) (by kernel_rfl) (by simp) ?_
          refine AllReadyH.cons rfl (fun K hK => ?_) AllReadyH.nil
          go_simp
          refine (HR1.out _).mono ?_
          rintro e w15 ⟨rfl, hb⟩
          have H15 : Hid (Below wL.heap.size wL w15) := H14.out.trans (hb.mono H14.out.size)
          clear hb
          refine hK.out _ _ ?_ (fun hHeld => ?_)
          · exact HCC.out _ H15.out
          clear hK K
          go_simp
          refine wpAnyH_take (i := 47) (v := ?_) rfl (by kernel_rfl) (by kernel_rfl) (by kernel_rfl) (fun _ _ _ h => h) (Or.inl ⟨by rfl, ?_⟩) (by assumption) ?_
          rotate_left
          · intro w hSw; (try dsimp only at hSw); go_simp; try with_reducible rfl
          go_simp
          refine wpAnyH_take (i := 48) (v := ?_) rfl (by kernel_rfl) (by kernel_rfl) (by kernel_rfl) (fun _ _ _ h => h) (Or.inl ⟨by rfl, ?_⟩) (by assumption) ?_
          rotate_left
          · intro w hSw; (try dsimp only at hSw); go_simp; try with_reducible rfl
          go_simp
          refine wpAnyH_take (i := 49) (v := ?_) rfl (by kernel_rfl) (by kernel_rfl) (by kernel_rfl) (fun _ _ _ h => h) (Or.inl ⟨by rfl, ?_⟩) (by assumption) ?_
          rotate_left
          · intro w hSw; (try dsimp only at hSw); go_simp; try with_reducible rfl
          go_simp
          refine wpAnyH_take (i := 50) (v := ?_) rfl (by kernel_rfl) (by kernel_rfl) (by kernel_rfl) (fun _ _ _ h => h) (Or.inl ⟨by rfl, ?_⟩) (by assumption) ?_
          rotate_left
          · intro w hSw; (try dsimp only at hSw); go_simp; try with_reducible rfl
          go_simp
          refine wpAnyH_take (i := 51) (v := ?_) rfl (by kernel_rfl) (by kernel_rfl) (by kernel_rfl) (fun _ _ _ h => h) (Or.inl ⟨by rfl, ?_⟩) (by assumption) ?_
          rotate_left
          · intro w hSw; (try dsimp only at hSw); go_simp; try with_reducible rfl
          go_simp
          refine wpAnyH_ready (rs := [52]) (by kernel_rfl) (by simp) ?_
          refine AllReadyH.cons rfl (fun K hK => ?_) AllReadyH.nil
          go_simp
          refine hK.out _ _ ?_ (fun hHeld => ?_)
          · exact HCC.out _ (H15.out.alloc H15.out.size _)
          clear hK K
          go_simp
          refine wpAnyH_take (i := 53) (v := ?_) rfl (by kernel_rfl) (by kernel_rfl) (by kernel_rfl) (fun _ _ _ h => h) (Or.inl ⟨by rfl, ?_⟩) (by assumption) ?_
          rotate_left
          · intro w hSw; (try dsimp only at hSw); go_simp; try with_reducible rfl
          go_simp
          refine wpAnyH_ready (rs := [54]) (by kernel_rfl) (by simp) ?_
          refine AllReadyH.cons rfl (fun K hK => ?_) AllReadyH.nil
          go_simp
          refine (HR2.out w15).mono ?_
          rintro e w16 ⟨rfl, hb⟩
          have H16 : Hid (Below wL.heap.size wL w16) := (H15.out.alloc H15.out.size (.cells #[.int .i64 4, .int .i64 5, .int .i64 2, .int .i64 3] 22)).trans (hb.mono (H15.out.alloc H15.out.size (.cells #[.int .i64 4, .int .i64 5, .int .i64 2, .int .i64 3] 22)).size)
          clear hb
          refine hK.out _ _ ?_ (fun hHeld => ?_)
          · exact HCC.out _ H16.out
          clear hK K
          go_simp
          refine wpAnyH_take (i := 55) (v := ?_) rfl (by kernel_rfl) (by kernel_rfl) (by kernel_rfl) (fun _ _ _ h => h) (Or.inl ⟨by rfl, ?_⟩) (by assumption) ?_
          rotate_left
          · intro w hSw; (try dsimp only at hSw); go_simp; try with_reducible rfl
          go_simp
          refine wpAnyH_take (i := 56) (v := ?_) rfl (by kernel_rfl) (by kernel_rfl) (by kernel_rfl) (fun _ _ _ h => h) (Or.inl ⟨by rfl, ?_⟩) (by assumption) ?_
          rotate_left
          · intro w hSw; (try dsimp only at hSw); go_simp; try with_reducible rfl
          go_simp
          refine wpAnyH_take (i := 57) (v := ?_) rfl (by kernel_rfl) (by kernel_rfl) (by kernel_rfl) (fun _ _ _ h => h) (Or.inl ⟨by rfl, ?_⟩) (by assumption) ?_
          rotate_left
          · intro w hSw; (try dsimp only at hSw); go_simp; try with_reducible rfl
          go_simp
          refine wpAnyH_take (i := 58) (v := ?_) rfl (by kernel_rfl) (by kernel_rfl) (by kernel_rfl) (fun _ _ _ h => h) (Or.inl ⟨by rfl, ?_⟩) (by assumption) ?_
          rotate_left
          · intro w hSw; (try dsimp only at hSw); go_simp; try with_reducible rfl
          go_simp
          refine wpAnyH_ready (rs := [59]) (by kernel_rfl) (by simp) ?_
          refine AllReadyH.cons rfl (fun K hK => ?_) AllReadyH.nil
          go_simp
          refine (HR3.out _).mono ?_
          rintro e w17 ⟨rfl, hb⟩
          have H17 : Hid (Below wL.heap.size wL w17) := H16.out.trans (hb.mono H16.out.size)
          clear hb
          refine hK.out _ _ ?_ (fun hHeld => ?_)
          · exact HCC.out _ H17.out
          clear hK K
          go_simp
          refine wpAnyH_take (i := 60) (v := ?_) rfl (by kernel_rfl) (by kernel_rfl) (by kernel_rfl) (fun _ _ _ h => h) (Or.inl ⟨by rfl, ?_⟩) (by assumption) ?_
          rotate_left
          · intro w hSw; (try dsimp only at hSw); go_simp; try with_reducible rfl
          go_simp
          refine wpAnyH_take (i := 61) (v := ?_) rfl (by kernel_rfl) (by kernel_rfl) (by kernel_rfl) (fun _ _ _ h => h) (Or.inl ⟨by rfl, ?_⟩) (by assumption) ?_
          rotate_left
          · intro w hSw; (try dsimp only at hSw); go_simp; try with_reducible rfl
          go_simp
          refine wpAnyH_ready (rs := [62]) (by kernel_rfl) (by simp) ?_
          refine AllReadyH.cons rfl (fun K hK => ?_) AllReadyH.nil
          go_simp
          refine hK.out _ _ ?_ (fun hHeld => ?_)
          · exact HCC.out _ (H17.out.alloc H17.out.size _)
          clear hK K
          go_simp
          refine wpAnyH_take (i := 63) (v := ?_) rfl (by kernel_rfl) (by kernel_rfl) (by kernel_rfl) (fun _ _ _ h => h) (Or.inl ⟨by rfl, ?_⟩) (by assumption) ?_
          rotate_left
          · intro w hSw; (try dsimp only at hSw); go_simp; try with_reducible rfl
          go_simp
          refine wpAnyH_ready (rs := [64]) (by kernel_rfl) (by simp) ?_
          refine AllReadyH.cons rfl (fun K hK => ?_) AllReadyH.nil
          go_simp
          refine (HR4.out w17).mono ?_
          rintro e w18 ⟨rfl, hb⟩
          have H18 : Hid (Below wL.heap.size wL w18) := (H17.out.alloc H17.out.size (.cells #[.int .u8 1] 5)).trans (hb.mono (H17.out.alloc H17.out.size (.cells #[.int .u8 1] 5)).size)
          clear hb
          refine hK.out _ _ ?_ (fun hHeld => ?_)
          · exact HCC.out _ H18.out
          clear hK K
          go_simp
          refine wpAnyH_take (i := 65) (v := ?_) rfl (by kernel_rfl) (by kernel_rfl) (by kernel_rfl) (fun _ _ _ h => h) (Or.inl ⟨by rfl, ?_⟩) (by assumption) ?_
          rotate_left
          · intro w hSw; (try dsimp only at hSw); go_simp; try with_reducible rfl
          go_simp
          refine wpAnyH_take (i := 66) (v := ?_) rfl (by kernel_rfl) (by kernel_rfl) (by kernel_rfl) (fun _ _ _ h => h) (Or.inl ⟨by rfl, ?_⟩) (by assumption) ?_
          rotate_left
          · intro w hSw; (try dsimp only at hSw); go_simp; try with_reducible rfl
          go_simp
          refine wpAnyH_take (i := 67) (v := ?_) rfl (by kernel_rfl) (by kernel_rfl) (by kernel_rfl) (fun _ _ _ h => h) (Or.inl ⟨by rfl, ?_⟩) (by assumption) ?_
          rotate_left
          · intro w hSw; (try dsimp only at hSw); go_simp; try with_reducible rfl
          go_simp
          refine wpAnyH_done (by kernel_rfl) ?_ _
          have HWE : Hid (Below w.heap.size w w18) := HWT.out.trans (H18.out.mono HWT.out.size)
          go_wp2_with fail
          go_ret
          exact ⟨ret_bool (by simp), HWE.out⟩
end Go.Proofs.YtkphmgfjlbdpgaaDoor
