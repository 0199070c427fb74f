/- The hand's Frame, of a raw one that is not bent: a contract. Conditions: as the theorem lists them. -/
import Derived.Test.YtnhkenecogjeaaaDoorG1
namespace Go.Proofs.YtnhkenecogjeaaaDoor
open Go Go.RowKit

/-- A frame that is right. -/
structure OkF (f : Fr) : Prop where
  k : 1 ≤ f.k ∧ f.k ≤ 12
  num : wid f.id ≠ 0 ∧ wid f.off ≠ 0 ∧ wid f.a ≠ 0 ∧ wid f.b ≠ 0
  bo : f.b ≤ f.off
  data : f.data.length ≤ 120 ∧ ∀ c ∈ f.data, c < 256
  room : f.off + f.data.length ≤ 4611686018427387903
  dg : f.k = 9 → f.data ≠ []
  zid : f.k = 3 ∨ f.k = 4 ∨ f.k = 5 ∨ f.k = 7 ∨ f.k = 10 ∨ f.k = 11 ∨ f.id = 0
  za : f.k = 4 ∨ f.k = 5 ∨ f.k = 7 ∨ f.k = 6 ∨ f.k = 12 ∨ f.k = 8 ∨ f.a = 0
  zoff : f.k = 3 ∨ f.k = 4 ∨ f.off = 0
  zb : f.k = 4 ∨ f.b = 0
  zfin : f.k = 3 ∨ f.k = 8 ∨ f.fin = false
  zdata : f.k = 3 ∨ f.k = 9 ∨ f.data = []
  zsp : (f.k = 2 ∧ ∃ m, 1 ≤ m ∧ m ≤ 8 ∧ SpsOk f.spans m) ∨ (f.k ≠ 2 ∧ f.spans = [])

/-- A value that reads as a frame; its bytes and its spans lie in rows of their own, from block lo on. -/
def FrOwn (w : World) (lo : Nat) (f : Fr) (v : Value) : Prop :=
  ∃ A n c A2 n2 c2, v = frA f A n c A2 n2 c2 ∧ f.data.length = n ∧ f.spans.length = n2 * 2 ∧ w.ownsRow lo 5 1 (.slice A n c) n (bv f.data) ∧ w.ownsRow lo 22 2 (.slice A2 n2 c2) n2 (ints f.spans)

def FrameP (w : World) (e : Ending) (w' : World) : Prop := ∃ f v, e = .returned v ∧ OkF f ∧ FrOwn w' w.heap.size f v ∧ Below w.heap.size w w'

theorem wid0 : wid 0 ≠ 0 := by decide
theorem wid_in {n : Int} (h : 0 ≤ n) (h2 : n ≤ 4611686018427387903) : wid n ≠ 0 := by unfold wid; (repeat' split) <;> omega
theorem okF_mk (k id off a b : Int) (fin : Bool) (data : List Nat) (spans : List Int) (hk : 1 ≤ k ∧ k ≤ 12) (hn : wid id ≠ 0 ∧ wid off ≠ 0 ∧ wid a ≠ 0 ∧ wid b ≠ 0) (bo : b ≤ off) (hd : data.length ≤ 120 ∧ ∀ c ∈ data, c < 256) (room : off + data.length ≤ 4611686018427387903)
    (dg : k = 9 → data ≠ []) (zid : k = 3 ∨ k = 4 ∨ k = 5 ∨ k = 7 ∨ k = 10 ∨ k = 11 ∨ id = 0) (za : k = 4 ∨ k = 5 ∨ k = 7 ∨ k = 6 ∨ k = 12 ∨ k = 8 ∨ a = 0) (zoff : k = 3 ∨ k = 4 ∨ off = 0) (zb : k = 4 ∨ b = 0) (zfin : k = 3 ∨ k = 8 ∨ fin = false) (zdata : k = 3 ∨ k = 9 ∨ data = [])
    (zsp : (k = 2 ∧ ∃ m, 1 ≤ m ∧ m ≤ 8 ∧ SpsOk spans m) ∨ (k ≠ 2 ∧ spans = [])) : OkF ⟨k, id, off, a, b, 0, fin, data, spans⟩ := ⟨hk, hn, bo, hd, room, dg, zid, za, zoff, zb, zfin, zdata, zsp⟩

set_option maxRecDepth 100000 in
set_option maxHeartbeats 4000000 in
theorem frame_1 (k id off a b : Int) (fin : Bool) (A : Option Addr) (bs : List Nat) (c : Nat) (A2 : Option Addr) (l : List Int) (c2 : Nat) (w : World) (hp : k % 12 = 0) :
    Calls Tryd.prog 29 #[.agg #[.int .i64 k, .int .i64 id, .int .i64 off, .int .i64 a, .int .i64 b, .int .i64 0, .bool fin, .slice A bs.length c, .slice A2 l.length c2]] w (FrameP w) := by
  have HP : Hid (∀ W, Calls Tryd.prog 15 #[.int .i64 k, .int .i64 12] W fun e w' => e = .returned (.int .i64 0) ∧ W = w') := fun W => by have := pick_any k 12 W (by decide) (by decide); rw [hp] at this; exact this
  have HB : Hid (∀ W, Calls Tryd.prog 15 #[.int .i64 0, .int .i64 20] W fun e w' => e = .returned (.int .i64 0) ∧ W = w') := fun W => pick_any 0 20 W (by decide) (by decide)
  clear hp
  go_enter Tryd.func29, Tryd.ntmps29
  go_wp2_with fail
  refine (HP.out _).mono ?_
  rintro e w' ⟨rfl, rfl⟩
  go_wp2_with fail
  refine (HB.out _).mono ?_
  rintro e w' ⟨rfl, rfl⟩
  go_wp2_with fail
  refine bodyPost_ret (v := frA ⟨1, 0, 0, 0, 0, 0, false, [], []⟩ none 0 0 none 0 0) (by simp [results, Tryd.results29, go_sem, frA]) rfl ?_
  exact ⟨⟨1, 0, 0, 0, 0, 0, false, [], []⟩, _, rfl, okF_mk _ _ _ _ _ _ _ _ (by decide) ⟨wid0, wid0, wid0, wid0⟩ (by omega) ⟨by simp, by simp⟩ (by simp only [List.length_nil]; omega) (by simp) (by simp) (by simp) (by simp) (by simp) (by simp) (by simp) (.inr ⟨by decide, rfl⟩),
    ⟨_, _, _, _, _, _, rfl, rfl, rfl, own_nil _ _ _ _, own_nil _ _ _ _⟩, ((((Below.refl _ _).alloc (Nat.le_refl _) _).alloc (by simp) _).alloc (by simp; omega) _)⟩
set_option maxRecDepth 100000 in
set_option maxHeartbeats 4000000 in
theorem frame_4 (k id off a b : Int) (fin : Bool) (A : Option Addr) (bs : List Nat) (c : Nat) (A2 : Option Addr) (l : List Int) (c2 : Nat) (w : World) (hp : k % 12 = 3) (ha1 : -9223372036854775808 ≤ a) (ha2 : a ≤ 9223372036854775807) (hb1 : -9223372036854775808 ≤ b) (hb2 : b ≤ 9223372036854775807) (hid1 : -9223372036854775808 ≤ id) (hid2 : id ≤ 9223372036854775807) (hoff1 : -9223372036854775808 ≤ off) (hoff2 : off ≤ 9223372036854775807) :
    Calls Tryd.prog 29 #[.agg #[.int .i64 k, .int .i64 id, .int .i64 off, .int .i64 a, .int .i64 b, .int .i64 0, .bool fin, .slice A bs.length c, .slice A2 l.length c2]] w (FrameP w) := by
  have HP : Hid (∀ W, Calls Tryd.prog 15 #[.int .i64 k, .int .i64 12] W fun e w' => e = .returned (.int .i64 3) ∧ W = w') := fun W => by have := pick_any k 12 W (by decide) (by decide); rw [hp] at this; exact this
  have HB : Hid (∀ W, Calls Tryd.prog 15 #[.int .i64 0, .int .i64 20] W fun e w' => e = .returned (.int .i64 0) ∧ W = w') := fun W => pick_any 0 20 W (by decide) (by decide)
  have HMid := Lib.hid (fun W => hmay_any id W hid1 hid2)
  have Mid := mayF_in id
  obtain ⟨id_, hmid⟩ : ∃ y, Hid (mayF id = y) := ⟨_, rfl⟩
  rw [hmid.out] at HMid Mid
  obtain ⟨Mid1, Mid2⟩ := Mid
  have HMa := Lib.hid (fun W => hmay_any a W ha1 ha2)
  have Ma := mayF_in a
  obtain ⟨a_, hma⟩ : ∃ y, Hid (mayF a = y) := ⟨_, rfl⟩
  rw [hma.out] at HMa Ma
  obtain ⟨Ma1, Ma2⟩ := Ma
  have HMoff := Lib.hid (fun W => hmay_any off W hoff1 hoff2)
  have Moff := mayF_in off
  obtain ⟨off_, hmoff⟩ : ∃ y, Hid (mayF off = y) := ⟨_, rfl⟩
  rw [hmoff.out] at HMoff Moff
  obtain ⟨Moff1, Moff2⟩ := Moff
  have HKb := Lib.hid (fun W => pick_any b (off_ + 1) W (by omega) (by omega))
  have Kb1 := Int.emod_nonneg b (show (off_ + 1 : Int) ≠ 0 by omega)
  have Kb2 := Int.emod_lt_of_pos b (show (0 : Int) < off_ + 1 by omega)
  obtain ⟨b_, hkb⟩ : ∃ y, Hid (b % (off_ + 1) = y) := ⟨_, rfl⟩
  rw [hkb.out] at HKb Kb1 Kb2
  clear hp
  go_enter Tryd.func29, Tryd.ntmps29
  go_wp2_with fail
  refine (HP.out _).mono ?_
  rintro e w' ⟨rfl, rfl⟩
  go_wp2_with fail
  refine (HMid.out _).mono ?_
  rintro e w' ⟨rfl, rfl⟩
  go_wp2_with fail
  refine (HMa.out _).mono ?_
  rintro e w' ⟨rfl, rfl⟩
  go_wp2_with fail
  refine (HMoff.out _).mono ?_
  rintro e w' ⟨rfl, rfl⟩
  go_wp2_with fail
  refine (HKb.out _).mono ?_
  rintro e w' ⟨rfl, rfl⟩
  go_wp2_with fail
  refine (HB.out _).mono ?_
  rintro e w' ⟨rfl, rfl⟩
  go_wp2_with fail
  refine bodyPost_ret (v := frA ⟨4, id_, off_, a_, b_, 0, false, [], []⟩ none 0 0 none 0 0) (by simp [results, Tryd.results29, go_sem, frA]) rfl ?_
  exact ⟨⟨4, id_, off_, a_, b_, 0, false, [], []⟩, _, rfl, okF_mk _ _ _ _ _ _ _ _ (by decide) ⟨(wid_in (by omega) (by omega)), (wid_in (by omega) (by omega)), (wid_in (by omega) (by omega)), (wid_in (by omega) (by omega))⟩ (by omega) ⟨by simp, by simp⟩ (by simp only [List.length_nil]; omega) (by simp) (by simp) (by simp) (by simp) (by simp) (by simp) (by simp) (.inr ⟨by decide, rfl⟩),
    ⟨_, _, _, _, _, _, rfl, rfl, rfl, own_nil _ _ _ _, own_nil _ _ _ _⟩, ((((Below.refl _ _).alloc (Nat.le_refl _) _).alloc (by simp) _).alloc (by simp; omega) _)⟩
set_option maxRecDepth 100000 in
set_option maxHeartbeats 4000000 in
theorem frame_5 (k id off a b : Int) (fin : Bool) (A : Option Addr) (bs : List Nat) (c : Nat) (A2 : Option Addr) (l : List Int) (c2 : Nat) (w : World) (hp : k % 12 = 4) (ha1 : -9223372036854775808 ≤ a) (ha2 : a ≤ 9223372036854775807) (hid1 : -9223372036854775808 ≤ id) (hid2 : id ≤ 9223372036854775807) :
    Calls Tryd.prog 29 #[.agg #[.int .i64 k, .int .i64 id, .int .i64 off, .int .i64 a, .int .i64 b, .int .i64 0, .bool fin, .slice A bs.length c, .slice A2 l.length c2]] w (FrameP w) := by
  have HP : Hid (∀ W, Calls Tryd.prog 15 #[.int .i64 k, .int .i64 12] W fun e w' => e = .returned (.int .i64 4) ∧ W = w') := fun W => by have := pick_any k 12 W (by decide) (by decide); rw [hp] at this; exact this
  have HB : Hid (∀ W, Calls Tryd.prog 15 #[.int .i64 0, .int .i64 20] W fun e w' => e = .returned (.int .i64 0) ∧ W = w') := fun W => pick_any 0 20 W (by decide) (by decide)
  have HMid := Lib.hid (fun W => hmay_any id W hid1 hid2)
  have Mid := mayF_in id
  obtain ⟨id_, hmid⟩ : ∃ y, Hid (mayF id = y) := ⟨_, rfl⟩
  rw [hmid.out] at HMid Mid
  obtain ⟨Mid1, Mid2⟩ := Mid
  have HMa := Lib.hid (fun W => hmay_any a W ha1 ha2)
  have Ma := mayF_in a
  obtain ⟨a_, hma⟩ : ∃ y, Hid (mayF a = y) := ⟨_, rfl⟩
  rw [hma.out] at HMa Ma
  obtain ⟨Ma1, Ma2⟩ := Ma
  clear hp
  go_enter Tryd.func29, Tryd.ntmps29
  go_wp2_with fail
  refine (HP.out _).mono ?_
  rintro e w' ⟨rfl, rfl⟩
  go_wp2_with fail
  refine (HMid.out _).mono ?_
  rintro e w' ⟨rfl, rfl⟩
  go_wp2_with fail
  refine (HMa.out _).mono ?_
  rintro e w' ⟨rfl, rfl⟩
  go_wp2_with fail
  refine (HB.out _).mono ?_
  rintro e w' ⟨rfl, rfl⟩
  go_wp2_with fail
  refine bodyPost_ret (v := frA ⟨5, id_, 0, a_, 0, 0, false, [], []⟩ none 0 0 none 0 0) (by simp [results, Tryd.results29, go_sem, frA]) rfl ?_
  exact ⟨⟨5, id_, 0, a_, 0, 0, false, [], []⟩, _, rfl, okF_mk _ _ _ _ _ _ _ _ (by decide) ⟨(wid_in (by omega) (by omega)), wid0, (wid_in (by omega) (by omega)), wid0⟩ (by omega) ⟨by simp, by simp⟩ (by simp only [List.length_nil]; omega) (by simp) (by simp) (by simp) (by simp) (by simp) (by simp) (by simp) (.inr ⟨by decide, rfl⟩),
    ⟨_, _, _, _, _, _, rfl, rfl, rfl, own_nil _ _ _ _, own_nil _ _ _ _⟩, ((((Below.refl _ _).alloc (Nat.le_refl _) _).alloc (by simp) _).alloc (by simp; omega) _)⟩
set_option maxRecDepth 100000 in
set_option maxHeartbeats 4000000 in
theorem frame_7 (k id off a b : Int) (fin : Bool) (A : Option Addr) (bs : List Nat) (c : Nat) (A2 : Option Addr) (l : List Int) (c2 : Nat) (w : World) (hp : k % 12 = 6) (ha1 : -9223372036854775808 ≤ a) (ha2 : a ≤ 9223372036854775807) (hid1 : -9223372036854775808 ≤ id) (hid2 : id ≤ 9223372036854775807) :
    Calls Tryd.prog 29 #[.agg #[.int .i64 k, .int .i64 id, .int .i64 off, .int .i64 a, .int .i64 b, .int .i64 0, .bool fin, .slice A bs.length c, .slice A2 l.length c2]] w (FrameP w) := by
  have HP : Hid (∀ W, Calls Tryd.prog 15 #[.int .i64 k, .int .i64 12] W fun e w' => e = .returned (.int .i64 6) ∧ W = w') := fun W => by have := pick_any k 12 W (by decide) (by decide); rw [hp] at this; exact this
  have HB : Hid (∀ W, Calls Tryd.prog 15 #[.int .i64 0, .int .i64 20] W fun e w' => e = .returned (.int .i64 0) ∧ W = w') := fun W => pick_any 0 20 W (by decide) (by decide)
  have HMid := Lib.hid (fun W => hmay_any id W hid1 hid2)
  have Mid := mayF_in id
  obtain ⟨id_, hmid⟩ : ∃ y, Hid (mayF id = y) := ⟨_, rfl⟩
  rw [hmid.out] at HMid Mid
  obtain ⟨Mid1, Mid2⟩ := Mid
  have HMa := Lib.hid (fun W => hmay_any a W ha1 ha2)
  have Ma := mayF_in a
  obtain ⟨a_, hma⟩ : ∃ y, Hid (mayF a = y) := ⟨_, rfl⟩
  rw [hma.out] at HMa Ma
  obtain ⟨Ma1, Ma2⟩ := Ma
  clear hp
  go_enter Tryd.func29, Tryd.ntmps29
  go_wp2_with fail
  refine (HP.out _).mono ?_
  rintro e w' ⟨rfl, rfl⟩
  go_wp2_with fail
  refine (HMid.out _).mono ?_
  rintro e w' ⟨rfl, rfl⟩
  go_wp2_with fail
  refine (HMa.out _).mono ?_
  rintro e w' ⟨rfl, rfl⟩
  go_wp2_with fail
  refine (HB.out _).mono ?_
  rintro e w' ⟨rfl, rfl⟩
  go_wp2_with fail
  refine bodyPost_ret (v := frA ⟨7, id_, 0, a_, 0, 0, false, [], []⟩ none 0 0 none 0 0) (by simp [results, Tryd.results29, go_sem, frA]) rfl ?_
  exact ⟨⟨7, id_, 0, a_, 0, 0, false, [], []⟩, _, rfl, okF_mk _ _ _ _ _ _ _ _ (by decide) ⟨(wid_in (by omega) (by omega)), wid0, (wid_in (by omega) (by omega)), wid0⟩ (by omega) ⟨by simp, by simp⟩ (by simp only [List.length_nil]; omega) (by simp) (by simp) (by simp) (by simp) (by simp) (by simp) (by simp) (.inr ⟨by decide, rfl⟩),
    ⟨_, _, _, _, _, _, rfl, rfl, rfl, own_nil _ _ _ _, own_nil _ _ _ _⟩, ((((Below.refl _ _).alloc (Nat.le_refl _) _).alloc (by simp) _).alloc (by simp; omega) _)⟩
set_option maxRecDepth 100000 in
set_option maxHeartbeats 4000000 in
theorem frame_6 (k id off a b : Int) (fin : Bool) (A : Option Addr) (bs : List Nat) (c : Nat) (A2 : Option Addr) (l : List Int) (c2 : Nat) (w : World) (hp : k % 12 = 5) (ha1 : -9223372036854775808 ≤ a) (ha2 : a ≤ 9223372036854775807) :
    Calls Tryd.prog 29 #[.agg #[.int .i64 k, .int .i64 id, .int .i64 off, .int .i64 a, .int .i64 b, .int .i64 0, .bool fin, .slice A bs.length c, .slice A2 l.length c2]] w (FrameP w) := by
  have HP : Hid (∀ W, Calls Tryd.prog 15 #[.int .i64 k, .int .i64 12] W fun e w' => e = .returned (.int .i64 5) ∧ W = w') := fun W => by have := pick_any k 12 W (by decide) (by decide); rw [hp] at this; exact this
  have HB : Hid (∀ W, Calls Tryd.prog 15 #[.int .i64 0, .int .i64 20] W fun e w' => e = .returned (.int .i64 0) ∧ W = w') := fun W => pick_any 0 20 W (by decide) (by decide)
  have HMa := Lib.hid (fun W => hmay_any a W ha1 ha2)
  have Ma := mayF_in a
  obtain ⟨a_, hma⟩ : ∃ y, Hid (mayF a = y) := ⟨_, rfl⟩
  rw [hma.out] at HMa Ma
  obtain ⟨Ma1, Ma2⟩ := Ma
  clear hp
  go_enter Tryd.func29, Tryd.ntmps29
  go_wp2_with fail
  refine (HP.out _).mono ?_
  rintro e w' ⟨rfl, rfl⟩
  go_wp2_with fail
  refine (HMa.out _).mono ?_
  rintro e w' ⟨rfl, rfl⟩
  go_wp2_with fail
  refine (HB.out _).mono ?_
  rintro e w' ⟨rfl, rfl⟩
  go_wp2_with fail
  refine bodyPost_ret (v := frA ⟨6, 0, 0, a_, 0, 0, false, [], []⟩ none 0 0 none 0 0) (by simp [results, Tryd.results29, go_sem, frA]) rfl ?_
  exact ⟨⟨6, 0, 0, a_, 0, 0, false, [], []⟩, _, rfl, okF_mk _ _ _ _ _ _ _ _ (by decide) ⟨wid0, wid0, (wid_in (by omega) (by omega)), wid0⟩ (by omega) ⟨by simp, by simp⟩ (by simp only [List.length_nil]; omega) (by simp) (by simp) (by simp) (by simp) (by simp) (by simp) (by simp) (.inr ⟨by decide, rfl⟩),
    ⟨_, _, _, _, _, _, rfl, rfl, rfl, own_nil _ _ _ _, own_nil _ _ _ _⟩, ((((Below.refl _ _).alloc (Nat.le_refl _) _).alloc (by simp) _).alloc (by simp; omega) _)⟩
set_option maxRecDepth 100000 in
set_option maxHeartbeats 4000000 in
theorem frame_12 (k id off a b : Int) (fin : Bool) (A : Option Addr) (bs : List Nat) (c : Nat) (A2 : Option Addr) (l : List Int) (c2 : Nat) (w : World) (hp : k % 12 = 11) (ha1 : -9223372036854775808 ≤ a) (ha2 : a ≤ 9223372036854775807) :
    Calls Tryd.prog 29 #[.agg #[.int .i64 k, .int .i64 id, .int .i64 off, .int .i64 a, .int .i64 b, .int .i64 0, .bool fin, .slice A bs.length c, .slice A2 l.length c2]] w (FrameP w) := by
  have HP : Hid (∀ W, Calls Tryd.prog 15 #[.int .i64 k, .int .i64 12] W fun e w' => e = .returned (.int .i64 11) ∧ W = w') := fun W => by have := pick_any k 12 W (by decide) (by decide); rw [hp] at this; exact this
  have HB : Hid (∀ W, Calls Tryd.prog 15 #[.int .i64 0, .int .i64 20] W fun e w' => e = .returned (.int .i64 0) ∧ W = w') := fun W => pick_any 0 20 W (by decide) (by decide)
  have HMa := Lib.hid (fun W => hmay_any a W ha1 ha2)
  have Ma := mayF_in a
  obtain ⟨a_, hma⟩ : ∃ y, Hid (mayF a = y) := ⟨_, rfl⟩
  rw [hma.out] at HMa Ma
  obtain ⟨Ma1, Ma2⟩ := Ma
  clear hp
  go_enter Tryd.func29, Tryd.ntmps29
  go_wp2_with fail
  refine (HP.out _).mono ?_
  rintro e w' ⟨rfl, rfl⟩
  go_wp2_with fail
  refine (HMa.out _).mono ?_
  rintro e w' ⟨rfl, rfl⟩
  go_wp2_with fail
  refine (HB.out _).mono ?_
  rintro e w' ⟨rfl, rfl⟩
  go_wp2_with fail
  refine bodyPost_ret (v := frA ⟨12, 0, 0, a_, 0, 0, false, [], []⟩ none 0 0 none 0 0) (by simp [results, Tryd.results29, go_sem, frA]) rfl ?_
  exact ⟨⟨12, 0, 0, a_, 0, 0, false, [], []⟩, _, rfl, okF_mk _ _ _ _ _ _ _ _ (by decide) ⟨wid0, wid0, (wid_in (by omega) (by omega)), wid0⟩ (by omega) ⟨by simp, by simp⟩ (by simp only [List.length_nil]; omega) (by simp) (by simp) (by simp) (by simp) (by simp) (by simp) (by simp) (.inr ⟨by decide, rfl⟩),
    ⟨_, _, _, _, _, _, rfl, rfl, rfl, own_nil _ _ _ _, own_nil _ _ _ _⟩, ((((Below.refl _ _).alloc (Nat.le_refl _) _).alloc (by simp) _).alloc (by simp; omega) _)⟩
set_option maxRecDepth 100000 in
set_option maxHeartbeats 4000000 in
theorem frame_8 (k id off a b : Int) (fin : Bool) (A : Option Addr) (bs : List Nat) (c : Nat) (A2 : Option Addr) (l : List Int) (c2 : Nat) (w : World) (hp : k % 12 = 7) (ha1 : -9223372036854775808 ≤ a) (ha2 : a ≤ 9223372036854775807) :
    Calls Tryd.prog 29 #[.agg #[.int .i64 k, .int .i64 id, .int .i64 off, .int .i64 a, .int .i64 b, .int .i64 0, .bool fin, .slice A bs.length c, .slice A2 l.length c2]] w (FrameP w) := by
  have HP : Hid (∀ W, Calls Tryd.prog 15 #[.int .i64 k, .int .i64 12] W fun e w' => e = .returned (.int .i64 7) ∧ W = w') := fun W => by have := pick_any k 12 W (by decide) (by decide); rw [hp] at this; exact this
  have HB : Hid (∀ W, Calls Tryd.prog 15 #[.int .i64 0, .int .i64 20] W fun e w' => e = .returned (.int .i64 0) ∧ W = w') := fun W => pick_any 0 20 W (by decide) (by decide)
  have HMa := Lib.hid (fun W => hmay_any a W ha1 ha2)
  have Ma := mayF_in a
  obtain ⟨a_, hma⟩ : ∃ y, Hid (mayF a = y) := ⟨_, rfl⟩
  rw [hma.out] at HMa Ma
  obtain ⟨Ma1, Ma2⟩ := Ma
  clear hp
  go_enter Tryd.func29, Tryd.ntmps29
  go_wp2_with fail
  refine (HP.out _).mono ?_
  rintro e w' ⟨rfl, rfl⟩
  go_wp2_with fail
  refine (HMa.out _).mono ?_
  rintro e w' ⟨rfl, rfl⟩
  go_wp2_with fail
  refine (HB.out _).mono ?_
  rintro e w' ⟨rfl, rfl⟩
  go_wp2_with fail
  refine bodyPost_ret (v := frA ⟨8, 0, 0, a_, 0, 0, fin, [], []⟩ none 0 0 none 0 0) (by simp [results, Tryd.results29, go_sem, frA]) rfl ?_
  exact ⟨⟨8, 0, 0, a_, 0, 0, fin, [], []⟩, _, rfl, okF_mk _ _ _ _ _ _ _ _ (by decide) ⟨wid0, wid0, (wid_in (by omega) (by omega)), wid0⟩ (by omega) ⟨by simp, by simp⟩ (by simp only [List.length_nil]; omega) (by simp) (by simp) (by simp) (by simp) (by simp) (by simp) (by simp) (.inr ⟨by decide, rfl⟩),
    ⟨_, _, _, _, _, _, rfl, rfl, rfl, own_nil _ _ _ _, own_nil _ _ _ _⟩, ((((Below.refl _ _).alloc (Nat.le_refl _) _).alloc (by simp) _).alloc (by simp; omega) _)⟩
set_option maxRecDepth 100000 in
set_option maxHeartbeats 4000000 in
theorem frame_10 (k id off a b : Int) (fin : Bool) (A : Option Addr) (bs : List Nat) (c : Nat) (A2 : Option Addr) (l : List Int) (c2 : Nat) (w : World) (hp : k % 12 = 9) (hid1 : -9223372036854775808 ≤ id) (hid2 : id ≤ 9223372036854775807) :
    Calls Tryd.prog 29 #[.agg #[.int .i64 k, .int .i64 id, .int .i64 off, .int .i64 a, .int .i64 b, .int .i64 0, .bool fin, .slice A bs.length c, .slice A2 l.length c2]] w (FrameP w) := by
  have HP : Hid (∀ W, Calls Tryd.prog 15 #[.int .i64 k, .int .i64 12] W fun e w' => e = .returned (.int .i64 9) ∧ W = w') := fun W => by have := pick_any k 12 W (by decide) (by decide); rw [hp] at this; exact this
  have HB : Hid (∀ W, Calls Tryd.prog 15 #[.int .i64 0, .int .i64 20] W fun e w' => e = .returned (.int .i64 0) ∧ W = w') := fun W => pick_any 0 20 W (by decide) (by decide)
  have HMid := Lib.hid (fun W => hmay_any id W hid1 hid2)
  have Mid := mayF_in id
  obtain ⟨id_, hmid⟩ : ∃ y, Hid (mayF id = y) := ⟨_, rfl⟩
  rw [hmid.out] at HMid Mid
  obtain ⟨Mid1, Mid2⟩ := Mid
  clear hp
  go_enter Tryd.func29, Tryd.ntmps29
  go_wp2_with fail
  refine (HP.out _).mono ?_
  rintro e w' ⟨rfl, rfl⟩
  go_wp2_with fail
  refine (HMid.out _).mono ?_
  rintro e w' ⟨rfl, rfl⟩
  go_wp2_with fail
  refine (HB.out _).mono ?_
  rintro e w' ⟨rfl, rfl⟩
  go_wp2_with fail
  refine bodyPost_ret (v := frA ⟨10, id_, 0, 0, 0, 0, false, [], []⟩ none 0 0 none 0 0) (by simp [results, Tryd.results29, go_sem, frA]) rfl ?_
  exact ⟨⟨10, id_, 0, 0, 0, 0, false, [], []⟩, _, rfl, okF_mk _ _ _ _ _ _ _ _ (by decide) ⟨(wid_in (by omega) (by omega)), wid0, wid0, wid0⟩ (by omega) ⟨by simp, by simp⟩ (by simp only [List.length_nil]; omega) (by simp) (by simp) (by simp) (by simp) (by simp) (by simp) (by simp) (.inr ⟨by decide, rfl⟩),
    ⟨_, _, _, _, _, _, rfl, rfl, rfl, own_nil _ _ _ _, own_nil _ _ _ _⟩, ((((Below.refl _ _).alloc (Nat.le_refl _) _).alloc (by simp) _).alloc (by simp; omega) _)⟩
set_option maxRecDepth 100000 in
set_option maxHeartbeats 4000000 in
theorem frame_11 (k id off a b : Int) (fin : Bool) (A : Option Addr) (bs : List Nat) (c : Nat) (A2 : Option Addr) (l : List Int) (c2 : Nat) (w : World) (hp : k % 12 = 10) (hid1 : -9223372036854775808 ≤ id) (hid2 : id ≤ 9223372036854775807) :
    Calls Tryd.prog 29 #[.agg #[.int .i64 k, .int .i64 id, .int .i64 off, .int .i64 a, .int .i64 b, .int .i64 0, .bool fin, .slice A bs.length c, .slice A2 l.length c2]] w (FrameP w) := by
  have HP : Hid (∀ W, Calls Tryd.prog 15 #[.int .i64 k, .int .i64 12] W fun e w' => e = .returned (.int .i64 10) ∧ W = w') := fun W => by have := pick_any k 12 W (by decide) (by decide); rw [hp] at this; exact this
  have HB : Hid (∀ W, Calls Tryd.prog 15 #[.int .i64 0, .int .i64 20] W fun e w' => e = .returned (.int .i64 0) ∧ W = w') := fun W => pick_any 0 20 W (by decide) (by decide)
  have HMid := Lib.hid (fun W => hmay_any id W hid1 hid2)
  have Mid := mayF_in id
  obtain ⟨id_, hmid⟩ : ∃ y, Hid (mayF id = y) := ⟨_, rfl⟩
  rw [hmid.out] at HMid Mid
  obtain ⟨Mid1, Mid2⟩ := Mid
  clear hp
  go_enter Tryd.func29, Tryd.ntmps29
  go_wp2_with fail
  refine (HP.out _).mono ?_
  rintro e w' ⟨rfl, rfl⟩
  go_wp2_with fail
  refine (HMid.out _).mono ?_
  rintro e w' ⟨rfl, rfl⟩
  go_wp2_with fail
  refine (HB.out _).mono ?_
  rintro e w' ⟨rfl, rfl⟩
  go_wp2_with fail
  refine bodyPost_ret (v := frA ⟨11, id_, 0, 0, 0, 0, false, [], []⟩ none 0 0 none 0 0) (by simp [results, Tryd.results29, go_sem, frA]) rfl ?_
  exact ⟨⟨11, id_, 0, 0, 0, 0, false, [], []⟩, _, rfl, okF_mk _ _ _ _ _ _ _ _ (by decide) ⟨(wid_in (by omega) (by omega)), wid0, wid0, wid0⟩ (by omega) ⟨by simp, by simp⟩ (by simp only [List.length_nil]; omega) (by simp) (by simp) (by simp) (by simp) (by simp) (by simp) (by simp) (.inr ⟨by decide, rfl⟩),
    ⟨_, _, _, _, _, _, rfl, rfl, rfl, own_nil _ _ _ _, own_nil _ _ _ _⟩, ((((Below.refl _ _).alloc (Nat.le_refl _) _).alloc (by simp) _).alloc (by simp; omega) _)⟩
end Go.Proofs.YtnhkenecogjeaaaDoor
