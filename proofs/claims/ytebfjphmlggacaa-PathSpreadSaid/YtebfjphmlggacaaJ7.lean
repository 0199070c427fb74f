/- Joined texts. The hand's Runs: a contract. Conditions: as the theorem lists them. The hand's Frame, of a raw one that is not bent: a contract. Conditions: as the theorem lists them. The hand's Frame, of a raw one that is not bent: an Ack, a Stream. Conditions: as each theorem lists them. The hand's Frame, of a raw one that is not bent: a Datagram. Conditions: as the theorem lists them. -/
import Derived.Test.YtebfjphmlggacaaJ6
set_option linter.unusedSimpArgs false
set_option linter.unusedVariables false

namespace Go.Proofs.Ytebfjphmlggacaa
open Go Go.RowKit

theorem infoI2 : (Try.prog.info? 29).map (fun i => (i.zero, i.size, i.bytes)) = some (some (.agg #[.int .i64 0, .int .i64 0]), 2, 16) := by kernel_rfl

/-- Runs of an Ack, right so far: first and last, one behind the other. -/
def SpsOk (es : List Int) (m : Nat) : Prop :=
  es.length = m * 2 ∧ ∀ k, k < m → 0 ≤ es.getD (2 * k) 0 ∧ es.getD (2 * k) 0 ≤ es.getD (2 * k + 1) 0 ∧ es.getD (2 * k + 1) 0 ≤ 4611686018427387903 ∧ (0 < k → es.getD (2 * k + 1) 0 + 2 ≤ es.getD (2 * (k - 1)) 0)

theorem getD_app_left (l r : List Int) (j : Nat) (h : j < l.length) : (l ++ r).getD j 0 = l.getD j 0 := by simp [List.getD, List.getElem?_append_left h]
theorem getD_app_right (l r : List Int) (j : Nat) : (l ++ r).getD (l.length + j) 0 = r.getD j 0 := by
  simp only [List.getD]
  rw [List.getElem?_append_right (by omega), Nat.add_sub_cancel_left]

theorem SpsOk.snoc {es : List Int} {m : Nat} (h : SpsOk es m) (x y : Int) (h0 : 0 ≤ x) (hxy : x ≤ y) (hy : y ≤ 4611686018427387903) (hg : 0 < m → y + 2 ≤ es.getD (2 * (m - 1)) 0) : SpsOk (es ++ [x, y]) (m + 1) := by
  obtain ⟨hl, hk⟩ := h
  refine ⟨by simp [hl]; omega, fun k hkm => ?_⟩
  rcases Nat.lt_or_ge k m with h1 | h1
  · rw [getD_app_left _ _ _ (by omega), getD_app_left _ _ _ (by omega), getD_app_left _ _ _ (by omega)]
    exact hk k h1
  · obtain rfl : k = m := by omega
    have e0 := getD_app_right es [x, y] 0
    have e1 := getD_app_right es [x, y] 1
    rw [show es.length + 0 = 2 * k by omega] at e0
    rw [show es.length + 1 = 2 * k + 1 by omega] at e1
    rw [e0, e1]
    refine ⟨h0, hxy, hy, fun hm => ?_⟩
    rw [getD_app_left _ _ _ (by omega)]
    exact hg hm

/-- What Runs has made behind k numbers. -/
def RunsW (w wr : World) (k : Nat) (low : Int) (v : Value) : Prop :=
  ∃ es, SpsOk es k ∧ 1099511627776 - 340 * (k : Int) ≤ low ∧ low ≤ 1099511627776 ∧ (0 < k → es.getD (2 * (k - 1)) 0 = low) ∧ wr.ownsRow w.heap.size 29 2 v k (ints es) ∧ Below w.heap.size w wr

theorem low_snoc (es : List Int) (k : Nat) (hl : es.length = k * 2) (x y : Int) : (es ++ [x, y]).getD (2 * (k + 1 - 1)) 0 = x := by
  have e0 := getD_app_right es [x, y] 0
  rw [show es.length + 0 = 2 * (k + 1 - 1) by omega] at e0
  rw [e0]; rfl

def RunsP (w : World) (e : Ending) (w' : World) : Prop :=
  ∃ A m c es, e = .returned (.slice A m c) ∧ 1 ≤ m ∧ m ≤ 8 ∧ SpsOk es m ∧ w'.ownsRow w.heap.size 29 2 (.slice A m c) m (ints es) ∧ Below w.heap.size w w'

set_option maxHeartbeats 2000000 in
theorem runs_any (l : List Int) (B : Nat) (A : Option Addr) (c : Nat) (w : World) (hx : Rd w B A l.length (ints l)) (hB : B ≤ w.heap.size) (hlt : ∀ n ∈ l, -9223372036854775808 ≤ n ∧ n ≤ 9223372036854775807) (hm : l.length ≤ 17592186044416) (hc : l.length ≤ c) :
    Calls Try.prog 51 #[.slice A l.length c] w (RunsP w) := by
  have HX := Lib.hid hx
  have HLT := Lib.hid hlt
  obtain ⟨N, hN⟩ : ∃ N, Hid (l.length = N) := ⟨_, rfl⟩
  rw [hN.out] at hm hc HX ⊢
  have hmi : (N : Int) ≤ 17592186044416 := by omega
  have hci : (N : Int) ≤ (c : Int) := by omega
  obtain ⟨i0, hi, hz0, hz1, hz2⟩ := info_parts infoI2
  have HI := Lib.hid (And.intro hi (And.intro hz0 (And.intro hz1 hz2)))
  clear hx hlt hi hz0 hz1 hz2
  go_enter Try.func51, Try.ntmps51
  go_wp2_with fail
  go_loopw [3, 4, 5] (fun v low i wr => ∃ (k : Nat) (lo : Int), k ≤ 8 ∧ k ≤ N ∧ i = .int .i64 k ∧ low = .int .i64 lo ∧ (∃ A' c', v = .slice A' k c') ∧ Hid (RunsW w wr k lo v)) (fun _ _ i _ => N - (intOf i).toNat)
  case atStart => exact ⟨0, _, by omega, by omega, rfl, rfl, ⟨_, _, rfl⟩, [], ⟨rfl, fun k h => by omega⟩, by omega, by omega, fun h => by omega, own_nil _ _ _ _, Below.refl _ _⟩
  case round =>
    obtain ⟨k, lo, hk8, hkN, rfl, rfl, ⟨A', c', rfl⟩, HK⟩ := hrel
    by_cases hlt : k < N
    · have hlti : (k : Int) < (N : Int) := by omega
      by_cases h8 : k < 8
      · have h8i : decide ((k : Int) < 8) = true := decide_eq_true (by omega)
        obtain ⟨b, off, hA, hbn, hcs⟩ := HX.out.2 (by omega)
        subst hA
        obtain ⟨x, hxk⟩ : ∃ x, Hid (l.getD k 0 = x) := ⟨_, rfl⟩
        have hbx := HLT.out x (by rw [← hxk.out]; have := hN.out; simp [List.getD, show k < l.length by omega])
        obtain ⟨es, hes⟩ := HK.out
        have HES := Lib.hid hes
        have hcx : wr.cell? ⟨b, off + k, none⟩ = some (.int .i64 x) := by
          rw [HES.out.2.2.2.2.2.cell (p := ⟨b, off + k, none⟩) (show b < w.heap.size by omega), hcs k _ (ints_get l k (by have := hN.out; omega)), hxk.out]
        have hlo1 := HES.out.2.1
        have hlo2 := HES.out.2.2.1
        have hp0 := Int.emod_nonneg x (show (300 : Int) ≠ 0 by decide)
        have hp1 := Int.emod_lt_of_pos x (show (0 : Int) < 300 by decide)
        have hq0 := Int.emod_nonneg (x.tdiv 300) (show (40 : Int) ≠ 0 by decide)
        have hq1 := Int.emod_lt_of_pos (x.tdiv 300) (show (0 : Int) < 40 by decide)
        have hd300 : wrap64 (x.tdiv 300) = x.tdiv 300 := IntWalk.wrap64_in _ (by
          have e : x.tdiv 300 = if 0 ≤ x then x / 300 else -(-x / 300) := by
            split
            · exact Int.tdiv_eq_ediv_of_nonneg (by assumption)
            · rw [← Int.neg_neg x, Int.neg_tdiv, Int.tdiv_eq_ediv_of_nonneg (by omega), Int.neg_neg]
          rw [e]; split <;> omega)
        have HD3 := Lib.hid hd300
        have HP1 := Lib.hid (fun W => pick_any x 300 W (by decide) (by decide))
        have HP2 := Lib.hid (fun W => pick_any (x.tdiv 300) 40 W (by decide) (by decide))
        obtain ⟨p, hp⟩ : ∃ p, Hid (x % 300 = p) := ⟨_, rfl⟩
        obtain ⟨q, hq⟩ : ∃ q, Hid (x.tdiv 300 % 40 = q) := ⟨_, rfl⟩
        rw [hp.out] at hp0 hp1 HP1
        rw [hq.out] at hq0 hq1 HP2
        clear hcs hes HK
        go_wp2_with fail
        refine (HP1.out _).mono ?_
        rintro e w' ⟨rfl, rfl⟩
        go_wp2_with fail
        refine (HP2.out _).mono ?_
        rintro e w' ⟨rfl, rfl⟩
        have hb2 : Hid (w.heap.size ≤ (wr.alloc (.cells #[.int .i64 (lo - 2 - p - q), .int .i64 (lo - 2 - p)] 29)).heap.size) := by have := HES.out.2.2.2.2.2.size; show _ ≤ _; simp only [World.size_alloc]; omega
        go_wp2_with (at_builtin; refine wpList_app _ rfl (.tmp 34) (.tmp 38) 26 rfl w.heap.size 29 i0 (.agg #[.int .i64 0, .int .i64 0]) 2 16 Try.underlying26 HI.out.1 HI.out.2.1 HI.out.2.2.1 HI.out.2.2.2 rfl (by decide) (.slice A' k c') k (ints es) rfl (HES.out.2.2.2.2.1.alloc _) (wr.heap.size + 1) (some ⟨wr.heap.size, 0, none⟩) 1 1 (ints [lo - 2 - p - q, lo - 2 - p]) rfl (rd_new _ _ _ _ _ _ _ rfl (by omega) rfl rfl) (ones_ints _) (by unfold maxLen; omega) (by omega) hb2.out ?_)
        intro v1 w1 hown1 hgrow1
        obtain ⟨A1, c1, e1, _⟩ := own_form hown1
        subst e1
        rw [← ints_app] at hown1
        have HN : Hid (RunsW w w1 (k + 1) (lo - 2 - p - q) (.slice A1 (k + 1) c1)) := by
          refine ⟨es ++ [lo - 2 - p - q, lo - 2 - p], HES.out.1.snoc _ _ (by omega) (by omega) (by omega) (fun h => by rw [HES.out.2.2.2.1 h]; omega), by omega, by omega, fun _ => low_snoc es k HES.out.1.1 _ _, hown1, (HES.out.2.2.2.2.2.alloc HES.out.2.2.2.2.2.size _).grown hgrow1 hb2.out (fun g hg => (HES.out.2.2.2.2.1.lt g hg).1)⟩
        clear hown1 hgrow1
        go_wp2_with fail
        go_roundw
        case rel => exact ⟨k + 1, _, by omega, by omega, by go_num, rfl, ⟨_, _, rfl⟩, HN⟩
        case measure => simp [intOf]; omega
      · have h8i : decide ((k : Int) < 8) = false := decide_eq_false (by omega)
        have hk0 : ((k : Int) == 0) = false := by simp; omega
        obtain ⟨es, hes⟩ := HK.out
        have HE : Hid (RunsP w (.returned (.slice A' k c')) wr) := ⟨A', k, c', es, rfl, by omega, hk8, hes.1, hes.2.2.2.2.1, hes.2.2.2.2.2⟩
        clear hes HK
        go_wp2_with fail
        go_ret
        exact HE.out
    · have hlti : ¬ (k : Int) < (N : Int) := by omega
      obtain rfl : k = N := by omega
      obtain ⟨es, hes⟩ := HK.out
      by_cases h0 : k = 0
      · have hk0 : ((k : Int) == 0) = true := by subst h0; rfl
        have HBW := Lib.hid hes.2.2.2.2.2
        have HE : Hid (RunsP w (.returned (.slice (some ⟨wr.heap.size, 0, none⟩) 1 1)) (wr.alloc (.cells #[.int .i64 3, .int .i64 3] 29))) :=
          ⟨_, 1, 1, [3, 3], rfl, by omega, by omega, ⟨rfl, fun j hj => by obtain rfl : j = 0 := by omega
                                                                          exact ⟨by decide, by decide, by decide, fun h => by omega⟩⟩, own_new wr #[.int .i64 3, .int .i64 3] _ 2 1 _ _ rfl rfl (by unfold maxLen; omega) HBW.out.size, HBW.out.alloc HBW.out.size _⟩
        clear hes HK h0
        go_wp2_with fail
        go_ret
        exact HE.out
      · have hk0 : ((k : Int) == 0) = false := by simp; omega
        have HE : Hid (RunsP w (.returned (.slice A' k c')) wr) := ⟨A', k, c', es, rfl, by omega, hk8, hes.1, hes.2.2.2.2.1, hes.2.2.2.2.2⟩
        clear hes HK
        go_wp2_with fail
        go_ret
        exact HE.out
end Go.Proofs.Ytebfjphmlggacaa

namespace Go.Proofs.Ytebfjphmlggacaa
open Go Go.RowKit

/-- A frame that is right. -/
structure OkF (f : Fr) : Prop where
  k : 1 ≤ f.k ∧ f.k ≤ 12
  num : wid f.id ≠ 0 ∧ wid f.off ≠ 0 ∧ wid f.a ≠ 0 ∧ wid f.b ≠ 0
  bo : f.b ≤ f.off
  data : f.data.length ≤ 120 ∧ ∀ c ∈ f.data, c < 256
  room : f.off + f.data.length ≤ 4611686018427387903
  dg : f.k = 9 → f.data ≠ []
  zid : f.k = 3 ∨ f.k = 4 ∨ f.k = 5 ∨ f.k = 7 ∨ f.k = 10 ∨ f.k = 11 ∨ f.id = 0
  za : f.k = 4 ∨ f.k = 5 ∨ f.k = 7 ∨ f.k = 6 ∨ f.k = 12 ∨ f.k = 8 ∨ f.a = 0
  zoff : f.k = 3 ∨ f.k = 4 ∨ f.off = 0
  zb : f.k = 4 ∨ f.b = 0
  zfin : f.k = 3 ∨ f.k = 8 ∨ f.fin = false
  zdata : f.k = 3 ∨ f.k = 9 ∨ f.data = []
  zsp : (f.k = 2 ∧ ∃ m, 1 ≤ m ∧ m ≤ 8 ∧ SpsOk f.spans m) ∨ (f.k ≠ 2 ∧ f.spans = [])

/-- A value that reads as a frame; its bytes and its spans lie in rows of their own, from block lo on. -/
def FrOwn (w : World) (lo : Nat) (f : Fr) (v : Value) : Prop :=
  ∃ A n c A2 n2 c2, v = frA f A n c A2 n2 c2 ∧ f.data.length = n ∧ f.spans.length = n2 * 2 ∧ w.ownsRow lo 5 1 (.slice A n c) n (bv f.data) ∧ w.ownsRow lo 29 2 (.slice A2 n2 c2) n2 (ints f.spans)

def FrameP (w : World) (e : Ending) (w' : World) : Prop := ∃ f v, e = .returned v ∧ OkF f ∧ FrOwn w' w.heap.size f v ∧ Below w.heap.size w w'

theorem wid0 : wid 0 ≠ 0 := by decide
theorem wid_in {n : Int} (h : 0 ≤ n) (h2 : n ≤ 4611686018427387903) : wid n ≠ 0 := by unfold wid; (repeat' split) <;> omega
theorem okF_mk (k id off a b : Int) (fin : Bool) (data : List Nat) (spans : List Int) (hk : 1 ≤ k ∧ k ≤ 12) (hn : wid id ≠ 0 ∧ wid off ≠ 0 ∧ wid a ≠ 0 ∧ wid b ≠ 0) (bo : b ≤ off) (hd : data.length ≤ 120 ∧ ∀ c ∈ data, c < 256) (room : off + data.length ≤ 4611686018427387903)
    (dg : k = 9 → data ≠ []) (zid : k = 3 ∨ k = 4 ∨ k = 5 ∨ k = 7 ∨ k = 10 ∨ k = 11 ∨ id = 0) (za : k = 4 ∨ k = 5 ∨ k = 7 ∨ k = 6 ∨ k = 12 ∨ k = 8 ∨ a = 0) (zoff : k = 3 ∨ k = 4 ∨ off = 0) (zb : k = 4 ∨ b = 0) (zfin : k = 3 ∨ k = 8 ∨ fin = false) (zdata : k = 3 ∨ k = 9 ∨ data = [])
    (zsp : (k = 2 ∧ ∃ m, 1 ≤ m ∧ m ≤ 8 ∧ SpsOk spans m) ∨ (k ≠ 2 ∧ spans = [])) : OkF ⟨k, id, off, a, b, 0, fin, data, spans⟩ := ⟨hk, hn, bo, hd, room, dg, zid, za, zoff, zb, zfin, zdata, zsp⟩

set_option maxRecDepth 100000 in
set_option maxHeartbeats 4000000 in
theorem frame_1 (k id off a b : Int) (fin : Bool) (A : Option Addr) (bs : List Nat) (c : Nat) (A2 : Option Addr) (l : List Int) (c2 : Nat) (w : World) (hp : k % 12 = 0) :
    Calls Try.prog 33 #[.agg #[.int .i64 k, .int .i64 id, .int .i64 off, .int .i64 a, .int .i64 b, .int .i64 0, .bool fin, .slice A bs.length c, .slice A2 l.length c2]] w (FrameP w) := by
  have HP : Hid (∀ W, Calls Try.prog 16 #[.int .i64 k, .int .i64 12] W fun e w' => e = .returned (.int .i64 0) ∧ W = w') := fun W => by have := pick_any k 12 W (by decide) (by decide); rw [hp] at this; exact this
  have HB : Hid (∀ W, Calls Try.prog 16 #[.int .i64 0, .int .i64 20] W fun e w' => e = .returned (.int .i64 0) ∧ W = w') := fun W => pick_any 0 20 W (by decide) (by decide)
  clear hp
  go_enter Try.func33, Try.ntmps33
  go_wp2_with fail
  refine (HP.out _).mono ?_
  rintro e w' ⟨rfl, rfl⟩
  go_wp2_with fail
  refine (HB.out _).mono ?_
  rintro e w' ⟨rfl, rfl⟩
  go_wp2_with fail
  refine bodyPost_ret (v := frA ⟨1, 0, 0, 0, 0, 0, false, [], []⟩ none 0 0 none 0 0) (by simp [results, Try.results33, go_sem, frA]) rfl ?_
  exact ⟨⟨1, 0, 0, 0, 0, 0, false, [], []⟩, _, rfl, okF_mk _ _ _ _ _ _ _ _ (by decide) ⟨wid0, wid0, wid0, wid0⟩ (by omega) ⟨by simp, by simp⟩ (by simp only [List.length_nil]; omega) (by simp) (by simp) (by simp) (by simp) (by simp) (by simp) (by simp) (.inr ⟨by decide, rfl⟩),
    ⟨_, _, _, _, _, _, rfl, rfl, rfl, own_nil _ _ _ _, own_nil _ _ _ _⟩, ((((Below.refl _ _).alloc (Nat.le_refl _) _).alloc (by simp) _).alloc (by simp; omega) _)⟩
set_option maxRecDepth 100000 in
set_option maxHeartbeats 4000000 in
theorem frame_4 (k id off a b : Int) (fin : Bool) (A : Option Addr) (bs : List Nat) (c : Nat) (A2 : Option Addr) (l : List Int) (c2 : Nat) (w : World) (hp : k % 12 = 3) (ha1 : -9223372036854775808 ≤ a) (ha2 : a ≤ 9223372036854775807) (hb1 : -9223372036854775808 ≤ b) (hb2 : b ≤ 9223372036854775807) (hid1 : -9223372036854775808 ≤ id) (hid2 : id ≤ 9223372036854775807) (hoff1 : -9223372036854775808 ≤ off) (hoff2 : off ≤ 9223372036854775807) :
    Calls Try.prog 33 #[.agg #[.int .i64 k, .int .i64 id, .int .i64 off, .int .i64 a, .int .i64 b, .int .i64 0, .bool fin, .slice A bs.length c, .slice A2 l.length c2]] w (FrameP w) := by
  have HP : Hid (∀ W, Calls Try.prog 16 #[.int .i64 k, .int .i64 12] W fun e w' => e = .returned (.int .i64 3) ∧ W = w') := fun W => by have := pick_any k 12 W (by decide) (by decide); rw [hp] at this; exact this
  have HB : Hid (∀ W, Calls Try.prog 16 #[.int .i64 0, .int .i64 20] W fun e w' => e = .returned (.int .i64 0) ∧ W = w') := fun W => pick_any 0 20 W (by decide) (by decide)
  have HMid := Lib.hid (fun W => hmay_any id W hid1 hid2)
  have Mid := mayF_in id
  obtain ⟨id_, hmid⟩ : ∃ y, Hid (mayF id = y) := ⟨_, rfl⟩
  rw [hmid.out] at HMid Mid
  obtain ⟨Mid1, Mid2⟩ := Mid
  have HMa := Lib.hid (fun W => hmay_any a W ha1 ha2)
  have Ma := mayF_in a
  obtain ⟨a_, hma⟩ : ∃ y, Hid (mayF a = y) := ⟨_, rfl⟩
  rw [hma.out] at HMa Ma
  obtain ⟨Ma1, Ma2⟩ := Ma
  have HMoff := Lib.hid (fun W => hmay_any off W hoff1 hoff2)
  have Moff := mayF_in off
  obtain ⟨off_, hmoff⟩ : ∃ y, Hid (mayF off = y) := ⟨_, rfl⟩
  rw [hmoff.out] at HMoff Moff
  obtain ⟨Moff1, Moff2⟩ := Moff
  have HKb := Lib.hid (fun W => pick_any b (off_ + 1) W (by omega) (by omega))
  have Kb1 := Int.emod_nonneg b (show (off_ + 1 : Int) ≠ 0 by omega)
  have Kb2 := Int.emod_lt_of_pos b (show (0 : Int) < off_ + 1 by omega)
  obtain ⟨b_, hkb⟩ : ∃ y, Hid (b % (off_ + 1) = y) := ⟨_, rfl⟩
  rw [hkb.out] at HKb Kb1 Kb2
  clear hp
  go_enter Try.func33, Try.ntmps33
  go_wp2_with fail
  refine (HP.out _).mono ?_
  rintro e w' ⟨rfl, rfl⟩
  go_wp2_with fail
  refine (HMid.out _).mono ?_
  rintro e w' ⟨rfl, rfl⟩
  go_wp2_with fail
  refine (HMa.out _).mono ?_
  rintro e w' ⟨rfl, rfl⟩
  go_wp2_with fail
  refine (HMoff.out _).mono ?_
  rintro e w' ⟨rfl, rfl⟩
  go_wp2_with fail
  refine (HKb.out _).mono ?_
  rintro e w' ⟨rfl, rfl⟩
  go_wp2_with fail
  refine (HB.out _).mono ?_
  rintro e w' ⟨rfl, rfl⟩
  go_wp2_with fail
  refine bodyPost_ret (v := frA ⟨4, id_, off_, a_, b_, 0, false, [], []⟩ none 0 0 none 0 0) (by simp [results, Try.results33, go_sem, frA]) rfl ?_
  exact ⟨⟨4, id_, off_, a_, b_, 0, false, [], []⟩, _, rfl, okF_mk _ _ _ _ _ _ _ _ (by decide) ⟨(wid_in (by omega) (by omega)), (wid_in (by omega) (by omega)), (wid_in (by omega) (by omega)), (wid_in (by omega) (by omega))⟩ (by omega) ⟨by simp, by simp⟩ (by simp only [List.length_nil]; omega) (by simp) (by simp) (by simp) (by simp) (by simp) (by simp) (by simp) (.inr ⟨by decide, rfl⟩),
    ⟨_, _, _, _, _, _, rfl, rfl, rfl, own_nil _ _ _ _, own_nil _ _ _ _⟩, ((((Below.refl _ _).alloc (Nat.le_refl _) _).alloc (by simp) _).alloc (by simp; omega) _)⟩
set_option maxRecDepth 100000 in
set_option maxHeartbeats 4000000 in
theorem frame_5 (k id off a b : Int) (fin : Bool) (A : Option Addr) (bs : List Nat) (c : Nat) (A2 : Option Addr) (l : List Int) (c2 : Nat) (w : World) (hp : k % 12 = 4) (ha1 : -9223372036854775808 ≤ a) (ha2 : a ≤ 9223372036854775807) (hid1 : -9223372036854775808 ≤ id) (hid2 : id ≤ 9223372036854775807) :
    Calls Try.prog 33 #[.agg #[.int .i64 k, .int .i64 id, .int .i64 off, .int .i64 a, .int .i64 b, .int .i64 0, .bool fin, .slice A bs.length c, .slice A2 l.length c2]] w (FrameP w) := by
  have HP : Hid (∀ W, Calls Try.prog 16 #[.int .i64 k, .int .i64 12] W fun e w' => e = .returned (.int .i64 4) ∧ W = w') := fun W => by have := pick_any k 12 W (by decide) (by decide); rw [hp] at this; exact this
  have HB : Hid (∀ W, Calls Try.prog 16 #[.int .i64 0, .int .i64 20] W fun e w' => e = .returned (.int .i64 0) ∧ W = w') := fun W => pick_any 0 20 W (by decide) (by decide)
  have HMid := Lib.hid (fun W => hmay_any id W hid1 hid2)
  have Mid := mayF_in id
  obtain ⟨id_, hmid⟩ : ∃ y, Hid (mayF id = y) := ⟨_, rfl⟩
  rw [hmid.out] at HMid Mid
  obtain ⟨Mid1, Mid2⟩ := Mid
  have HMa := Lib.hid (fun W => hmay_any a W ha1 ha2)
  have Ma := mayF_in a
  obtain ⟨a_, hma⟩ : ∃ y, Hid (mayF a = y) := ⟨_, rfl⟩
  rw [hma.out] at HMa Ma
  obtain ⟨Ma1, Ma2⟩ := Ma
  clear hp
  go_enter Try.func33, Try.ntmps33
  go_wp2_with fail
  refine (HP.out _).mono ?_
  rintro e w' ⟨rfl, rfl⟩
  go_wp2_with fail
  refine (HMid.out _).mono ?_
  rintro e w' ⟨rfl, rfl⟩
  go_wp2_with fail
  refine (HMa.out _).mono ?_
  rintro e w' ⟨rfl, rfl⟩
  go_wp2_with fail
  refine (HB.out _).mono ?_
  rintro e w' ⟨rfl, rfl⟩
  go_wp2_with fail
  refine bodyPost_ret (v := frA ⟨5, id_, 0, a_, 0, 0, false, [], []⟩ none 0 0 none 0 0) (by simp [results, Try.results33, go_sem, frA]) rfl ?_
  exact ⟨⟨5, id_, 0, a_, 0, 0, false, [], []⟩, _, rfl, okF_mk _ _ _ _ _ _ _ _ (by decide) ⟨(wid_in (by omega) (by omega)), wid0, (wid_in (by omega) (by omega)), wid0⟩ (by omega) ⟨by simp, by simp⟩ (by simp only [List.length_nil]; omega) (by simp) (by simp) (by simp) (by simp) (by simp) (by simp) (by simp) (.inr ⟨by decide, rfl⟩),
    ⟨_, _, _, _, _, _, rfl, rfl, rfl, own_nil _ _ _ _, own_nil _ _ _ _⟩, ((((Below.refl _ _).alloc (Nat.le_refl _) _).alloc (by simp) _).alloc (by simp; omega) _)⟩
set_option maxRecDepth 100000 in
set_option maxHeartbeats 4000000 in
theorem frame_7 (k id off a b : Int) (fin : Bool) (A : Option Addr) (bs : List Nat) (c : Nat) (A2 : Option Addr) (l : List Int) (c2 : Nat) (w : World) (hp : k % 12 = 6) (ha1 : -9223372036854775808 ≤ a) (ha2 : a ≤ 9223372036854775807) (hid1 : -9223372036854775808 ≤ id) (hid2 : id ≤ 9223372036854775807) :
    Calls Try.prog 33 #[.agg #[.int .i64 k, .int .i64 id, .int .i64 off, .int .i64 a, .int .i64 b, .int .i64 0, .bool fin, .slice A bs.length c, .slice A2 l.length c2]] w (FrameP w) := by
  have HP : Hid (∀ W, Calls Try.prog 16 #[.int .i64 k, .int .i64 12] W fun e w' => e = .returned (.int .i64 6) ∧ W = w') := fun W => by have := pick_any k 12 W (by decide) (by decide); rw [hp] at this; exact this
  have HB : Hid (∀ W, Calls Try.prog 16 #[.int .i64 0, .int .i64 20] W fun e w' => e = .returned (.int .i64 0) ∧ W = w') := fun W => pick_any 0 20 W (by decide) (by decide)
  have HMid := Lib.hid (fun W => hmay_any id W hid1 hid2)
  have Mid := mayF_in id
  obtain ⟨id_, hmid⟩ : ∃ y, Hid (mayF id = y) := ⟨_, rfl⟩
  rw [hmid.out] at HMid Mid
  obtain ⟨Mid1, Mid2⟩ := Mid
  have HMa := Lib.hid (fun W => hmay_any a W ha1 ha2)
  have Ma := mayF_in a
  obtain ⟨a_, hma⟩ : ∃ y, Hid (mayF a = y) := ⟨_, rfl⟩
  rw [hma.out] at HMa Ma
  obtain ⟨Ma1, Ma2⟩ := Ma
  clear hp
  go_enter Try.func33, Try.ntmps33
  go_wp2_with fail
  refine (HP.out _).mono ?_
  rintro e w' ⟨rfl, rfl⟩
  go_wp2_with fail
  refine (HMid.out _).mono ?_
  rintro e w' ⟨rfl, rfl⟩
  go_wp2_with fail
  refine (HMa.out _).mono ?_
  rintro e w' ⟨rfl, rfl⟩
  go_wp2_with fail
  refine (HB.out _).mono ?_
  rintro e w' ⟨rfl, rfl⟩
  go_wp2_with fail
  refine bodyPost_ret (v := frA ⟨7, id_, 0, a_, 0, 0, false, [], []⟩ none 0 0 none 0 0) (by simp [results, Try.results33, go_sem, frA]) rfl ?_
  exact ⟨⟨7, id_, 0, a_, 0, 0, false, [], []⟩, _, rfl, okF_mk _ _ _ _ _ _ _ _ (by decide) ⟨(wid_in (by omega) (by omega)), wid0, (wid_in (by omega) (by omega)), wid0⟩ (by omega) ⟨by simp, by simp⟩ (by simp only [List.length_nil]; omega) (by simp) (by simp) (by simp) (by simp) (by simp) (by simp) (by simp) (.inr ⟨by decide, rfl⟩),
    ⟨_, _, _, _, _, _, rfl, rfl, rfl, own_nil _ _ _ _, own_nil _ _ _ _⟩, ((((Below.refl _ _).alloc (Nat.le_refl _) _).alloc (by simp) _).alloc (by simp; omega) _)⟩
set_option maxRecDepth 100000 in
set_option maxHeartbeats 4000000 in
theorem frame_6 (k id off a b : Int) (fin : Bool) (A : Option Addr) (bs : List Nat) (c : Nat) (A2 : Option Addr) (l : List Int) (c2 : Nat) (w : World) (hp : k % 12 = 5) (ha1 : -9223372036854775808 ≤ a) (ha2 : a ≤ 9223372036854775807) :
    Calls Try.prog 33 #[.agg #[.int .i64 k, .int .i64 id, .int .i64 off, .int .i64 a, .int .i64 b, .int .i64 0, .bool fin, .slice A bs.length c, .slice A2 l.length c2]] w (FrameP w) := by
  have HP : Hid (∀ W, Calls Try.prog 16 #[.int .i64 k, .int .i64 12] W fun e w' => e = .returned (.int .i64 5) ∧ W = w') := fun W => by have := pick_any k 12 W (by decide) (by decide); rw [hp] at this; exact this
  have HB : Hid (∀ W, Calls Try.prog 16 #[.int .i64 0, .int .i64 20] W fun e w' => e = .returned (.int .i64 0) ∧ W = w') := fun W => pick_any 0 20 W (by decide) (by decide)
  have HMa := Lib.hid (fun W => hmay_any a W ha1 ha2)
  have Ma := mayF_in a
  obtain ⟨a_, hma⟩ : ∃ y, Hid (mayF a = y) := ⟨_, rfl⟩
  rw [hma.out] at HMa Ma
  obtain ⟨Ma1, Ma2⟩ := Ma
  clear hp
  go_enter Try.func33, Try.ntmps33
  go_wp2_with fail
  refine (HP.out _).mono ?_
  rintro e w' ⟨rfl, rfl⟩
  go_wp2_with fail
  refine (HMa.out _).mono ?_
  rintro e w' ⟨rfl, rfl⟩
  go_wp2_with fail
  refine (HB.out _).mono ?_
  rintro e w' ⟨rfl, rfl⟩
  go_wp2_with fail
  refine bodyPost_ret (v := frA ⟨6, 0, 0, a_, 0, 0, false, [], []⟩ none 0 0 none 0 0) (by simp [results, Try.results33, go_sem, frA]) rfl ?_
  exact ⟨⟨6, 0, 0, a_, 0, 0, false, [], []⟩, _, rfl, okF_mk _ _ _ _ _ _ _ _ (by decide) ⟨wid0, wid0, (wid_in (by omega) (by omega)), wid0⟩ (by omega) ⟨by simp, by simp⟩ (by simp only [List.length_nil]; omega) (by simp) (by simp) (by simp) (by simp) (by simp) (by simp) (by simp) (.inr ⟨by decide, rfl⟩),
    ⟨_, _, _, _, _, _, rfl, rfl, rfl, own_nil _ _ _ _, own_nil _ _ _ _⟩, ((((Below.refl _ _).alloc (Nat.le_refl _) _).alloc (by simp) _).alloc (by simp; omega) _)⟩
set_option maxRecDepth 100000 in
set_option maxHeartbeats 4000000 in
theorem frame_12 (k id off a b : Int) (fin : Bool) (A : Option Addr) (bs : List Nat) (c : Nat) (A2 : Option Addr) (l : List Int) (c2 : Nat) (w : World) (hp : k % 12 = 11) (ha1 : -9223372036854775808 ≤ a) (ha2 : a ≤ 9223372036854775807) :
    Calls Try.prog 33 #[.agg #[.int .i64 k, .int .i64 id, .int .i64 off, .int .i64 a, .int .i64 b, .int .i64 0, .bool fin, .slice A bs.length c, .slice A2 l.length c2]] w (FrameP w) := by
  have HP : Hid (∀ W, Calls Try.prog 16 #[.int .i64 k, .int .i64 12] W fun e w' => e = .returned (.int .i64 11) ∧ W = w') := fun W => by have := pick_any k 12 W (by decide) (by decide); rw [hp] at this; exact this
  have HB : Hid (∀ W, Calls Try.prog 16 #[.int .i64 0, .int .i64 20] W fun e w' => e = .returned (.int .i64 0) ∧ W = w') := fun W => pick_any 0 20 W (by decide) (by decide)
  have HMa := Lib.hid (fun W => hmay_any a W ha1 ha2)
  have Ma := mayF_in a
  obtain ⟨a_, hma⟩ : ∃ y, Hid (mayF a = y) := ⟨_, rfl⟩
  rw [hma.out] at HMa Ma
  obtain ⟨Ma1, Ma2⟩ := Ma
  clear hp
  go_enter Try.func33, Try.ntmps33
  go_wp2_with fail
  refine (HP.out _).mono ?_
  rintro e w' ⟨rfl, rfl⟩
  go_wp2_with fail
  refine (HMa.out _).mono ?_
  rintro e w' ⟨rfl, rfl⟩
  go_wp2_with fail
  refine (HB.out _).mono ?_
  rintro e w' ⟨rfl, rfl⟩
  go_wp2_with fail
  refine bodyPost_ret (v := frA ⟨12, 0, 0, a_, 0, 0, false, [], []⟩ none 0 0 none 0 0) (by simp [results, Try.results33, go_sem, frA]) rfl ?_
  exact ⟨⟨12, 0, 0, a_, 0, 0, false, [], []⟩, _, rfl, okF_mk _ _ _ _ _ _ _ _ (by decide) ⟨wid0, wid0, (wid_in (by omega) (by omega)), wid0⟩ (by omega) ⟨by simp, by simp⟩ (by simp only [List.length_nil]; omega) (by simp) (by simp) (by simp) (by simp) (by simp) (by simp) (by simp) (.inr ⟨by decide, rfl⟩),
    ⟨_, _, _, _, _, _, rfl, rfl, rfl, own_nil _ _ _ _, own_nil _ _ _ _⟩, ((((Below.refl _ _).alloc (Nat.le_refl _) _).alloc (by simp) _).alloc (by simp; omega) _)⟩
set_option maxRecDepth 100000 in
set_option maxHeartbeats 4000000 in
theorem frame_8 (k id off a b : Int) (fin : Bool) (A : Option Addr) (bs : List Nat) (c : Nat) (A2 : Option Addr) (l : List Int) (c2 : Nat) (w : World) (hp : k % 12 = 7) (ha1 : -9223372036854775808 ≤ a) (ha2 : a ≤ 9223372036854775807) :
    Calls Try.prog 33 #[.agg #[.int .i64 k, .int .i64 id, .int .i64 off, .int .i64 a, .int .i64 b, .int .i64 0, .bool fin, .slice A bs.length c, .slice A2 l.length c2]] w (FrameP w) := by
  have HP : Hid (∀ W, Calls Try.prog 16 #[.int .i64 k, .int .i64 12] W fun e w' => e = .returned (.int .i64 7) ∧ W = w') := fun W => by have := pick_any k 12 W (by decide) (by decide); rw [hp] at this; exact this
  have HB : Hid (∀ W, Calls Try.prog 16 #[.int .i64 0, .int .i64 20] W fun e w' => e = .returned (.int .i64 0) ∧ W = w') := fun W => pick_any 0 20 W (by decide) (by decide)
  have HMa := Lib.hid (fun W => hmay_any a W ha1 ha2)
  have Ma := mayF_in a
  obtain ⟨a_, hma⟩ : ∃ y, Hid (mayF a = y) := ⟨_, rfl⟩
  rw [hma.out] at HMa Ma
  obtain ⟨Ma1, Ma2⟩ := Ma
  clear hp
  go_enter Try.func33, Try.ntmps33
  go_wp2_with fail
  refine (HP.out _).mono ?_
  rintro e w' ⟨rfl, rfl⟩
  go_wp2_with fail
  refine (HMa.out _).mono ?_
  rintro e w' ⟨rfl, rfl⟩
  go_wp2_with fail
  refine (HB.out _).mono ?_
  rintro e w' ⟨rfl, rfl⟩
  go_wp2_with fail
  refine bodyPost_ret (v := frA ⟨8, 0, 0, a_, 0, 0, fin, [], []⟩ none 0 0 none 0 0) (by simp [results, Try.results33, go_sem, frA]) rfl ?_
  exact ⟨⟨8, 0, 0, a_, 0, 0, fin, [], []⟩, _, rfl, okF_mk _ _ _ _ _ _ _ _ (by decide) ⟨wid0, wid0, (wid_in (by omega) (by omega)), wid0⟩ (by omega) ⟨by simp, by simp⟩ (by simp only [List.length_nil]; omega) (by simp) (by simp) (by simp) (by simp) (by simp) (by simp) (by simp) (.inr ⟨by decide, rfl⟩),
    ⟨_, _, _, _, _, _, rfl, rfl, rfl, own_nil _ _ _ _, own_nil _ _ _ _⟩, ((((Below.refl _ _).alloc (Nat.le_refl _) _).alloc (by simp) _).alloc (by simp; omega) _)⟩
set_option maxRecDepth 100000 in
set_option maxHeartbeats 4000000 in
theorem frame_10 (k id off a b : Int) (fin : Bool) (A : Option Addr) (bs : List Nat) (c : Nat) (A2 : Option Addr) (l : List Int) (c2 : Nat) (w : World) (hp : k % 12 = 9) (hid1 : -9223372036854775808 ≤ id) (hid2 : id ≤ 9223372036854775807) :
    Calls Try.prog 33 #[.agg #[.int .i64 k, .int .i64 id, .int .i64 off, .int .i64 a, .int .i64 b, .int .i64 0, .bool fin, .slice A bs.length c, .slice A2 l.length c2]] w (FrameP w) := by
  have HP : Hid (∀ W, Calls Try.prog 16 #[.int .i64 k, .int .i64 12] W fun e w' => e = .returned (.int .i64 9) ∧ W = w') := fun W => by have := pick_any k 12 W (by decide) (by decide); rw [hp] at this; exact this
  have HB : Hid (∀ W, Calls Try.prog 16 #[.int .i64 0, .int .i64 20] W fun e w' => e = .returned (.int .i64 0) ∧ W = w') := fun W => pick_any 0 20 W (by decide) (by decide)
  have HMid := Lib.hid (fun W => hmay_any id W hid1 hid2)
  have Mid := mayF_in id
  obtain ⟨id_, hmid⟩ : ∃ y, Hid (mayF id = y) := ⟨_, rfl⟩
  rw [hmid.out] at HMid Mid
  obtain ⟨Mid1, Mid2⟩ := Mid
  clear hp
  go_enter Try.func33, Try.ntmps33
  go_wp2_with fail
  refine (HP.out _).mono ?_
  rintro e w' ⟨rfl, rfl⟩
  go_wp2_with fail
  refine (HMid.out _).mono ?_
  rintro e w' ⟨rfl, rfl⟩
  go_wp2_with fail
  refine (HB.out _).mono ?_
  rintro e w' ⟨rfl, rfl⟩
  go_wp2_with fail
  refine bodyPost_ret (v := frA ⟨10, id_, 0, 0, 0, 0, false, [], []⟩ none 0 0 none 0 0) (by simp [results, Try.results33, go_sem, frA]) rfl ?_
  exact ⟨⟨10, id_, 0, 0, 0, 0, false, [], []⟩, _, rfl, okF_mk _ _ _ _ _ _ _ _ (by decide) ⟨(wid_in (by omega) (by omega)), wid0, wid0, wid0⟩ (by omega) ⟨by simp, by simp⟩ (by simp only [List.length_nil]; omega) (by simp) (by simp) (by simp) (by simp) (by simp) (by simp) (by simp) (.inr ⟨by decide, rfl⟩),
    ⟨_, _, _, _, _, _, rfl, rfl, rfl, own_nil _ _ _ _, own_nil _ _ _ _⟩, ((((Below.refl _ _).alloc (Nat.le_refl _) _).alloc (by simp) _).alloc (by simp; omega) _)⟩
set_option maxRecDepth 100000 in
set_option maxHeartbeats 4000000 in
theorem frame_11 (k id off a b : Int) (fin : Bool) (A : Option Addr) (bs : List Nat) (c : Nat) (A2 : Option Addr) (l : List Int) (c2 : Nat) (w : World) (hp : k % 12 = 10) (hid1 : -9223372036854775808 ≤ id) (hid2 : id ≤ 9223372036854775807) :
    Calls Try.prog 33 #[.agg #[.int .i64 k, .int .i64 id, .int .i64 off, .int .i64 a, .int .i64 b, .int .i64 0, .bool fin, .slice A bs.length c, .slice A2 l.length c2]] w (FrameP w) := by
  have HP : Hid (∀ W, Calls Try.prog 16 #[.int .i64 k, .int .i64 12] W fun e w' => e = .returned (.int .i64 10) ∧ W = w') := fun W => by have := pick_any k 12 W (by decide) (by decide); rw [hp] at this; exact this
  have HB : Hid (∀ W, Calls Try.prog 16 #[.int .i64 0, .int .i64 20] W fun e w' => e = .returned (.int .i64 0) ∧ W = w') := fun W => pick_any 0 20 W (by decide) (by decide)
  have HMid := Lib.hid (fun W => hmay_any id W hid1 hid2)
  have Mid := mayF_in id
  obtain ⟨id_, hmid⟩ : ∃ y, Hid (mayF id = y) := ⟨_, rfl⟩
  rw [hmid.out] at HMid Mid
  obtain ⟨Mid1, Mid2⟩ := Mid
  clear hp
  go_enter Try.func33, Try.ntmps33
  go_wp2_with fail
  refine (HP.out _).mono ?_
  rintro e w' ⟨rfl, rfl⟩
  go_wp2_with fail
  refine (HMid.out _).mono ?_
  rintro e w' ⟨rfl, rfl⟩
  go_wp2_with fail
  refine (HB.out _).mono ?_
  rintro e w' ⟨rfl, rfl⟩
  go_wp2_with fail
  refine bodyPost_ret (v := frA ⟨11, id_, 0, 0, 0, 0, false, [], []⟩ none 0 0 none 0 0) (by simp [results, Try.results33, go_sem, frA]) rfl ?_
  exact ⟨⟨11, id_, 0, 0, 0, 0, false, [], []⟩, _, rfl, okF_mk _ _ _ _ _ _ _ _ (by decide) ⟨(wid_in (by omega) (by omega)), wid0, wid0, wid0⟩ (by omega) ⟨by simp, by simp⟩ (by simp only [List.length_nil]; omega) (by simp) (by simp) (by simp) (by simp) (by simp) (by simp) (by simp) (.inr ⟨by decide, rfl⟩),
    ⟨_, _, _, _, _, _, rfl, rfl, rfl, own_nil _ _ _ _, own_nil _ _ _ _⟩, ((((Below.refl _ _).alloc (Nat.le_refl _) _).alloc (by simp) _).alloc (by simp; omega) _)⟩
end Go.Proofs.Ytebfjphmlggacaa

namespace Go.Proofs.Ytebfjphmlggacaa
open Go Go.RowKit

set_option maxRecDepth 100000 in
set_option maxHeartbeats 1000000 in
theorem frame_2 (k id off a b : Int) (fin : Bool) (A : Option Addr) (bs : List Nat) (c : Nat) (A2 : Option Addr) (l : List Int) (c2 : Nat) (w : World) (hp : k % 12 = 1) (hl : Rd w w.heap.size A2 l.length (ints l)) (hlc : l.length ≤ c2) (hlm : l.length ≤ 17592186044416) (hllt : ∀ n ∈ l, -9223372036854775808 ≤ n ∧ n ≤ 9223372036854775807) :
    Calls Try.prog 33 #[.agg #[.int .i64 k, .int .i64 id, .int .i64 off, .int .i64 a, .int .i64 b, .int .i64 0, .bool fin, .slice A bs.length c, .slice A2 l.length c2]] w (FrameP w) := by
  have HP : Hid (∀ W, Calls Try.prog 16 #[.int .i64 k, .int .i64 12] W fun e w' => e = .returned (.int .i64 1) ∧ W = w') := fun W => by have := pick_any k 12 W (by decide) (by decide); rw [hp] at this; exact this
  have HB : Hid (∀ W, Calls Try.prog 16 #[.int .i64 0, .int .i64 20] W fun e w' => e = .returned (.int .i64 0) ∧ W = w') := fun W => pick_any 0 20 W (by decide) (by decide)
  have HU : Hid (∀ W, Below w.heap.size w W → Calls Try.prog 51 #[.slice A2 l.length c2] W (RunsP W)) := fun W hW => runs_any l w.heap.size A2 c2 W (hl.below hW (Nat.le_refl _)) hW.size hllt hlm hlc
  clear hl hllt
  clear hp
  go_enter Try.func33, Try.ntmps33
  go_wp2_with fail
  refine (HP.out _).mono ?_
  rintro e w' ⟨rfl, rfl⟩
  go_wp2_with fail
  refine (HU.out _ ((((Below.refl _ _).alloc (Nat.le_refl _) _).alloc (by simp) _).alloc (by simp; omega) _)).mono ?_
  rintro e w1 ⟨A1, m1, c1, es, rfl, hm1, hm8, hsp, ho1, hb1⟩
  have HO := Lib.hid (own_base (base' := w.heap.size + 3) ho1 (by simp))
  have HSP := Lib.hid hsp
  clear ho1 hsp
  obtain ⟨hc1, hf1⟩ := bcell hb1
  have hz1 : w.heap.size + 2 < w1.heap.size := by have := hb1.size; simp at this; omega
  have HB1 : Hid (Below w.heap.size w w1) := ((((Below.refl _ _).alloc (Nat.le_refl _) _).alloc (by simp) _).alloc (by simp; omega) _).trans (hb1.mono (by simp; omega))
  clear hb1
  go_wp2_with fail
  refine (HB.out _).mono ?_
  rintro e w' ⟨rfl, rfl⟩
  go_wp2_with fail
  refine bodyPost_ret (v := frA ⟨2, 0, 0, 0, 0, 0, false, [], es⟩ none 0 0 A1 m1 c1) (by simp [results, Try.results33, go_sem, frA, hc1]) rfl ?_
  refine ⟨⟨2, 0, 0, 0, 0, 0, false, [], es⟩, _, rfl, okF_mk _ _ _ _ _ _ _ _ (by decide) ⟨wid0, wid0, wid0, wid0⟩ (by omega) ⟨by simp, by simp⟩ (by simp only [List.length_nil]; omega) (by simp) (by simp) (by simp) (by simp) (by simp) (by simp) (by simp) (.inl ⟨rfl, m1, hm1, hm8, HSP.out⟩), ?_, ?_⟩
  · refine ⟨none, 0, 0, A1, m1, c1, rfl, rfl, HSP.out.1, ?_, ?_⟩
    ·
      exact own_nil _ _ _ _
    ·
      refine own_base (base := w.heap.size + 3) ?_ (by omega)
      iterate 10 (refine ownsRow_setCell_below ?_ (by simp; try omega) _)
      exact HO.out
  ·
    exact ((((((((((HB1.out.setCell (p := ⟨w.heap.size + 1 + 1, 8, none⟩) (Nat.le_add_right _ 2) _).setCell (p := ⟨w.heap.size + 1, 0, none⟩) (Nat.le_add_right _ 1) _).setCell (p := ⟨w.heap.size + 1, 1, none⟩) (Nat.le_add_right _ 1) _).setCell (p := ⟨w.heap.size + 1, 2, none⟩) (Nat.le_add_right _ 1) _).setCell (p := ⟨w.heap.size + 1, 3, none⟩) (Nat.le_add_right _ 1) _).setCell (p := ⟨w.heap.size + 1, 4, none⟩) (Nat.le_add_right _ 1) _).setCell (p := ⟨w.heap.size + 1, 5, none⟩) (Nat.le_add_right _ 1) _).setCell (p := ⟨w.heap.size + 1, 6, none⟩) (Nat.le_add_right _ 1) _).setCell (p := ⟨w.heap.size + 1, 7, none⟩) (Nat.le_add_right _ 1) _).setCell (p := ⟨w.heap.size + 1, 8, none⟩) (Nat.le_add_right _ 1) _)
set_option maxRecDepth 100000 in
set_option maxHeartbeats 1000000 in
theorem frame_3 (k id off a b : Int) (fin : Bool) (A : Option Addr) (bs : List Nat) (c : Nat) (A2 : Option Addr) (l : List Int) (c2 : Nat) (w : World) (hp : k % 12 = 2) (hid1 : -9223372036854775808 ≤ id) (hid2 : id ≤ 9223372036854775807) (hoff1 : -9223372036854775808 ≤ off) (hoff2 : off ≤ 9223372036854775807) (hbs : Rd w w.heap.size A bs.length (bv bs)) (hbc : bs.length ≤ c) (hbm : bs.length ≤ 140737488355328) (hblt : ∀ x ∈ bs, x < 256) :
    Calls Try.prog 33 #[.agg #[.int .i64 k, .int .i64 id, .int .i64 off, .int .i64 a, .int .i64 b, .int .i64 0, .bool fin, .slice A bs.length c, .slice A2 l.length c2]] w (FrameP w) := by
  have HP : Hid (∀ W, Calls Try.prog 16 #[.int .i64 k, .int .i64 12] W fun e w' => e = .returned (.int .i64 2) ∧ W = w') := fun W => by have := pick_any k 12 W (by decide) (by decide); rw [hp] at this; exact this
  have HB : Hid (∀ W, Calls Try.prog 16 #[.int .i64 0, .int .i64 20] W fun e w' => e = .returned (.int .i64 0) ∧ W = w') := fun W => pick_any 0 20 W (by decide) (by decide)
  have HMid := Lib.hid (fun W => hmay_any id W hid1 hid2)
  have Mid := mayF_in id
  obtain ⟨id_, hmid⟩ : ∃ y, Hid (mayF id = y) := ⟨_, rfl⟩
  rw [hmid.out] at HMid Mid
  obtain ⟨Mid1, Mid2⟩ := Mid
  have HKoff := Lib.hid (fun W => pick_any off (1099511627776) W (by omega) (by omega))
  have Koff1 := Int.emod_nonneg off (show (1099511627776 : Int) ≠ 0 by omega)
  have Koff2 := Int.emod_lt_of_pos off (show (0 : Int) < 1099511627776 by omega)
  obtain ⟨off_, hkoff⟩ : ∃ y, Hid (off % (1099511627776) = y) := ⟨_, rfl⟩
  rw [hkoff.out] at HKoff Koff1 Koff2
  have HDL : Hid (∃ d, bs.take 120 = d ∧ d.length ≤ 120 ∧ ∀ x ∈ d, x < 256) := ⟨_, rfl, by rw [List.length_take]; omega, fun x hx => hblt x (List.mem_of_mem_take hx)⟩
  obtain ⟨d, hd, hd120, hdlt⟩ := HDL.out
  have HBL := Lib.hid hdlt
  have HF : Hid (∀ W, Below w.heap.size w W → Calls Try.prog 53 #[.slice A bs.length c, .int .i64 120] W fun e w' => ∃ v', e = .returned v' ∧ w'.ownsRow W.heap.size 5 1 v' d.length (bv d) ∧ Below W.heap.size W w') := fun W hW => by have := few_any bs w.heap.size A c 120 W (hbs.below hW (Nat.le_refl _)) hW.size hbc hbm; rw [hd] at this; exact this
  clear hblt hbs hd hdlt HDL
  clear hp
  go_enter Try.func33, Try.ntmps33
  go_wp2_with fail
  refine (HP.out _).mono ?_
  rintro e w' ⟨rfl, rfl⟩
  go_wp2_with fail
  refine (HMid.out _).mono ?_
  rintro e w' ⟨rfl, rfl⟩
  go_wp2_with fail
  refine (HKoff.out _).mono ?_
  rintro e w' ⟨rfl, rfl⟩
  go_wp2_with fail
  refine (HF.out _ ((((Below.refl _ _).alloc (Nat.le_refl _) _).alloc (by simp) _).alloc (by simp; omega) _)).mono ?_
  rintro e w1 ⟨v1, rfl, ho1, hb1⟩
  obtain ⟨A1, c1, e1, _⟩ := own_form ho1
  subst e1
  have HO := Lib.hid (own_base (base' := w.heap.size + 3) ho1 (by simp))
  clear ho1
  obtain ⟨hc1, hf1⟩ := bcell hb1
  have hz1 : w.heap.size + 2 < w1.heap.size := by have := hb1.size; simp at this; omega
  have HB1 : Hid (Below w.heap.size w w1) := ((((Below.refl _ _).alloc (Nat.le_refl _) _).alloc (by simp) _).alloc (by simp; omega) _).trans (hb1.mono (by simp; omega))
  clear hb1
  go_wp2_with fail
  refine (HB.out _).mono ?_
  rintro e w' ⟨rfl, rfl⟩
  go_wp2_with fail
  refine bodyPost_ret (v := frA ⟨3, id_, off_, 0, 0, 0, fin, d, []⟩ A1 d.length c1 none 0 0) (by simp [results, Try.results33, go_sem, frA, hc1]) rfl ?_
  refine ⟨⟨3, id_, off_, 0, 0, 0, fin, d, []⟩, _, rfl, okF_mk _ _ _ _ _ _ _ _ (by decide) ⟨(wid_in (by omega) (by omega)), (wid_in (by omega) (by omega)), wid0, wid0⟩ (by omega) ⟨hd120, HBL.out⟩ (by omega) (by simp) (by simp) (by simp) (by simp) (by simp) (by simp) (by simp) (.inr ⟨by decide, rfl⟩), ?_, ?_⟩
  · refine ⟨A1, d.length, c1, none, 0, 0, rfl, rfl, rfl, ?_, ?_⟩
    ·
      refine own_base (base := w.heap.size + 3) ?_ (by omega)
      iterate 10 (refine ownsRow_setCell_below ?_ (by simp; try omega) _)
      exact HO.out
    ·
      exact own_nil _ _ _ _
  ·
    exact ((((((((((HB1.out.setCell (p := ⟨w.heap.size + 1 + 1, 7, none⟩) (Nat.le_add_right _ 2) _).setCell (p := ⟨w.heap.size + 1, 0, none⟩) (Nat.le_add_right _ 1) _).setCell (p := ⟨w.heap.size + 1, 1, none⟩) (Nat.le_add_right _ 1) _).setCell (p := ⟨w.heap.size + 1, 2, none⟩) (Nat.le_add_right _ 1) _).setCell (p := ⟨w.heap.size + 1, 3, none⟩) (Nat.le_add_right _ 1) _).setCell (p := ⟨w.heap.size + 1, 4, none⟩) (Nat.le_add_right _ 1) _).setCell (p := ⟨w.heap.size + 1, 5, none⟩) (Nat.le_add_right _ 1) _).setCell (p := ⟨w.heap.size + 1, 6, none⟩) (Nat.le_add_right _ 1) _).setCell (p := ⟨w.heap.size + 1, 7, none⟩) (Nat.le_add_right _ 1) _).setCell (p := ⟨w.heap.size + 1, 8, none⟩) (Nat.le_add_right _ 1) _)
end Go.Proofs.Ytebfjphmlggacaa

namespace Go.Proofs.Ytebfjphmlggacaa
open Go Go.RowKit

set_option maxRecDepth 100000 in
set_option maxHeartbeats 2000000 in
theorem frame_9 (k id off a b : Int) (fin : Bool) (A : Option Addr) (bs : List Nat) (c : Nat) (A2 : Option Addr) (l : List Int) (c2 : Nat) (w : World) (hp : k % 12 = 8) (hbs : Rd w w.heap.size A bs.length (bv bs)) (hbc : bs.length ≤ c) (hbm : bs.length ≤ 140737488355328) (hblt : ∀ x ∈ bs, x < 256) :
    Calls Try.prog 33 #[.agg #[.int .i64 k, .int .i64 id, .int .i64 off, .int .i64 a, .int .i64 b, .int .i64 0, .bool fin, .slice A bs.length c, .slice A2 l.length c2]] w (FrameP w) := by
  have HP : Hid (∀ W, Calls Try.prog 16 #[.int .i64 k, .int .i64 12] W fun e w' => e = .returned (.int .i64 8) ∧ W = w') := fun W => by have := pick_any k 12 W (by decide) (by decide); rw [hp] at this; exact this
  have HB : Hid (∀ W, Calls Try.prog 16 #[.int .i64 0, .int .i64 20] W fun e w' => e = .returned (.int .i64 0) ∧ W = w') := fun W => pick_any 0 20 W (by decide) (by decide)
  have HDL : Hid (∃ d, bs.take 119 = d ∧ d.length ≤ 119 ∧ ∀ x ∈ d, x < 256) := ⟨_, rfl, by rw [List.length_take]; omega, fun x hx => hblt x (List.mem_of_mem_take hx)⟩
  obtain ⟨d, hd, hd119, hdlt⟩ := HDL.out
  have HBL := Lib.hid hdlt
  have HF : Hid (∀ W, Below w.heap.size w W → Calls Try.prog 53 #[.slice A bs.length c, .int .i64 119] W fun e w' => ∃ v', e = .returned v' ∧ w'.ownsRow W.heap.size 5 1 v' d.length (bv d) ∧ Below W.heap.size W w') := fun W hW => by have := few_any bs w.heap.size A c 119 W (hbs.below hW (Nat.le_refl _)) hW.size hbc hbm; rw [hd] at this; exact this
  clear hblt hbs hd hdlt HDL hp
  obtain ⟨y, hy, hy2⟩ : ∃ y : Nat, IntKind.u8.wrap a = (y : Int) ∧ y < 256 := ⟨(a % 256).toNat, by rw [IntKind.wrap_u8']; omega, by omega⟩
  obtain ⟨i0, hi, hz0, hz1, hz2⟩ := info_parts infoB
  have HI := Lib.hid (And.intro hi (And.intro hz0 (And.intro hz1 hz2)))
  clear hi hz0 hz1 hz2
  go_enter Try.func33, Try.ntmps33
  go_wp2_with fail
  refine (HP.out _).mono ?_
  rintro e w' ⟨rfl, rfl⟩
  go_wp2_with fail
  obtain ⟨w3, hw3⟩ : ∃ w3, Hid ((((w.alloc (.cells #[.int .i64 k, .int .i64 id, .int .i64 off, .int .i64 a, .int .i64 b, .int .i64 0, .bool fin, .slice A bs.length c, .slice A2 l.length c2] 76)).alloc (.cells #[.int .i64 0, .int .i64 0, .int .i64 0, .int .i64 0, .int .i64 0, .int .i64 0, .bool false, .slice none 0 0, .slice none 0 0] 28)).alloc (.cells #[.int .i64 9, .int .i64 0, .int .i64 0, .int .i64 0, .int .i64 0, .int .i64 0, .bool false, .slice none 0 0, .slice none 0 0] 28)) = w3) := ⟨_, rfl⟩
  have H3 : Hid (w3.heap.size = w.heap.size + 3 ∧ Below w.heap.size w w3 ∧ (∀ g o, g < w.heap.size + 3 → w3.cell? ⟨g, o, none⟩ = ((((w.alloc (.cells #[.int .i64 k, .int .i64 id, .int .i64 off, .int .i64 a, .int .i64 b, .int .i64 0, .bool fin, .slice A bs.length c, .slice A2 l.length c2] 76)).alloc (.cells #[.int .i64 0, .int .i64 0, .int .i64 0, .int .i64 0, .int .i64 0, .int .i64 0, .bool false, .slice none 0 0, .slice none 0 0] 28)).alloc (.cells #[.int .i64 9, .int .i64 0, .int .i64 0, .int .i64 0, .int .i64 0, .int .i64 0, .bool false, .slice none 0 0, .slice none 0 0] 28))).cell? ⟨g, o, none⟩) ∧ (∀ g o, g < w.heap.size + 3 → w3.frozen? ⟨g, o, none⟩ = ((((w.alloc (.cells #[.int .i64 k, .int .i64 id, .int .i64 off, .int .i64 a, .int .i64 b, .int .i64 0, .bool fin, .slice A bs.length c, .slice A2 l.length c2] 76)).alloc (.cells #[.int .i64 0, .int .i64 0, .int .i64 0, .int .i64 0, .int .i64 0, .int .i64 0, .bool false, .slice none 0 0, .slice none 0 0] 28)).alloc (.cells #[.int .i64 9, .int .i64 0, .int .i64 0, .int .i64 0, .int .i64 0, .int .i64 0, .bool false, .slice none 0 0, .slice none 0 0] 28))).frozen? ⟨g, o, none⟩)) := by
    rw [← hw3.out]
    exact ⟨by simp, (((Below.refl _ _).alloc (Nat.le_refl _) _).alloc (by simp) _).alloc (by simp; omega) _, fun _ _ _ => rfl, fun _ _ _ => rfl⟩
  rw [hw3.out]
  have S7 : Hid (w3.cell? ⟨w.heap.size, 7, none⟩ = some (.slice A bs.length c) ∧ w3.cell? ⟨w.heap.size, 3, none⟩ = some (.int .i64 a)) := by
    constructor
    · rw [H3.out.2.2.1 _ _ (by omega)]; simp [go_sem]
    · rw [H3.out.2.2.1 _ _ (by omega)]; simp [go_sem]
  have T3f : Hid (w3.frozen? ⟨w.heap.size + 2, 7, none⟩ = false) := by show _ = _; rw [H3.out.2.2.2 _ _ (by omega)]; simp [go_sem]
  have HS : Hid (∀ W, Below (w.heap.size + 2) w3 W → Below (w.heap.size + 2) w3 W ∧ W.cell? ⟨w.heap.size, 7, none⟩ = some (.slice A bs.length c) ∧ W.cell? ⟨w.heap.size, 3, none⟩ = some (.int .i64 a)) := fun W hW =>
    ⟨hW, (hW.cell (p := ⟨w.heap.size, 7, none⟩) (show w.heap.size < w.heap.size + 2 by omega)).trans S7.out.1, (hW.cell (p := ⟨w.heap.size, 3, none⟩) (show w.heap.size < w.heap.size + 2 by omega)).trans S7.out.2⟩
  have HD3 : Hid (Below w3.heap.size w3 w3.drew) := ⟨rfl, rfl, rfl, Nat.le_refl _, fun _ _ => rfl⟩
  refine wp_region_held_drew (S := fun W' => Below (w.heap.size + 2) w3 W' ∧ W'.cell? ⟨w.heap.size, 7, none⟩ = some (.slice A bs.length c) ∧ W'.cell? ⟨w.heap.size, 3, none⟩ = some (.int .i64 a)) (by kernel_rfl) ?_ (fun hHeld => ?_)
  · exact HS.out _ (HD3.out.mono (by have := H3.out.1; omega))
  refine wpAnyH_take (i := 0) (v := ?_) rfl (by kernel_rfl) (by kernel_rfl) (by kernel_rfl) (fun _ _ _ h => h) (Or.inl ⟨by rfl, ?_⟩) (by assumption) ?_
  rotate_left
  · intro w hSw; (try dsimp only at hSw); go_simp; try with_reducible rfl
  go_simp
  refine wpAnyH_take (i := 1) (v := ?_) rfl (by kernel_rfl) (by kernel_rfl) (by kernel_rfl) (fun _ _ _ h => h) (Or.inl ⟨by rfl, ?_⟩) (by assumption) ?_
  rotate_left
  · intro w hSw; (try dsimp only at hSw); go_simp; try with_reducible rfl
  go_simp
  refine wpAnyH_take (i := 3) (v := ?_) rfl (by kernel_rfl) (by kernel_rfl) (by kernel_rfl) (fun _ _ _ h => h) (Or.inl ⟨by rfl, ?_⟩) (by assumption) ?_
  rotate_left
  · intro w hSw; (try dsimp only at hSw); go_simp; try with_reducible rfl
  go_simp
  refine wpAnyH_take (i := 4) (v := ?_) rfl (by kernel_rfl) (by kernel_rfl) (by kernel_rfl) (fun _ _ _ h => h) (Or.inl ⟨by rfl, ?_⟩) (by assumption) ?_
  rotate_left
  · intro w hSw; (try dsimp only at hSw); go_simp; try with_reducible rfl
  go_simp
  refine wpAnyH_take (i := 5) (v := ?_) rfl (by kernel_rfl) (by kernel_rfl) (by kernel_rfl) (fun _ _ _ h => h) (Or.inl ⟨by rfl, ?_⟩) (by assumption) ?_
  rotate_left
  · intro w hSw; (try dsimp only at hSw); go_simp; try with_reducible rfl
  go_simp
  refine wpAnyH_ready (rs := [2, 6]) (by kernel_rfl) (by simp) ?_
  refine AllReadyH.cons rfl (fun K hK => ?_) ?_
  · skip
    go_simp
    refine (HF.out _ (H3.out.2.1.trans (HD3.out.mono (by have := H3.out.1; omega)))).mono ?_
    rintro e w4 ⟨v4, rfl, ho4, hb4⟩
    obtain ⟨A4, c4, e4, _⟩ := own_form ho4
    subst e4
    have HB4 : Hid (Below w3.heap.size w3 w4) := HD3.out.trans (hb4.mono HD3.out.size)
    have HO4 := Lib.hid (own_base (base' := w3.heap.size) ho4 HD3.out.size)
    clear ho4
    clear hb4
    refine hK.out _ _ ?_ (fun hHeld => ?_)
    · exact HS.out _ (Below.mono (HB4.out) (by have := H3.out.1; omega))
    clear hK K
    go_simp
    refine wpAnyH_ready (rs := [6]) (by kernel_rfl) (by simp) ?_
    refine AllReadyH.cons rfl (fun K hK => ?_) AllReadyH.nil
    go_simp
    have HBz : Hid (Below w3.heap.size w3 (w4.alloc (.cells #[.int .u8 (y : Int)] 5))) := HB4.out.alloc HB4.out.size _
    have HOx : Hid ((w4.alloc (.cells #[.int .u8 (y : Int)] 5)).ownsRow w3.heap.size 5 1 (.slice A4 d.length c4) d.length (bv d)) := HO4.out.alloc _
    refine hK.out _ _ ?_ (fun hHeld => ?_)
    · exact HS.out _ (Below.mono (HBz.out) (by have := H3.out.1; omega))
    clear hK K
    go_simp
    refine wpAnyH_ready (rs := [7]) (by kernel_rfl) (by simp) ?_
    refine AllReadyH.cons rfl (fun K hK => ?_) AllReadyH.nil
    refine step_own rfl (.tmp 87) (.tmp 91) 25 rfl w3.heap.size 5 i0 (.int .u8 0) 1 1 Try.underlying25 HI.out.1 HI.out.2.1 HI.out.2.2.1 HI.out.2.2.2 rfl (by decide) (.slice A4 d.length c4) d.length (bv d) (by simp [Act.eval, Act.put]) HOx.out (w4.heap.size + 1) (some ⟨w4.heap.size, 0, none⟩) 1 1 [.int .u8 ((y : Nat) : Int)] (by simp [Act.eval, Act.put]) (rd_new _ _ _ _ _ _ _ rfl (by simp) rfl rfl) (by simp [ones, Value.oneCell']) (by unfold maxLen; omega) (by omega) HBz.out.size ?_
    intro v5 w5 ho5 hg5
    obtain ⟨A5, c5, e5, _⟩ := own_form ho5
    subst e5
    have HB5 : Hid (Below w3.heap.size w3 w5) := HBz.out.grown hg5 HBz.out.size (fun g hg => (HOx.out.lt g hg).1)
    have HO5 : Hid (w5.ownsRow (w.heap.size + 3) 5 1 (.slice A5 (d.length + 1) c5) (d.length + 1) (bv (d ++ [y]))) := by
      rw [bv_app]
      exact own_base ho5 (by have := H3.out.1; omega)
    clear ho5 hg5
    have hcl5 : w5.cell? ⟨w.heap.size + 2, 7, none⟩ = some (.slice none 0 0) := by
      rw [HB5.out.cell (p := ⟨w.heap.size + 2, 7, none⟩) (show w.heap.size + 2 < w3.heap.size by have := H3.out.1; omega), H3.out.2.2.1 _ _ (by omega)]; simp [go_sem]
    have hfz5 : w5.frozen? ⟨w.heap.size + 2, 7, none⟩ = false := by
      rw [HB5.out.frozen (p := ⟨w.heap.size + 2, 7, none⟩) (show w.heap.size + 2 < w3.heap.size by have := H3.out.1; omega)]; exact T3f.out
    refine hK.out _ _ ?_ (fun hHeld => ?_)
    · exact HS.out _ (Below.mono (HB5.out) (by have := H3.out.1; omega))
    clear hK K
    go_simp
    refine wpAnyH_take (i := 8) (v := ?_) rfl (by kernel_rfl) (by kernel_rfl) (by kernel_rfl) (fun _ _ _ h => h) (Or.inl ⟨by rfl, ?_⟩) (by assumption) ?_
    rotate_left
    · intro w hSw; (try dsimp only at hSw); go_simp; try with_reducible rfl
    go_simp
    refine wpAnyH_ready (rs := [9]) (by kernel_rfl) (by simp) ?_
    refine AllReadyH.cons rfl (fun K hK => ?_) AllReadyH.nil
    go_simp
    refine hK.out _ _ ?_ (fun hHeld => ?_)
    · exact HS.out _ ((Below.mono HB5.out (by have := H3.out.1; omega)).setCell (show w.heap.size + 2 ≤ w.heap.size + 2 by omega) _)
    clear hK K
    go_simp
    refine wpAnyH_done (by kernel_rfl) ?_ _
    clear hcl5 hfz5
    have hc1 : ∀ g o, g < w.heap.size + 3 → w5.cell? ⟨g, o, none⟩ = ((((w.alloc (.cells #[.int .i64 k, .int .i64 id, .int .i64 off, .int .i64 a, .int .i64 b, .int .i64 0, .bool fin, .slice A bs.length c, .slice A2 l.length c2] 76)).alloc (.cells #[.int .i64 0, .int .i64 0, .int .i64 0, .int .i64 0, .int .i64 0, .int .i64 0, .bool false, .slice none 0 0, .slice none 0 0] 28)).alloc (.cells #[.int .i64 9, .int .i64 0, .int .i64 0, .int .i64 0, .int .i64 0, .int .i64 0, .bool false, .slice none 0 0, .slice none 0 0] 28))).cell? ⟨g, o, none⟩ := fun g o hb => (HB5.out.cell (p := ⟨g, o, none⟩) (by rw [H3.out.1]; exact hb)).trans (H3.out.2.2.1 g o hb)
    have hf1 : ∀ g o, g < w.heap.size + 3 → w5.frozen? ⟨g, o, none⟩ = ((((w.alloc (.cells #[.int .i64 k, .int .i64 id, .int .i64 off, .int .i64 a, .int .i64 b, .int .i64 0, .bool fin, .slice A bs.length c, .slice A2 l.length c2] 76)).alloc (.cells #[.int .i64 0, .int .i64 0, .int .i64 0, .int .i64 0, .int .i64 0, .int .i64 0, .bool false, .slice none 0 0, .slice none 0 0] 28)).alloc (.cells #[.int .i64 9, .int .i64 0, .int .i64 0, .int .i64 0, .int .i64 0, .int .i64 0, .bool false, .slice none 0 0, .slice none 0 0] 28))).frozen? ⟨g, o, none⟩ := fun g o hb => (HB5.out.frozen (p := ⟨g, o, none⟩) (by rw [H3.out.1]; exact hb)).trans (H3.out.2.2.2 g o hb)
    have HB1 : Hid (Below w.heap.size w w5) := H3.out.2.1.trans (HB5.out.mono (by have := H3.out.1; omega))
    go_wp2_with fail
    refine (HB.out _).mono ?_
    rintro e w' ⟨rfl, rfl⟩
    go_wp2_with fail
    refine bodyPost_ret (v := frA ⟨9, 0, 0, 0, 0, 0, false, d ++ [y], []⟩ A5 (d.length + 1) c5 none 0 0) (by simp [results, Try.results33, go_sem, frA, hc1]) rfl ?_
    refine ⟨⟨9, 0, 0, 0, 0, 0, false, d ++ [y], []⟩, _, rfl, okF_mk _ _ _ _ _ _ _ _ (by decide) ⟨wid0, wid0, wid0, wid0⟩ (by omega) ⟨by simp; omega, fun x hx => ?_⟩ (by simp; omega) (by simp) (by simp) (by simp) (by simp) (by simp) (by simp) (by simp) (.inr ⟨by decide, rfl⟩), ?_, ?_⟩
    · rcases List.mem_append.1 hx with h | h
      · exact HBL.out x h
      · simp only [List.mem_cons, List.not_mem_nil, or_false] at h; omega
    · refine ⟨A5, d.length + 1, c5, none, 0, 0, rfl, by simp, rfl, ?_, ?_⟩
      · refine own_base (base := w.heap.size + 3) ?_ (by omega)
        iterate 10 (refine ownsRow_setCell_below ?_ (by simp; try omega) _)
        exact HO5.out
      · exact own_nil _ _ _ _
    · exact ((((((((((HB1.out.setCell (p := ⟨w.heap.size + 1 + 1, 7, none⟩) (Nat.le_add_right _ 2) _).setCell (p := ⟨w.heap.size + 1, 0, none⟩) (Nat.le_add_right _ 1) _).setCell (p := ⟨w.heap.size + 1, 1, none⟩) (Nat.le_add_right _ 1) _).setCell (p := ⟨w.heap.size + 1, 2, none⟩) (Nat.le_add_right _ 1) _).setCell (p := ⟨w.heap.size + 1, 3, none⟩) (Nat.le_add_right _ 1) _).setCell (p := ⟨w.heap.size + 1, 4, none⟩) (Nat.le_add_right _ 1) _).setCell (p := ⟨w.heap.size + 1, 5, none⟩) (Nat.le_add_right _ 1) _).setCell (p := ⟨w.heap.size + 1, 6, none⟩) (Nat.le_add_right _ 1) _).setCell (p := ⟨w.heap.size + 1, 7, none⟩) (Nat.le_add_right _ 1) _).setCell (p := ⟨w.heap.size + 1, 8, none⟩) (Nat.le_add_right _ 1) _)
  refine AllReadyH.cons rfl (fun K hK => ?_) ?_
  · skip
    go_simp
    have HBb : Hid (Below w3.heap.size w3 (w3.drew.alloc (.cells #[.int .u8 (y : Int)] 5))) := HD3.out.alloc (Nat.le_refl _) _
    refine hK.out _ _ ?_ (fun hHeld => ?_)
    · exact HS.out _ (Below.mono (HBb.out) (by have := H3.out.1; omega))
    clear hK K
    go_simp
    refine wpAnyH_ready (rs := [2]) (by kernel_rfl) (by simp) ?_
    refine AllReadyH.cons rfl (fun K hK => ?_) AllReadyH.nil
    go_simp
    refine (HF.out _ (H3.out.2.1.trans (HBb.out.mono (by have := H3.out.1; omega)))).mono ?_
    rintro e w4 ⟨v4, rfl, ho4, hb4⟩
    obtain ⟨A4, c4, e4, _⟩ := own_form ho4
    subst e4
    have HB4 : Hid (Below w3.heap.size w3 w4) := HBb.out.trans (hb4.mono HBb.out.size)
    have HO4 := Lib.hid (own_base (base' := w3.heap.size) ho4 HBb.out.size)
    clear ho4
    have HBz := HB4
    have HOx := HO4
    have HRd : Hid (Rd w4 (w3.heap.size + 1) (some ⟨w3.heap.size, 0, none⟩) 1 [.int .u8 ((y : Nat) : Int)]) := by
      have h1 : Rd (w3.drew.alloc (.cells #[.int .u8 (y : Int)] 5)) (w3.heap.size + 1) (some ⟨w3.heap.size, 0, none⟩) 1 [.int .u8 ((y : Nat) : Int)] := rd_new _ _ _ _ _ _ _ rfl (by simp) rfl rfl
      exact h1.below hb4 (by simp)
    clear hb4
    refine hK.out _ _ ?_ (fun hHeld => ?_)
    · exact HS.out _ (Below.mono (HB4.out) (by have := H3.out.1; omega))
    clear hK K
    go_simp
    refine wpAnyH_ready (rs := [7]) (by kernel_rfl) (by simp) ?_
    refine AllReadyH.cons rfl (fun K hK => ?_) AllReadyH.nil
    refine step_own rfl (.tmp 87) (.tmp 91) 25 rfl w3.heap.size 5 i0 (.int .u8 0) 1 1 Try.underlying25 HI.out.1 HI.out.2.1 HI.out.2.2.1 HI.out.2.2.2 rfl (by decide) (.slice A4 d.length c4) d.length (bv d) (by simp [Act.eval, Act.put]) HOx.out (w3.heap.size + 1) (some ⟨w3.heap.size, 0, none⟩) 1 1 [.int .u8 ((y : Nat) : Int)] (by simp [Act.eval, Act.put]) HRd.out (by simp [ones, Value.oneCell']) (by unfold maxLen; omega) (by omega) HBz.out.size ?_
    intro v5 w5 ho5 hg5
    obtain ⟨A5, c5, e5, _⟩ := own_form ho5
    subst e5
    have HB5 : Hid (Below w3.heap.size w3 w5) := HBz.out.grown hg5 HBz.out.size (fun g hg => (HOx.out.lt g hg).1)
    have HO5 : Hid (w5.ownsRow (w.heap.size + 3) 5 1 (.slice A5 (d.length + 1) c5) (d.length + 1) (bv (d ++ [y]))) := by
      rw [bv_app]
      exact own_base ho5 (by have := H3.out.1; omega)
    clear ho5 hg5
    have hcl5 : w5.cell? ⟨w.heap.size + 2, 7, none⟩ = some (.slice none 0 0) := by
      rw [HB5.out.cell (p := ⟨w.heap.size + 2, 7, none⟩) (show w.heap.size + 2 < w3.heap.size by have := H3.out.1; omega), H3.out.2.2.1 _ _ (by omega)]; simp [go_sem]
    have hfz5 : w5.frozen? ⟨w.heap.size + 2, 7, none⟩ = false := by
      rw [HB5.out.frozen (p := ⟨w.heap.size + 2, 7, none⟩) (show w.heap.size + 2 < w3.heap.size by have := H3.out.1; omega)]; exact T3f.out
    refine hK.out _ _ ?_ (fun hHeld => ?_)
    · exact HS.out _ (Below.mono (HB5.out) (by have := H3.out.1; omega))
    clear hK K
    go_simp
    refine wpAnyH_take (i := 8) (v := ?_) rfl (by kernel_rfl) (by kernel_rfl) (by kernel_rfl) (fun _ _ _ h => h) (Or.inl ⟨by rfl, ?_⟩) (by assumption) ?_
    rotate_left
    · intro w hSw; (try dsimp only at hSw); go_simp; try with_reducible rfl
    go_simp
    refine wpAnyH_ready (rs := [9]) (by kernel_rfl) (by simp) ?_
    refine AllReadyH.cons rfl (fun K hK => ?_) AllReadyH.nil
    go_simp
    refine hK.out _ _ ?_ (fun hHeld => ?_)
    · exact HS.out _ ((Below.mono HB5.out (by have := H3.out.1; omega)).setCell (show w.heap.size + 2 ≤ w.heap.size + 2 by omega) _)
    clear hK K
    go_simp
    refine wpAnyH_done (by kernel_rfl) ?_ _
    clear hcl5 hfz5
    have hc1 : ∀ g o, g < w.heap.size + 3 → w5.cell? ⟨g, o, none⟩ = ((((w.alloc (.cells #[.int .i64 k, .int .i64 id, .int .i64 off, .int .i64 a, .int .i64 b, .int .i64 0, .bool fin, .slice A bs.length c, .slice A2 l.length c2] 76)).alloc (.cells #[.int .i64 0, .int .i64 0, .int .i64 0, .int .i64 0, .int .i64 0, .int .i64 0, .bool false, .slice none 0 0, .slice none 0 0] 28)).alloc (.cells #[.int .i64 9, .int .i64 0, .int .i64 0, .int .i64 0, .int .i64 0, .int .i64 0, .bool false, .slice none 0 0, .slice none 0 0] 28))).cell? ⟨g, o, none⟩ := fun g o hb => (HB5.out.cell (p := ⟨g, o, none⟩) (by rw [H3.out.1]; exact hb)).trans (H3.out.2.2.1 g o hb)
    have hf1 : ∀ g o, g < w.heap.size + 3 → w5.frozen? ⟨g, o, none⟩ = ((((w.alloc (.cells #[.int .i64 k, .int .i64 id, .int .i64 off, .int .i64 a, .int .i64 b, .int .i64 0, .bool fin, .slice A bs.length c, .slice A2 l.length c2] 76)).alloc (.cells #[.int .i64 0, .int .i64 0, .int .i64 0, .int .i64 0, .int .i64 0, .int .i64 0, .bool false, .slice none 0 0, .slice none 0 0] 28)).alloc (.cells #[.int .i64 9, .int .i64 0, .int .i64 0, .int .i64 0, .int .i64 0, .int .i64 0, .bool false, .slice none 0 0, .slice none 0 0] 28))).frozen? ⟨g, o, none⟩ := fun g o hb => (HB5.out.frozen (p := ⟨g, o, none⟩) (by rw [H3.out.1]; exact hb)).trans (H3.out.2.2.2 g o hb)
    have HB1 : Hid (Below w.heap.size w w5) := H3.out.2.1.trans (HB5.out.mono (by have := H3.out.1; omega))
    go_wp2_with fail
    refine (HB.out _).mono ?_
    rintro e w' ⟨rfl, rfl⟩
    go_wp2_with fail
    refine bodyPost_ret (v := frA ⟨9, 0, 0, 0, 0, 0, false, d ++ [y], []⟩ A5 (d.length + 1) c5 none 0 0) (by simp [results, Try.results33, go_sem, frA, hc1]) rfl ?_
    refine ⟨⟨9, 0, 0, 0, 0, 0, false, d ++ [y], []⟩, _, rfl, okF_mk _ _ _ _ _ _ _ _ (by decide) ⟨wid0, wid0, wid0, wid0⟩ (by omega) ⟨by simp; omega, fun x hx => ?_⟩ (by simp; omega) (by simp) (by simp) (by simp) (by simp) (by simp) (by simp) (by simp) (.inr ⟨by decide, rfl⟩), ?_, ?_⟩
    · rcases List.mem_append.1 hx with h | h
      · exact HBL.out x h
      · simp only [List.mem_cons, List.not_mem_nil, or_false] at h; omega
    · refine ⟨A5, d.length + 1, c5, none, 0, 0, rfl, by simp, rfl, ?_, ?_⟩
      · refine own_base (base := w.heap.size + 3) ?_ (by omega)
        iterate 10 (refine ownsRow_setCell_below ?_ (by simp; try omega) _)
        exact HO5.out
      · exact own_nil _ _ _ _
    · exact ((((((((((HB1.out.setCell (p := ⟨w.heap.size + 1 + 1, 7, none⟩) (Nat.le_add_right _ 2) _).setCell (p := ⟨w.heap.size + 1, 0, none⟩) (Nat.le_add_right _ 1) _).setCell (p := ⟨w.heap.size + 1, 1, none⟩) (Nat.le_add_right _ 1) _).setCell (p := ⟨w.heap.size + 1, 2, none⟩) (Nat.le_add_right _ 1) _).setCell (p := ⟨w.heap.size + 1, 3, none⟩) (Nat.le_add_right _ 1) _).setCell (p := ⟨w.heap.size + 1, 4, none⟩) (Nat.le_add_right _ 1) _).setCell (p := ⟨w.heap.size + 1, 5, none⟩) (Nat.le_add_right _ 1) _).setCell (p := ⟨w.heap.size + 1, 6, none⟩) (Nat.le_add_right _ 1) _).setCell (p := ⟨w.heap.size + 1, 7, none⟩) (Nat.le_add_right _ 1) _).setCell (p := ⟨w.heap.size + 1, 8, none⟩) (Nat.le_add_right _ 1) _)
  exact AllReadyH.nil
end Go.Proofs.Ytebfjphmlggacaa
