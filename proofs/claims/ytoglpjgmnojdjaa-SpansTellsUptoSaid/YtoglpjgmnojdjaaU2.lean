/- SpansTells: the walk. Conditions: as the theorem lists them. -/
import Derived.Test.YtoglpjgmnojdjaaU1
import Derived.Test.YtoglpjgmnojdjaaOp
import Derived.Deep.RegionHeld3
set_option linter.unusedSimpArgs false
set_option linter.unusedVariables false
namespace Go.Proofs.Ytoglpjgmnojdjaa.Tells
open Go Go.RowKit

/-- A slice of slices of numbers, as an argument. -/
structure IsNums (W : World) (A : Option Addr) (cap : Nat) (ps : List (List Int)) (vs : List Value) : Prop where
  rd : Rd W W.heap.size A ps.length vs
  le : ps.length ≤ cap
  big : ps.length ≤ 9223372036854775807
  each : ∀ j, j < ps.length → ∃ Aj cj, vs[j]? = some (.slice Aj (ps.getD j []).length cj) ∧ (ps.getD j []).length ≤ cj ∧ Rd W W.heap.size Aj (ps.getD j []).length (ints (ps.getD j [])) ∧ (∀ y ∈ ps.getD j [], -9223372036854775808 ≤ y ∧ y ≤ 9223372036854775807) ∧ (ps.getD j []).length ≤ 1048576

theorem map_take_snoc (l : List Int) (k : Nat) (hk : k < l.length) : (l.map numG).take (k + 1) = (l.map numG).take k ++ [numG (l.getD k 0)] := by
  rw [List.take_succ_eq_append_getElem (by rw [List.length_map]; exact hk)]
  simp [List.getD, hk]
theorem take_snoc' (l : List Int) (k : Nat) (hk : k < l.length) : l.take (k + 1) = l.take k ++ [l.getD k 0] := by
  rw [List.take_succ_eq_append_getElem hk]
  simp [List.getD, hk]
theorem mem_getD (l : List Int) (k : Nat) (hk : k < l.length) : l.getD k 0 ∈ l := by
  simp only [List.getD]
  rw [List.getElem?_eq_getElem hk]
  exact List.getElem_mem _

theorem infoS : (Try.prog.info? 27).map (fun i => (i.zero, i.size, i.bytes)) = some (some (.agg #[.slice none 0 0]), 1, 24) := by kernel_rfl

/-- Sets as values, their edges rows of numbers. -/
def SetsT (w : World) (ss : List (List Int × Option Addr × Nat)) : Prop := ∀ s ∈ ss, Ok s.1 ∧ s.1.length ≤ s.2.2 ∧ s.1.length ≤ 4194304 ∧ w.ownsRow 0 3 1 (.slice s.2.1 s.1.length s.2.2) s.1.length (ints s.1)
theorem SetsT.below {w w' : World} {ss : List (List Int × Option Addr × Nat)} (h : SetsT w ss) (hb : Below w.heap.size w w') : SetsT w' ss := fun s hs => by
  obtain ⟨h1, h2, h3, h4⟩ := h s hs
  exact ⟨h1, h2, h3, own_below h4 hb⟩
theorem SetsT.kind {w w' : World} {ss : List (List Int × Option Addr × Nat)} {row : Option Nat} {e' : TypeId} (h : SetsT w ss) (g : w.grownBy w' row) (hr : ∀ k, row = some k → ∃ cur fr, w.heap[k]? = some (.cells cur e' fr)) (hne : 3 ≠ e') : SetsT w' ss := fun s hs => by
  obtain ⟨h1, h2, h3, h4⟩ := h s hs
  exact ⟨h1, h2, h3, own_kind h4 g hr hne⟩
/-- What was there stays where block r, and new ones, alone are written. -/
theorem SetsT.grown {w w' : World} {ss : List (List Int × Option Addr × Nat)} {r : Nat} {es : List Int} (h : SetsT w ss) (g : w.grownBy w' (some r)) (hr : Ref.RefIn w r es) : SetsT w' ss :=
  h.kind (e' := 32) g (fun k hk => by
    cases hk
    obtain ⟨_, A, n, c, _, h2, _⟩ := hr
    exact ⟨_, _, h2⟩) (by decide)
theorem SetsT.ok {w : World} {ss : List (List Int × Option Addr × Nat)} (h : SetsT w ss) : SetsOk w w.heap.size ss := fun s hs => by
  obtain ⟨h1, h2, h3, h4⟩ := h s hs
  obtain ⟨_, _, ev, _, _, _, hrd⟩ := own_form h4
  simp only [Value.slice.injEq] at ev
  obtain ⟨rfl, _, rfl⟩ := ev
  rw [Nat.mul_one] at hrd
  exact ⟨h1, h2, by omega, hrd⟩
theorem allRuns_len (ss : List (List Int × Option Addr × Nat)) (M : Nat) (h : ∀ s ∈ ss, Ok s.1 ∧ s.1.length ≤ M) : (allRuns ss).length ≤ ss.length * M := by
  induction ss with
  | nil => simp [allRuns]
  | cons s ss ih =>
    have h1 := ih fun s hs => h s (by simp [hs])
    have h2 := h s (by simp)
    have h3 := prs_len s.1 h2.1.2.1
    unfold allRuns at h1 ⊢
    simp only [List.flatMap_cons, List.length_append, List.length_cons]
    rw [h3, Nat.add_mul]
    omega

/-- Behind some of the sets: w3 is where they begin. -/
structure L3 (w3 wr : World) (r : Nat) (R0 : List Int) (ps : List (List Int)) (i : Nat) (v : Value) (ss : List (List Int × Option Addr × Nat)) : Prop where
  len : ss.length = i
  own : wr.ownsRow w3.heap.size 27 1 v i (setVals ss)
  sets : SetsT wr ss
  ref : Ref.RefIn wr r (addL R0 ((ps.take i).flatMap (·.map numG)))
  ty : Ref.TyL wr r
  gro : w3.grownBy wr (some r)
  mem : ∀ n, (ss.any fun s => mem s.1 n) = (mayN n && ((ps.take i).flatMap (·.map numG)).contains n)

theorem flat_snoc (ps : List (List Int)) (i : Nat) (hi : i < ps.length) : (ps.take (i + 1)).flatMap (·.map numG) = (ps.take i).flatMap (·.map numG) ++ (ps.getD i []).map numG := by
  rw [List.take_succ_eq_append_getElem hi, List.flatMap_append]
  simp [List.getD, hi]
theorem flat_len (ps : List (List Int)) (i : Nat) (h : ∀ j, j < ps.length → (ps.getD j []).length ≤ 1048576) (hi : i ≤ ps.length) : ((ps.take i).flatMap (·.map numG)).length ≤ i * 1048576 := by
  induction i with
  | zero => simp
  | succ i ih =>
    rw [flat_snoc ps i (by omega), List.length_append, List.length_map]
    have := ih (by omega)
    have := h i (by omega)
    omega
theorem val_store {w : World} {p : Nat} {es es0 : List Int} {A : Option Addr} {c : Nat} (h : SetVal w es A c) (hq : SetIn w p es0) : SetIn (w.setCell ⟨p, 0, none⟩ (.slice A es.length c)) p es := by
  obtain ⟨_, A', c', h2, _⟩ := hq
  have hg : w.grownBy (w.setCell ⟨p, 0, none⟩ (.slice A es.length c)) (some p) := grown_of (Below.refl _ _) p _
  exact ⟨h.1, A, c, one_setCell h2, h.2.1, h.2.2.1, (h.2.2.2.but (Nat.le_refl _) hg h2).more hg.size⟩
theorem setVals_snoc (ss : List (List Int × Option Addr × Nat)) (s : List Int × Option Addr × Nat) : setVals (ss ++ [s]) = setVals ss ++ [.slice s.2.1 s.1.length s.2.2] := by simp [setVals]
theorem refkind {w : World} {r : Nat} {es : List Int} (hr : Ref.RefIn w r es) : ∀ k, some r = some k → ∃ cur fr, w.heap[k]? = some (.cells cur 32 fr) := fun k hk => by
  cases hk
  obtain ⟨_, A, n, c, _, h2, _⟩ := hr
  exact ⟨_, _, h2⟩

set_option maxRecDepth 100000 in
set_option maxHeartbeats 16000000 in
theorem tells_walk (A : Option Addr) (c : Nat) (l : List Int) (A1 : Option Addr) (c1 : Nat) (ps : List (List Int)) (vs : List Value) (A2 : Option Addr) (n2 c2 : Nat) (zs : List Int) (m fr tt : Int) (w : World) (hl : IsInts w A c l) (hp : IsNums w A1 c1 ps vs) (hz : IsRows w A2 c2 n2 3 zs)
    (hl20 : l.length ≤ 1048576) (hz20 : n2 ≤ 1048576) (m1 : -9223372036854775808 ≤ m) (m2 : m ≤ 9223372036854775807) (f1 : -9223372036854775808 ≤ fr) (f2 : fr ≤ 9223372036854775807) (t1 : -9223372036854775808 ≤ tt) (t2 : tt ≤ 9223372036854775807) :
    Calls Try.prog 3 #[.slice A l.length c, .slice A1 ps.length c1, .slice A2 n2 c2, .int .i64 m, .int .i64 fr, .int .i64 tt] w fun e w' => e = .returned (.bool true) ∧ Below w.heap.size w w' := by
  have HL := Lib.hid hl
  have HP := Lib.hid hp
  have HZ := Lib.hid hz
  obtain ⟨n, hn⟩ : ∃ n, Hid (l.length = n) := ⟨_, rfl⟩
  obtain ⟨N1, hN1⟩ : ∃ n, Hid (ps.length = n) := ⟨_, rfl⟩
  have hnc : n ≤ c := by rw [← hn.out]; exact hl.cap
  have hN1c : N1 ≤ c1 := by rw [← hN1.out]; exact hp.le
  have hN1b : (N1 : Int) ≤ 9223372036854775807 := by have := hp.big; have := hN1.out; omega
  have hn2c : n2 ≤ c2 := hz.cap
  rw [hn.out] at hl20
  rw [hn.out, hN1.out]
  have hni : (n : Int) ≤ 1048576 := by omega
  have hn2i : (n2 : Int) ≤ 1048576 := by omega
  obtain ⟨xs, hxs⟩ : ∃ xs, Hid (l.map numG = xs) := ⟨_, rfl⟩
  have HXL : Hid (xs.length = n) := by rw [← hxs.out]; show _ = _; rw [List.length_map, hn.out]
  have HXB : Hid (∀ y ∈ xs, -1152921504606846976 ≤ y ∧ y ≤ 4611686018427387904) := fun y hy => by
    rw [← hxs.out] at hy
    obtain ⟨z, hz, rfl⟩ := List.mem_map.1 hy
    have := hl.lt z hz
    exact numG_bd z this.1 this.2
  obtain ⟨i0, hii, hz0, hz1, hz2⟩ := info_parts infoI
  have HI := Lib.hid (And.intro hii (And.intro hz0 (And.intro hz1 hz2)))
  clear hl hp hz hii hz0 hz1 hz2
  go_enter Try.func3, Try.ntmps3
  go_wp2_with fail
  go_loopw [13, 33] (fun v i wr => ∃ k : Nat, k ≤ n ∧ i = .int .i64 k ∧ (∃ Ax cx, v = .slice Ax k cx) ∧ Hid (wr.ownsRow w.heap.size 3 1 v k (ints (xs.take k)) ∧ Below w.heap.size w wr)) (fun _ i _ => n - (intOf i).toNat)
  case atStart => exact ⟨0, Nat.zero_le _, rfl, ⟨_, _, rfl⟩, own_nil _ _ _ _, Below.refl _ _⟩
  case round =>
    obtain ⟨k, hk, rfl, ⟨Ax, cx, rfl⟩, HK⟩ := hrel
    by_cases hlt : k < n
    · have hlti : (k : Int) < (n : Int) := by omega
      obtain ⟨_, b, off, hA, hbn, hcs⟩ := HL.out.rd.int (by rw [hn.out]; omega)
      subst hA
      obtain ⟨x, hx⟩ : ∃ x, Hid (l.getD k 0 = x) := ⟨_, rfl⟩
      have hcx : wr.cell? ⟨b, off + k, none⟩ = some (.int .i64 x) := by
        rw [HK.out.2.cell (p := ⟨b, off + k, none⟩) hbn, hcs k (by rw [hn.out]; omega), hx.out]
      have hxb := HL.out.lt x (by rw [← hx.out]; exact mem_getD l k (by rw [hn.out]; exact hlt))
      have HNU := Lib.hid (fun W => num_g x W hxb.1 hxb.2)
      have HTK : Hid (xs.take (k + 1) = xs.take k ++ [numG x]) := by rw [← hxs.out, ← hx.out]; exact map_take_snoc l k (by rw [hn.out]; exact hlt)
      obtain ⟨y, hy⟩ : ∃ y, Hid (numG x = y) := ⟨_, rfl⟩
      rw [hy.out] at HNU HTK
      clear hcs hxb
      go_wp2_with fail
      refine (HNU.out _).mono ?_
      rintro e w' ⟨rfl, rfl⟩
      have hd1 : Hid (Rd (wr.alloc (.cells #[.int .i64 y] 3)) (wr.heap.size + 1) (some ⟨wr.heap.size, 0, none⟩) (1 * 1) (ints [y])) := rd_new _ _ _ _ _ _ _ rfl (by omega) rfl rfl
      have hd2 : Hid (k + 1 ≤ maxLen) := by show _ ≤ _; unfold maxLen; omega
      have hd3 : Hid ((k + 1) * 8 ≤ 140737488355328) := by show _ ≤ _; omega
      have hd4 : Hid (w.heap.size ≤ (wr.alloc (.cells #[.int .i64 y] 3)).heap.size) := by have := HK.out.2.size; show _ ≤ _; simp only [World.size_alloc]; omega
      go_wp2_with (at_builtin; refine wpList_app _ rfl (.tmp 37) (.tmp 40) 22 rfl w.heap.size 3 i0 (.int .i64 0) 1 8 Try.underlying22 HI.out.1 HI.out.2.1 HI.out.2.2.1 HI.out.2.2.2 rfl (by decide) (.slice Ax k cx) k (ints (xs.take k)) rfl (HK.out.1.alloc _) (wr.heap.size + 1) (some ⟨wr.heap.size, 0, none⟩) 1 1 (ints [y]) rfl hd1.out (ones_ints _) hd2.out hd3.out hd4.out ?_)
      intro v2 w2 hown2 hgrow2
      obtain ⟨Ay, cy, e2, _⟩ := own_form hown2
      subst e2
      have HN : Hid (w2.ownsRow w.heap.size 3 1 (.slice Ay (k + 1) cy) (k + 1) (ints (xs.take (k + 1))) ∧ Below w.heap.size w w2) := by
        refine ⟨?_, (HK.out.2.alloc HK.out.2.size _).grown hgrow2 hd4.out (fun g hg => (HK.out.1.lt g hg).1)⟩
        rw [HTK.out, ints_app]; exact hown2
      clear hown2 hgrow2 hcx
      go_wp2_with fail
      go_roundw
      case rel => exact ⟨k + 1, by omega, by go_num, ⟨_, _, rfl⟩, HN⟩
      case measure => simp [intOf]; omega
    · obtain rfl : k = n := by omega
      have hlti : ¬ (k : Int) < (k : Int) := by omega
      obtain ⟨wa, rfl⟩ : ∃ wa : World, wa = wr := ⟨_, rfl⟩
      have HXR : Hid (wa.ownsRow w.heap.size 3 1 (.slice Ax k cx) k (ints xs)) := by
        have := HK.out.1
        rwa [List.take_of_length_le (by rw [HXL.out]; exact Nat.le_refl _)] at this
      have HBA : Hid (Below w.heap.size w wa) := HK.out.2
      obtain ⟨_, _, ev, hxc, _, _, hrx⟩ := own_form HXR.out
      simp only [Value.slice.injEq] at ev
      obtain ⟨rfl, _, rfl⟩ := ev
      have HOF : Hid (Calls Try.prog 8 #[.slice Ax k cx] wa fun e w' => OfP xs wa e w') := by
        have := of_any xs wa.heap.size Ax cx wa (by rw [HXL.out]; rw [Nat.mul_one] at hrx; exact hrx) (Nat.le_refl _) (by rw [HXL.out]; exact hxc) (by rw [HXL.out]; omega) (.inr (by rw [HXL.out]; omega)) (fun y hy => by have := HXB.out y hy; omega)
        rwa [HXL.out] at this
      clear HK hrx
      go_wp2_with fail
      refine HOF.out.mono ?_
      rintro e wb ⟨es0, A0, c0, rfl, hsv, hmem, hlen, hb, hft⟩
      have HME := Lib.hid hmem
      have HLE := Lib.hid hlen
      have HVB := Lib.hid hsv
      have HXB2 : Hid (wb.ownsRow w.heap.size 3 1 (.slice Ax k cx) k (ints xs)) := own_below HXR.out hb
      have HBB : Hid (Below w.heap.size w wb) := HBA.out.trans (hb.mono HBA.out.size)
      clear hsv hmem hlen hb hft HOF
      go_wp2_with fail
      obtain ⟨pS, hpS⟩ : ∃ g, Hid (wb.heap.size = g) := ⟨_, rfl⟩
      obtain ⟨wc, hwc⟩ : ∃ wc, Hid ((wb.alloc (Obj.cells #[.slice A0 es0.length c0] 27)).alloc (Obj.cells #[.slice none 0 0] 32) = wc) := ⟨_, rfl⟩
      have hbc : Below wb.heap.size wb wc := by rw [← hwc.out]; exact ((Below.refl _ _).alloc (Nat.le_refl _) _).alloc (by simp) _
      have HC0 : Hid (SetIn wc pS es0 ∧ (Ref.RefIn wc (pS + 1) [] ∧ Ref.TyL wc (pS + 1)) ∧ wc.ownsRow w.heap.size 3 1 (.slice Ax k cx) k (ints xs) ∧ Below w.heap.size w wc ∧ w.heap.size ≤ pS) := by
        refine ⟨?_, ?_, own_below HXB2.out hbc, HBB.out.trans (hbc.mono HBB.out.size), by rw [← hpS.out]; exact HBB.out.size⟩
        · rw [← hwc.out, ← hpS.out]
          exact (HVB.out.put).below ((Below.refl _ _).alloc (Nat.le_refl _) _)
        · have := Ref.rnew_put (wb.alloc (Obj.cells #[.slice A0 es0.length c0] 27))
          rw [← hwc.out, ← hpS.out]
          have h2 := heap_alloc_new (wb.alloc (Obj.cells #[.slice A0 es0.length c0] 27)) (.cells #[.slice none 0 0] 32)
          exact ⟨by simpa using this, none, 0, 0, by simpa using h2, fun a ha => by cases ha⟩
      rw [hwc.out, hpS.out]
      have hxci : (k : Int) ≤ (cx : Int) := by omega
      clear hbc HXB2 HVB HBB hxc
      go_loopw [49] (fun i wr => ∃ j : Nat, j ≤ k ∧ i = .int .i64 j ∧ Hid (SetIn wr pS es0 ∧ (Ref.RefIn wr (pS + 1) (addL [] (xs.take j)) ∧ Ref.TyL wr (pS + 1)) ∧ wr.ownsRow w.heap.size 3 1 (.slice Ax k cx) k (ints xs) ∧ Below w.heap.size w wr ∧ w.heap.size ≤ pS)) (fun i _ => k - (intOf i).toNat)
      case atStart => exact ⟨0, Nat.zero_le _, rfl, HC0⟩
      case round =>
        obtain ⟨j, hj, rfl, HK⟩ := hrel
        by_cases hjk : j < k
        · have hjki : (j : Int) < (k : Int) := by omega
          obtain ⟨_, _, ev, _, _, _, hrx⟩ := own_form HK.out.2.2.1
          simp only [Value.slice.injEq] at ev
          obtain ⟨rfl, _, rfl⟩ := ev
          rw [Nat.mul_one] at hrx
          obtain ⟨_, b, off, hA, hbn, hcs⟩ := hrx.int (by omega)
          subst hA
          obtain ⟨y, hy⟩ : ∃ y, Hid (xs.getD j 0 = y) := ⟨_, rfl⟩
          have hcy : wr.cell? ⟨b, off + j, none⟩ = some (.int .i64 y) := by rw [hcs j (by rw [HXL.out]; omega), hy.out]
          have hyb := HXB.out y (by rw [← hy.out]; exact mem_getD xs j (by rw [HXL.out]; omega))
          have HTK : Hid (addL [] (xs.take (j + 1)) = turn (addL [] (xs.take j)) y (y + 1) true) := by show _ = _; rw [take_snoc' xs j (by rw [HXL.out]; omega), addL_snoc, hy.out]
          have HLL : Hid ((addL [] (xs.take j)).length ≤ 2097152) := by have := addL_len [] (xs.take j); simp only [List.length_nil, List.length_take] at this; show _ ≤ _; omega
          clear hcs hrx
          go_wp2_with fail
          refine (Ref.radd_ty _ (pS + 1) y (y + 1) wr HK.out.2.1.1 HK.out.2.1.2 (by have := HLL.out; omega)).mono ?_
          rintro e w2 ⟨rfl, h1, h2, h3⟩
          have HN : Hid (SetIn w2 pS es0 ∧ (Ref.RefIn w2 (pS + 1) (addL [] (xs.take (j + 1))) ∧ Ref.TyL w2 (pS + 1)) ∧ w2.ownsRow w.heap.size 3 1 (.slice (some ⟨b, off, none⟩) k cx) k (ints xs) ∧ Below w.heap.size w w2 ∧ w.heap.size ≤ pS) := by
            rw [HTK.out]
            exact ⟨set_ref HK.out.1 h2 HK.out.2.1.1 (by omega), ⟨h1, h3⟩, own_kind HK.out.2.2.1 h2 (refkind HK.out.2.1.1) (by decide), HK.out.2.2.2.1.grown h2 HK.out.2.2.2.1.size (fun g hg => by simp at hg; have := HK.out.2.2.2.2; omega), HK.out.2.2.2.2⟩
          clear h1 h2 h3 hcy
          go_wp2_with fail
          go_roundw
          case rel => exact ⟨j + 1, by omega, by go_num, HN⟩
          case measure => simp [intOf]; omega
        · obtain rfl : j = k := by omega
          have hjki : ¬ (j : Int) < (j : Int) := by omega
          obtain ⟨w3, rfl⟩ : ∃ w3 : World, w3 = wr := ⟨_, rfl⟩
          have HS3 : Hid (SetIn w3 pS es0) := HK.out.1
          obtain ⟨R0, hR0⟩ : ∃ R0, Hid (addL [] xs = R0) := ⟨_, rfl⟩
          have HR3 : Hid (Ref.RefIn w3 (pS + 1) R0) := by
            have := HK.out.2.1.1
            rwa [List.take_of_length_le (by rw [HXL.out]; exact Nat.le_refl _), hR0.out] at this
          have HT3 : Hid (Ref.TyL w3 (pS + 1)) := HK.out.2.1.2
          have HRL : Hid (R0.length ≤ 2097152) := by rw [← hR0.out]; have := addL_len [] xs; have := HXL.out; simp only [List.length_nil] at *; show _ ≤ _; omega
          have HB3 : Hid (Below w.heap.size w w3 ∧ w.heap.size ≤ pS) := HK.out.2.2.2
          obtain ⟨iS, hSi, hS0, hS1, hS2⟩ := info_parts infoS
          have HIS := Lib.hid (And.intro hSi (And.intro hS0 (And.intro hS1 hS2)))
          clear HK hSi hS0 hS1 hS2
          go_wp2_with fail
          go_loopw [20, 21] (fun v iv wr => ∃ (i : Nat) (ss : List (List Int × Option Addr × Nat)), i ≤ N1 ∧ i ≤ 3 ∧ iv = .int .i64 i ∧ (∃ As cs, v = .slice As i cs) ∧ Hid (L3 w3 wr (pS + 1) R0 ps i v ss)) (fun _ iv _ => 3 - (intOf iv).toNat)
          case atStart => exact ⟨0, [], Nat.zero_le _, by omega, rfl, ⟨_, _, rfl⟩, rfl, own_nil _ _ _ _, (fun s hs => by cases hs), HR3.out, HT3.out, below_grown (Below.refl _ _) _, fun n => by simp⟩
          case round =>
            obtain ⟨i, ss, hi1, hi3, rfl, ⟨As, cs, rfl⟩, HK⟩ := hrel
            by_cases hlt3 : i < N1 ∧ i < 3
            · obtain ⟨hiN, hi3'⟩ := hlt3
              obtain ⟨wi, rfl⟩ : ∃ wi : World, wi = wr := ⟨_, rfl⟩
              have hiNi : (i : Int) < (N1 : Int) := by omega
              have hi3i : (i : Int) < 3 := by omega
              have HBI : Hid (Below w.heap.size w wi) := HB3.out.1.grown HK.out.gro HB3.out.1.size (fun g hg => by simp at hg; have := HB3.out.2; omega)
              obtain ⟨b1, o1, hA1, hb1n, hc1s⟩ := HP.out.rd.2 (by rw [hN1.out]; omega)
              subst hA1
              obtain ⟨Aj, cj, hvj, hcj, hrj, hbj, hmj⟩ := HP.out.each i (by rw [hN1.out]; omega)
              obtain ⟨zl, hzl⟩ : ∃ zl, Hid (ps.getD i [] = zl) := ⟨_, rfl⟩
              rw [hzl.out] at hvj hcj hrj hbj hmj
              have hcm : wi.cell? ⟨b1, o1 + i, none⟩ = some (.slice Aj zl.length cj) := by
                rw [HBI.out.cell (p := ⟨b1, o1 + i, none⟩) hb1n]; exact hc1s i _ hvj
              have HFS : Hid ((ps.take (i + 1)).flatMap (·.map numG) = (ps.take i).flatMap (·.map numG) ++ zl.map numG) := by show _ = _; rw [flat_snoc ps i (by rw [hN1.out]; omega), hzl.out]
              have HFL : Hid (((ps.take i).flatMap (·.map numG)).length ≤ 3145728) := by
                have := flat_len ps i (fun j hj => by obtain ⟨_, _, _, _, _, _, h⟩ := HP.out.each j hj; exact h) (by rw [hN1.out]; omega)
                show _ ≤ _; omega
              obtain ⟨zx, hzx⟩ : ∃ zx, Hid (zl.map numG = zx) := ⟨_, rfl⟩
              obtain ⟨zn, hzn⟩ : ∃ zn, Hid (zl.length = zn) := ⟨_, rfl⟩
              have HZL : Hid (zx.length = zn) := by rw [← hzx.out]; show _ = _; rw [List.length_map, hzn.out]
              have HZB : Hid (∀ y ∈ zx, -1152921504606846976 ≤ y ∧ y ≤ 4611686018427387904) := fun y hy => by
                rw [← hzx.out] at hy
                obtain ⟨z, hz, rfl⟩ := List.mem_map.1 hy
                have := hbj z hz
                exact numG_bd z this.1 this.2
              obtain ⟨Ri, hRi⟩ : ∃ Ri, Hid (addL R0 ((ps.take i).flatMap (·.map numG)) = Ri) := ⟨_, rfl⟩
              have HRI : Hid (Ref.RefIn wi (pS + 1) Ri) := by rw [← hRi.out]; exact HK.out.ref
              have HTI : Hid (Ref.TyL wi (pS + 1)) := HK.out.ty
              have HRIL : Hid (Ri.length ≤ 8388608) := by rw [← hRi.out]; have := addL_len R0 ((ps.take i).flatMap (·.map numG)); have := HRL.out; have := HFL.out; show _ ≤ _; omega
              have HRJ := Lib.hid hrj
              have HBJ := Lib.hid hbj
              have hznb : (zn : Int) ≤ 1048576 := by have := hzn.out; omega
              have hzci : (zn : Int) ≤ (cj : Int) := by have := hzn.out; omega
              rw [hzn.out] at hcm
              clear hc1s hvj hcj hrj hbj hmj
              go_wp2_with fail
              go_loopw [22, 74] (fun v qv wr => ∃ q : Nat, q ≤ zn ∧ qv = .int .i64 q ∧ (∃ Az cz, v = .slice Az q cz) ∧ Hid (wr.ownsRow wi.heap.size 3 1 v q (ints (zx.take q)) ∧ (Ref.RefIn wr (pS + 1) (addL Ri (zx.take q)) ∧ Ref.TyL wr (pS + 1)) ∧ wi.grownBy wr (some (pS + 1)))) (fun _ qv _ => zn - (intOf qv).toNat)
              case atStart => exact ⟨0, Nat.zero_le _, rfl, ⟨_, _, rfl⟩, own_nil _ _ _ _, ⟨HRI.out, HTI.out⟩, below_grown (Below.refl _ _) _⟩
              case round =>
                clear hcm
                obtain ⟨q, hq, rfl, ⟨Az, cz, rfl⟩, HQ⟩ := hrel
                have hrlt : pS + 1 < wi.heap.size := HRI.out.lt
                by_cases hqz : q < zn
                · have hqi : (q : Int) < (zn : Int) := by omega
                  obtain ⟨_, b2, o2, hA2, hb2n, hc2s⟩ := HRJ.out.int (by rw [hzn.out]; omega)
                  subst hA2
                  have HBQ : Hid (Below w.heap.size w wr) := HBI.out.grown HQ.out.2.2 HBI.out.size (fun g hg => by simp at hg; have := HB3.out.2; omega)
                  obtain ⟨x, hx⟩ : ∃ x, Hid (zl.getD q 0 = x) := ⟨_, rfl⟩
                  have hcx : wr.cell? ⟨b2, o2 + q, none⟩ = some (.int .i64 x) := by
                    rw [HBQ.out.cell (p := ⟨b2, o2 + q, none⟩) hb2n, hc2s q (by rw [hzn.out]; omega), hx.out]
                  have hxb := HBJ.out x (by rw [← hx.out]; exact mem_getD zl q (by rw [hzn.out]; exact hqz))
                  have HNU := Lib.hid (fun W => num_g x W hxb.1 hxb.2)
                  have hyb := numG_bd x hxb.1 hxb.2
                  have HTK : Hid (zx.take (q + 1) = zx.take q ++ [numG x]) := by rw [← hzx.out, ← hx.out]; exact map_take_snoc zl q (by rw [hzn.out]; exact hqz)
                  obtain ⟨y, hy⟩ : ∃ y, Hid (numG x = y) := ⟨_, rfl⟩
                  rw [hy.out] at HNU HTK hyb
                  have HLL : Hid ((addL Ri (zx.take q)).length ≤ 16777216) := by have := addL_len Ri (zx.take q); have := HRIL.out; simp only [List.length_take] at *; show _ ≤ _; omega
                  clear hc2s hxb
                  go_wp2_with fail
                  refine (HNU.out _).mono ?_
                  rintro e w' ⟨rfl, rfl⟩
                  have hd1 : Hid (Rd (wr.alloc (.cells #[.int .i64 y] 3)) (wr.heap.size + 1) (some ⟨wr.heap.size, 0, none⟩) (1 * 1) (ints [y])) := rd_new _ _ _ _ _ _ _ rfl (by omega) rfl rfl
                  have hd2 : Hid (q + 1 ≤ maxLen) := by show _ ≤ _; unfold maxLen; omega
                  have hd3 : Hid ((q + 1) * 8 ≤ 140737488355328) := by show _ ≤ _; omega
                  have hd4 : Hid (wi.heap.size ≤ (wr.alloc (.cells #[.int .i64 y] 3)).heap.size) := by have := HQ.out.2.2.size; show _ ≤ _; simp only [World.size_alloc]; omega
                  go_wp2_with (at_builtin; refine wpList_app _ rfl (.tmp 78) (.tmp 81) 22 rfl wi.heap.size 3 i0 (.int .i64 0) 1 8 Try.underlying22 HI.out.1 HI.out.2.1 HI.out.2.2.1 HI.out.2.2.2 rfl (by decide) (.slice Az q cz) q (ints (zx.take q)) rfl (HQ.out.1.alloc _) (wr.heap.size + 1) (some ⟨wr.heap.size, 0, none⟩) 1 1 (ints [y]) rfl hd1.out (ones_ints _) hd2.out hd3.out hd4.out ?_)
                  intro v2 w2 hown2 hgrow2
                  obtain ⟨Ay, cy, e2, _⟩ := own_form hown2
                  subst e2
                  have HW2 : Hid (w2.ownsRow wi.heap.size 3 1 (.slice Ay (q + 1) cy) (q + 1) (ints (zx.take (q + 1))) ∧ wi.grownBy w2 (some (pS + 1)) ∧ Ref.RefIn w2 (pS + 1) (addL Ri (zx.take q)) ∧ Ref.TyL w2 (pS + 1)) := by
                    have hba : Below wr.heap.size wr (wr.alloc (.cells #[.int .i64 y] 3)) := (Below.refl _ _).alloc (Nat.le_refl _) _
                    have hoa := HQ.out.1.alloc (.cells #[.int .i64 y] 3)
                    refine ⟨by rw [HTK.out, ints_app]; exact hown2, grown_row (grown_b HQ.out.2.2 hba) hgrow2 (Nat.le_refl _) (fun k hk => (HQ.out.1.lt k hk).1), ?_⟩
                    exact (HQ.out.2.1.1.below hba).kind (HQ.out.2.1.2.below hba) hgrow2 (fun e => by have := (HQ.out.1.lt _ e).1; omega) (fun k hk => by
                      obtain ⟨cur, fr, h⟩ := own_block hoa k hk
                      exact ⟨cur, fr, _, h, by decide⟩)
                  have HBQ2 : Hid (Below w.heap.size w w2) := HBI.out.grown HW2.out.2.1 HBI.out.size (fun g hg => by simp at hg; have := HB3.out.2; omega)
                  clear hown2 hgrow2 hcx
                  go_wp2_with fail
                  refine (HNU.out _).mono ?_
                  rintro e w' ⟨rfl, rfl⟩
                  go_wp2_with fail
                  refine (HNU.out _).mono ?_
                  rintro e w' ⟨rfl, rfl⟩
                  go_wp2_with fail
                  refine (Ref.radd_ty _ (pS + 1) y (y + 1) _ HW2.out.2.2.1 HW2.out.2.2.2 (by have := HLL.out; omega)).mono ?_
                  rintro e w4 ⟨rfl, h1, h2, h3⟩
                  have HN : Hid (w4.ownsRow wi.heap.size 3 1 (.slice Ay (q + 1) cy) (q + 1) (ints (zx.take (q + 1))) ∧ (Ref.RefIn w4 (pS + 1) (addL Ri (zx.take (q + 1))) ∧ Ref.TyL w4 (pS + 1)) ∧ wi.grownBy w4 (some (pS + 1))) := by
                    refine ⟨own_grown HW2.out.1 h2 hrlt, ⟨?_, h3⟩, grown_two HW2.out.2.1 h2⟩
                    rw [HTK.out, addL_snoc]; exact h1
                  clear h1 h2 h3
                  go_wp2_with fail
                  go_roundw
                  case rel => exact ⟨q + 1, by omega, by go_num, ⟨_, _, rfl⟩, HN⟩
                  case measure => simp [intOf]; omega
                · obtain rfl : q = zn := by omega
                  have hqi : ¬ (q : Int) < (q : Int) := by omega
                  obtain ⟨wq, rfl⟩ : ∃ wq : World, wq = wr := ⟨_, rfl⟩
                  have HZR : Hid (wq.ownsRow wi.heap.size 3 1 (.slice Az q cz) q (ints zx)) := by
                    have := HQ.out.1
                    rwa [List.take_of_length_le (by rw [HZL.out]; exact Nat.le_refl _)] at this
                  obtain ⟨Rq, hRq⟩ : ∃ Rq, Hid (addL Ri zx = Rq) := ⟨_, rfl⟩
                  have HRQ : Hid ((Ref.RefIn wq (pS + 1) Rq ∧ Ref.TyL wq (pS + 1)) ∧ wi.grownBy wq (some (pS + 1))) := by
                    have := HQ.out.2
                    rwa [List.take_of_length_le (by rw [HZL.out]; exact Nat.le_refl _), hRq.out] at this
                  obtain ⟨_, _, ev, hzc, _, _, hrz⟩ := own_form HZR.out
                  simp only [Value.slice.injEq] at ev
                  obtain ⟨rfl, _, rfl⟩ := ev
                  have HOF : Hid (Calls Try.prog 8 #[.slice Az q cz] wq fun e w' => OfP zx wq e w') := by
                    have := of_any zx wq.heap.size Az cz wq (by rw [HZL.out]; rw [Nat.mul_one] at hrz; exact hrz) (Nat.le_refl _) (by rw [HZL.out]; exact hzc) (by rw [HZL.out]; omega) (.inr (by rw [HZL.out]; omega)) (fun y hy => by have := HZB.out y hy; omega)
                    rwa [HZL.out] at this
                  have HLQ : Hid (L3 w3 wq (pS + 1) R0 ps i (.slice As i cs) ss → True) := fun _ => trivial
                  have HSW : Hid (SetsT wq ss ∧ wq.ownsRow w3.heap.size 27 1 (.slice As i cs) i (setVals ss) ∧ w3.grownBy wq (some (pS + 1))) :=
                    ⟨HK.out.sets.grown HRQ.out.2 HK.out.ref, own_kind HK.out.own HRQ.out.2 (refkind HK.out.ref) (by decide), grown_two HK.out.gro HRQ.out.2⟩
                  clear HQ hrz hzc
                  go_wp2_with fail
                  refine HOF.out.mono ?_
                  rintro e w5 ⟨es5, A5, c5, rfl, hsv, hmem, hlen, hb5, hft⟩
                  have HM5 := Lib.hid hmem
                  have HS5 : Hid (SetsT w5 (ss ++ [(es5, A5, c5)])) := fun s hs => by
                    rcases List.mem_append.1 hs with h | h
                    · exact (HSW.out.1.below hb5) s h
                    · simp only [List.mem_cons, List.not_mem_nil, or_false] at h
                      subst h
                      exact ⟨hsv.1, hsv.2.1, by have := HZL.out; show es5.length ≤ _; omega, hft.2⟩
                  have HW5 : Hid (w5.ownsRow w3.heap.size 27 1 (.slice As i cs) i (setVals ss) ∧ w3.grownBy w5 (some (pS + 1)) ∧ Ref.RefIn w5 (pS + 1) Rq ∧ Ref.TyL w5 (pS + 1)) :=
                    ⟨own_below HSW.out.2.1 hb5, grown_b HSW.out.2.2 hb5, HRQ.out.1.1.below hb5, HRQ.out.1.2.below hb5⟩
                  clear hsv hmem hlen hb5 hft HOF HSW HLQ
                  have he1 : Hid (Rd (w5.alloc (.cells #[.slice A5 es5.length c5] 27)) (w5.heap.size + 1) (some ⟨w5.heap.size, 0, none⟩) (1 * 1) [.slice A5 es5.length c5]) := rd_new _ _ _ _ _ _ _ rfl (by omega) rfl rfl
                  have he2 : Hid (i + 1 ≤ maxLen) := by show _ ≤ _; unfold maxLen; omega
                  have he3 : Hid ((i + 1) * 24 ≤ 140737488355328) := by show _ ≤ _; omega
                  have he4 : Hid (w3.heap.size ≤ (w5.alloc (.cells #[.slice A5 es5.length c5] 27)).heap.size) := by have := HW5.out.2.1.size; show _ ≤ _; simp only [World.size_alloc]; omega
                  have he5 : Hid (ones [Value.slice A5 es5.length c5]) := fun u hu => by simp at hu; subst hu; rfl
                  go_wp2_with (at_builtin; refine wpList_app _ rfl (.tmp 91) (.tmp 94) 34 rfl w3.heap.size 27 iS (.agg #[.slice none 0 0]) 1 24 Try.underlying34 HIS.out.1 HIS.out.2.1 HIS.out.2.2.1 HIS.out.2.2.2 rfl (by decide) (.slice As i cs) i (setVals ss) rfl (HW5.out.1.alloc _) (w5.heap.size + 1) (some ⟨w5.heap.size, 0, none⟩) 1 1 [.slice A5 es5.length c5] rfl he1.out he5.out he2.out he3.out he4.out ?_)
                  intro v6 w6 hown6 hgrow6
                  obtain ⟨A6, c6, e6, _⟩ := own_form hown6
                  subst e6
                  have HN : Hid (L3 w3 w6 (pS + 1) R0 ps (i + 1) (.slice A6 (i + 1) c6) (ss ++ [(es5, A5, c5)])) := by
                    have hba : Below w5.heap.size w5 (w5.alloc (.cells #[.slice A5 es5.length c5] 27)) := (Below.refl _ _).alloc (Nat.le_refl _) _
                    have hoa := HW5.out.1.alloc (.cells #[.slice A5 es5.length c5] 27)
                    have hrow := fun k hk => own_block hoa k hk
                    have hr6 := (HW5.out.2.2.1.below hba).kind (HW5.out.2.2.2.below hba) hgrow6 (fun e => by have := (HW5.out.1.lt _ e).1; have := HR3.out.lt; omega) (fun k hk => by
                      obtain ⟨cur, fr, h⟩ := hrow k hk
                      exact ⟨cur, fr, _, h, by decide⟩)
                    refine ⟨by rw [List.length_append, HK.out.len]; rfl, by rw [setVals_snoc]; exact hown6, (HS5.out.below hba).kind hgrow6 hrow (by decide), ?_, hr6.2, grown_row (grown_b HW5.out.2.1 hba) hgrow6 (Nat.le_refl _) (fun k hk => (HW5.out.1.lt k hk).1), fun n => ?_⟩
                    · rw [HFS.out, addL_app, hRi.out, hzx.out, hRq.out]; exact hr6.1
                    · rw [List.any_append, HK.out.mem, HFS.out, hzx.out, List.contains_append]
                      simp only [List.any_cons, List.any_nil, Bool.or_false]
                      rw [HM5.out n]
                      cases mayN n <;> simp
                  clear hown6 hgrow6
                  go_wp2_with fail
                  go_roundw
                  case rel => exact ⟨i + 1, _, by omega, by omega, by go_num, ⟨_, _, rfl⟩, HN⟩
                  case measure => simp [intOf]; omega
            · obtain ⟨w7, rfl⟩ : ∃ w7 : World, w7 = wr := ⟨_, rfl⟩
              obtain ⟨Y, hY⟩ : ∃ Y, Hid ((ps.take i).flatMap (·.map numG) = Y) := ⟨_, rfl⟩
              have HYL : Hid (Y.length ≤ 3145728) := by
                have := flat_len ps i (fun j hj => by obtain ⟨_, _, _, _, _, _, h⟩ := HP.out.each j hj; exact h) (by rw [hN1.out]; omega)
                rw [hY.out] at this
                show _ ≤ _; omega
              obtain ⟨E, hE⟩ : ∃ E, Hid (addL R0 Y = E) := ⟨_, rfl⟩
              have HEL : Hid (E.length ≤ 8388608) := by rw [← hE.out]; have := addL_len R0 Y; have := HRL.out; have := HYL.out; show _ ≤ _; omega
              have hne : pS ≠ pS + 1 := by omega
              obtain ⟨hok0, A0', c0', k2, k3, k4, k5⟩ := HS3.out
              have hpl : pS < w3.heap.size := lt_of_block k2
              obtain ⟨_, Ar3, nr3, cr3, _, kr2, _⟩ := HR3.out
              have k5' : Rd w7 w3.heap.size A0' es0.length (ints es0) := k5.but (Nat.le_refl _) HK.out.gro kr2
              have k2' : w7.heap[pS]? = some (.cells #[.slice A0' es0.length c0'] 27 (0, 0)) := (HK.out.gro.block pS hpl (by simp)).trans k2
              have hcs0 : w7.cell? ⟨pS, 0, none⟩ = some (.slice A0' es0.length c0') := cell_of_one k2'
              have HL0 : Hid (es0.length ≤ 2097152) := by have := HLE.out; have := HXL.out; show _ ≤ _; omega
              have HE0 : Hid (Ok es0 ∧ es0.length ≤ c0' ∧ okA A0' es0.length c0' ∧ Rd w7 w3.heap.size A0' es0.length (ints es0) ∧ w7.heap[pS]? = some (.cells #[.slice A0' es0.length c0'] 27 (0, 0)) ∧ pS < w3.heap.size) := ⟨hok0, k3, k4, k5', k2', hpl⟩
              have HR7 : Hid (Ref.RefIn w7 (pS + 1) E ∧ Ref.TyL w7 (pS + 1)) := by
                have := HK.out.ref
                rw [hY.out, hE.out] at this
                exact ⟨this, HK.out.ty⟩
              have HB7 : Hid (Below w.heap.size w w7) := HB3.out.1.grown HK.out.gro HB3.out.1.size (fun g hg => by simp at hg; have := HB3.out.2; omega)
              clear hok0 k2 k3 k4 k5 k5' k2' kr2 hpl
              have hcase : ¬ (i : Int) < (N1 : Int) ∨ ((i : Int) < (N1 : Int) ∧ i = 3) := by omega
              have he1 : Hid (Rd (w7.alloc (.cells #[.slice A0' es0.length c0'] 27)) (w7.heap.size + 1) (some ⟨w7.heap.size, 0, none⟩) (1 * 1) [.slice A0' es0.length c0']) := rd_new _ _ _ _ _ _ _ rfl (by omega) rfl rfl
              have he2 : Hid (i + 1 ≤ maxLen) := by show _ ≤ _; unfold maxLen; omega
              have he3 : Hid ((i + 1) * 24 ≤ 140737488355328) := by show _ ≤ _; omega
              have he4 : Hid (w3.heap.size ≤ (w7.alloc (.cells #[.slice A0' es0.length c0'] 27)).heap.size) := by have := HK.out.gro.size; show _ ≤ _; simp only [World.size_alloc]; omega
              have he5 : Hid (ones [Value.slice A0' es0.length c0']) := fun u hu => by simp at hu; subst hu; rfl
              have HAFT : Hid (∀ A8 c8 w8, w8.ownsRow w3.heap.size 27 1 (.slice A8 (i + 1) c8) (i + 1) (setVals ss ++ [.slice A0' es0.length c0']) → (w7.alloc (.cells #[.slice A0' es0.length c0'] 27)).grownBy w8 (Value.slice As i cs).ownBlock →
                  Calls Try.prog 10 #[.slice A8 (i + 1) c8] w8 (fun e w' => ∃ A9 c9, e = .returned (.agg #[.slice A9 E.length c9]) ∧ SetVal w' E A9 c9 ∧ SetIn w' pS es0 ∧ Ref.RefIn w' (pS + 1) E ∧ Below w.heap.size w w')) := fun A8 c8 w8 hown8 hgrow8 => by
                have hba : Below w7.heap.size w7 (w7.alloc (.cells #[.slice A0' es0.length c0'] 27)) := (Below.refl _ _).alloc (Nat.le_refl _) _
                have hoa := HK.out.own.alloc (.cells #[.slice A0' es0.length c0'] 27)
                have hrow := fun k hk => own_block hoa k hk
                have hb38 : Below w3.heap.size w7 w8 := (hba.mono HK.out.gro.size).grown hgrow8 he4.out (fun k hk => (HK.out.own.lt k hk).1)
                have hr8 := (HR7.out.1.below hba).kind (HR7.out.2.below hba) hgrow8 (fun e => by have := (HK.out.own.lt _ e).1; have := HR3.out.lt; omega) (fun k hk => by
                  obtain ⟨cur, fr, h⟩ := hrow k hk
                  exact ⟨cur, fr, _, h, by decide⟩)
                have hss : SetsT w8 ss := (HK.out.sets.below hba).kind hgrow8 hrow (by decide)
                have hrd0 : Rd w8 w8.heap.size A0' es0.length (ints es0) := (HE0.out.2.2.2.1.below hb38 (Nat.le_refl _)).more (Nat.le_trans HK.out.gro.size hb38.size)
                have hsi : SetIn w8 pS es0 := ⟨HE0.out.1, A0', c0', (hb38.block pS HE0.out.2.2.2.2.2).trans HE0.out.2.2.2.2.1, HE0.out.2.1, HE0.out.2.2.1, hrd0⟩
                have hsok : SetsOk w8 w8.heap.size (ss ++ [(es0, A0', c0')]) := fun s hs => by
                  rcases List.mem_append.1 hs with h | h
                  · exact hss.ok s h
                  · simp only [List.mem_cons, List.not_mem_nil, or_false] at h
                    subst h
                    exact ⟨HE0.out.1, HE0.out.2.1, by have := HL0.out; show es0.length * 8 ≤ _; omega, hrd0⟩
                have hlen : (ss ++ [(es0, A0', c0')]).length = i + 1 := by rw [List.length_append, HK.out.len]; rfl
                have htot := allRuns_len (ss ++ [(es0, A0', c0')]) 4194304 (fun s hs => by
                  rcases List.mem_append.1 hs with h | h
                  · exact ⟨(hss s h).1, (hss s h).2.2.1⟩
                  · simp only [List.mem_cons, List.not_mem_nil, or_false] at h
                    subst h
                    exact ⟨HE0.out.1, by have := HL0.out; show es0.length ≤ _; omega⟩)
                obtain ⟨_, _, ev, h8c, _, _, hr8d⟩ := own_form hown8
                simp only [Value.slice.injEq] at ev
                obtain ⟨rfl, _, rfl⟩ := ev
                have hu := union_any (ss ++ [(es0, A0', c0')]) w8.heap.size A8 c8 w8 (by rw [hlen, setVals_snoc]; rw [Nat.mul_one] at hr8d; exact hr8d) (Nat.le_refl _) (by rw [hlen]; exact h8c) (by rw [hlen]; omega) hsok (by rw [hlen] at htot; omega)
                rw [hlen] at hu
                refine hu.mono ?_
                rintro e w9 ⟨es, A9, c9, rfl, hsv, hmem, _, hb9⟩
                have hes : es = E := by
                  have hokE : Ok E := by rw [← hE.out, ← hR0.out]; exact addL_ok (addL_ok ok_nil _) _
                  refine ok_eq hsv.1 hokE fun n => ?_
                  rw [hmem, List.any_append, HK.out.mem, hY.out, ← hE.out, addL_mem (by rw [← hR0.out]; exact addL_ok ok_nil _), ← hR0.out, addL_mem ok_nil]
                  simp only [List.any_cons, List.any_nil, Bool.or_false]
                  rw [HME.out n, show mem [] n = false from rfl, Bool.false_or, Bool.or_comm]
                subst hes
                exact ⟨A9, c9, rfl, hsv, hsi.below hb9, hr8.1.below hb9, (HB7.out.trans (hb38.mono (by have := HB3.out.1.size; omega))).trans (hb9.mono (by have := HB7.out.size; have := hb38.size; omega))⟩
              clear hY
              rcases hcase with hnN | ⟨hnN, rfl⟩
              all_goals
                go_wp2_with (at_builtin; refine wpList_app _ rfl (.tmp 96) (.tmp 98) 34 rfl w3.heap.size 27 iS (.agg #[.slice none 0 0]) 1 24 Try.underlying34 HIS.out.1 HIS.out.2.1 HIS.out.2.2.1 HIS.out.2.2.2 rfl (by decide) _ _ (setVals ss) rfl (HK.out.own.alloc _) (w7.heap.size + 1) (some ⟨w7.heap.size, 0, none⟩) 1 1 [.slice A0' es0.length c0'] rfl he1.out he5.out he2.out he3.out he4.out ?_)
                intro v8 w8 hown8 hgrow8
                obtain ⟨A8, c8, e8, _⟩ := own_form hown8
                subst e8
                have HU := Lib.hid (HAFT.out A8 c8 w8 hown8 hgrow8)
                clear hown8 hgrow8 hcs0 HAFT
                go_wp2_with fail
                refine HU.out.mono ?_
                rintro e w9 ⟨A9, c9, rfl, hsv, hsi, hri, hbw⟩
                obtain ⟨Aq, cq, q2⟩ : ∃ Aq cq, w9.heap[pS]? = some (.cells #[.slice Aq es0.length cq] 27 (0, 0)) := by
                  obtain ⟨_, Aq, cq, q2, _⟩ := hsi
                  exact ⟨Aq, cq, q2⟩
                have hcs9 : w9.cell? ⟨pS, 0, none⟩ = some (.slice Aq es0.length cq) := cell_of_one q2
                have hcf9 : w9.frozen? ⟨pS, 0, none⟩ = false := free_of_one q2
                have HBT : Hid (BothS w (w9.setCell ⟨pS, 0, none⟩ (.slice A9 E.length c9)) pS (pS + 1) E) := ⟨val_store hsv hsi, ref_set hri (grown_of (Below.refl _ _) pS _) hsi hne.symm, hbw.setCell (p := ⟨pS, 0, none⟩) HB3.out.2 _, hne, HB3.out.2, by have := HB3.out.2; omega⟩
                clear q2 hsv hsi hri hbw HU HK
                go_wp2_with fail
                clear hcs9 hcf9
                go_loopw [103] (fun kv wr => ∃ (k : Nat) (E : List Int), k ≤ n2 ∧ kv = .int .i64 k ∧ Hid (BothS w wr pS (pS + 1) E ∧ E.length ≤ 8388608 + 2 * k)) (fun kv _ => n2 - (intOf kv).toNat)
                case atStart => exact ⟨0, E, Nat.zero_le _, rfl, HBT.out, by have := HEL.out; omega⟩
                case round =>
                  clear HBT HEL HR7 HB7 hE
                  obtain ⟨k, F, hk, rfl, HBE⟩ := hrel
                  by_cases hkn : k < n2
                  · have hkni : (k : Int) < (n2 : Int) := by omega
                    obtain ⟨b, off, hA2, hbn, hcs⟩ := HZ.out.rd.2 (by omega)
                    subst hA2
                    have hzl := HZ.out.len
                    obtain ⟨x0, hx0⟩ : ∃ x, Hid (zs.getD (3 * k) 0 = x) := ⟨_, rfl⟩
                    obtain ⟨x1, hx1⟩ : ∃ x, Hid (zs.getD (3 * k + 1) 0 = x) := ⟨_, rfl⟩
                    obtain ⟨x2, hx2⟩ : ∃ x, Hid (zs.getD (3 * k + 2) 0 = x) := ⟨_, rfl⟩
                    have c0x : wr.cell? ⟨b, off + k * 3, none⟩ = some (.int .i64 x0) := by
                      rw [HBE.out.1.below.cell (p := ⟨b, off + k * 3, none⟩) hbn, show off + k * 3 = off + 3 * k by omega, hcs (3 * k) _ (ints_get zs _ (by omega)), hx0.out]
                    have c1x : wr.cell? ⟨b, off + k * 3 + 1, none⟩ = some (.int .i64 x1) := by
                      rw [HBE.out.1.below.cell (p := ⟨b, off + k * 3 + 1, none⟩) hbn, show off + k * 3 + 1 = off + (3 * k + 1) by omega, hcs (3 * k + 1) _ (ints_get zs _ (by omega)), hx1.out]
                    have c2x : wr.cell? ⟨b, off + k * 3 + 2, none⟩ = some (.int .i64 x2) := by
                      rw [HBE.out.1.below.cell (p := ⟨b, off + k * 3 + 2, none⟩) hbn, show off + k * 3 + 2 = off + (3 * k + 2) by omega, hcs (3 * k + 2) _ (ints_get zs _ (by omega)), hx2.out]
                    have hb1 := HZ.out.lt x1 (by rw [← hx1.out]; exact mem_getD zs _ (by omega))
                    have hb2 := HZ.out.lt x2 (by rw [← hx2.out]; exact mem_getD zs _ (by omega))
                    have HN1' := Lib.hid (fun W => num_g x1 W hb1.1 hb1.2)
                    have HN2' := Lib.hid (fun W => num_g x2 W hb2.1 hb2.2)
                    have HPK := Lib.hid (fun W => pick_any x0 3 W (by omega) (by omega))
                    obtain ⟨a, ha⟩ : ∃ a, Hid (numG x1 = a) := ⟨_, rfl⟩
                    obtain ⟨bb, hbb⟩ : ∃ a, Hid (numG x2 = a) := ⟨_, rfl⟩
                    rw [ha.out] at HN1'
                    rw [hbb.out] at HN2'
                    have HLE2 : Hid (F.length ≤ 16777216) := by have := HBE.out.2; show _ ≤ _; omega
                    clear hcs hb1 hb2 hzl
                    go_wp2_with fail
                    have HBX : Hid (BothS w (wr.alloc (.cells #[.int .i64 x0, .int .i64 x1, .int .i64 x2] 37)) pS (pS + 1) F) := HBE.out.1.goes ((Below.refl _ _).alloc (Nat.le_refl _) _)
                    refine (HN1'.out _).mono ?_
                    rintro e w' ⟨rfl, rfl⟩
                    go_wp2_with fail
                    refine (HN2'.out _).mono ?_
                    rintro e w' ⟨rfl, rfl⟩
                    go_wp2_with fail
                    refine (HPK.out _).mono ?_
                    rintro e w' ⟨rfl, rfl⟩
                    cases ht : (x0 % 3 == 0)
                    all_goals
                      go_wp2_with fail
                      first
                      | refine (add_any F pS a bb _ HBX.out.mine (by have := HLE2.out; omega)).mono ?_
                      | refine (drop_any F pS a bb _ HBX.out.mine (by have := HLE2.out; omega)).mono ?_
                      rintro e w5 ⟨rfl, h1, g1⟩
                      have hr5 := HBX.out.ref1 g1
                      have H1 := Lib.hid h1
                      have G1 := Lib.hid g1
                      have HR5 := Lib.hid hr5
                      clear h1 g1 hr5
                      go_wp2_with fail
                      first
                      | refine (Ref.radd_any F (pS + 1) a bb w5 HR5.out (by have := HLE2.out; omega)).mono ?_
                      | refine (Ref.rdrop_any F (pS + 1) a bb w5 HR5.out (by have := HLE2.out; omega)).mono ?_
                      rintro e w6 ⟨rfl, h2, g2⟩
                      have HB6 := Lib.hid (HBX.out.turn H1.out G1.out h2 g2)
                      clear h2 g2 H1 G1 HR5
                      obtain ⟨F2, HF2⟩ : ∃ F2, Hid (BothS w w6 pS (pS + 1) F2 ∧ F2.length ≤ 8388608 + 2 * (k + 1)) := ⟨_, HB6.out, Nat.le_trans (Ref.turn_len _ _ _ _) (by have := HBE.out.2; omega)⟩
                      clear HB6 HBX
                      obtain ⟨hv, hhv⟩ : ∃ x, Hid (mem F2 a = x) := ⟨_, rfl⟩
                      obtain ⟨fv, hfv⟩ : ∃ x, Hid (firstF F2 (max bb 0) = x) := ⟨_, rfl⟩
                      have hl8 : F2.length * 8 ≤ 140737488355328 := by have := HF2.out.2; omega
                      have HC1 : Hid (∀ W, BothS w W pS (pS + 1) F2 → (Calls Try.prog 15 #[.pointer (some ⟨pS, 0, none⟩), .int .i64 a] W fun e w' => e = .returned (.bool hv) ∧ Below W.heap.size W w') ∧ (Calls Try.prog 16 #[.pointer (some ⟨pS + 1, 0, none⟩), .int .i64 a] W fun e w' => e = .returned (.bool hv) ∧ W = w') ∧ (Calls Try.prog 17 #[.pointer (some ⟨pS, 0, none⟩), .int .i64 bb] W fun e w' => e = .returned (.int .i64 fv) ∧ Below W.heap.size W w') ∧ (Calls Try.prog 18 #[.pointer (some ⟨pS + 1, 0, none⟩), .int .i64 bb] W fun e w' => e = .returned (.int .i64 fv) ∧ W = w')) := fun W h => by
                        rw [← hhv.out, ← hfv.out]
                        exact ⟨has_in F2 pS a W h.mine hl8, Ref.rhas_any F2 (pS + 1) a W h.ref hl8, first_ptr F2 pS bb W h.mine hl8, Ref.rfirst_any F2 (pS + 1) bb W h.ref hl8⟩
                      clear hl8
                      go_wp2_with fail
                      refine (HC1.out _ HF2.out.1).1.mono ?_
                      rintro e w8 ⟨rfl, hb8⟩
                      have HB8 := Lib.hid (HF2.out.1.goes hb8)
                      clear hb8
                      go_wp2_with fail
                      refine (HC1.out _ HB8.out).2.1.mono ?_
                      rintro e w' ⟨rfl, rfl⟩
                      go_wp2_with fail
                      refine (HC1.out _ HB8.out).2.2.1.mono ?_
                      rintro e w9' ⟨rfl, hb9⟩
                      have HB9 := Lib.hid (HB8.out.goes hb9)
                      clear hb9
                      go_wp2_with fail
                      refine (HC1.out _ HB9.out).2.2.2.mono ?_
                      rintro e w' ⟨rfl, rfl⟩
                      go_wp2_with fail
                      go_roundw
                      case rel => exact ⟨k + 1, F2, by omega, by go_num, HB9.out, HF2.out.2⟩
                      case measure => simp [intOf]; omega
                  · obtain rfl : k = n2 := by omega
                    have hkni : ¬ (k : Int) < (k : Int) := by omega
                    obtain ⟨wo, rfl⟩ : ∃ wo : World, wo = wr := ⟨_, rfl⟩
                    have HB0 : Hid (BothS w wo pS (pS + 1) F) := HBE.out.1
                    have HLF : Hid (F.length ≤ 16777216) := by have := HBE.out.2; show _ ≤ _; omega
                    have HNF := Lib.hid (fun W => num_g fr W f1 f2)
                    have HNT := Lib.hid (fun W => num_g tt W t1 t2)
                    have HNM := Lib.hid (fun W => num_g m W m1 m2)
                    obtain ⟨a, ha⟩ : ∃ a, Hid (numG fr = a) := ⟨_, rfl⟩
                    obtain ⟨bb, hbb⟩ : ∃ a, Hid (numG tt = a) := ⟨_, rfl⟩
                    obtain ⟨mv, hmv⟩ : ∃ a, Hid (numG m = a) := ⟨_, rfl⟩
                    rw [ha.out] at HNF
                    rw [hbb.out] at HNT
                    rw [hmv.out] at HNM
                    clear HBE
                    go_wp2_with fail
                    refine (HNF.out _).mono ?_
                    rintro e w' ⟨rfl, rfl⟩
                    go_wp2_with fail
                    refine (HNT.out _).mono ?_
                    rintro e w' ⟨rfl, rfl⟩
                    go_wp2_with fail
                    obtain ⟨Ar, nr, cr, he0, h2r, h3r, h4r⟩ := HB0.out.ref.2
                    have HR := Lib.hid (And.intro he0 (And.intro h3r h4r))
                    have HHR : Hid (wo.heap[pS + 1]? = some (.cells #[.slice Ar nr cr] 32 (0, 0))) := h2r
                    clear he0 h2r h3r h4r
                    have HOkF : Hid (Ok F) := HB0.out.mine.1
                    have hl8 : F.length * 8 ≤ 140737488355328 := by have := HLF.out; omega
                    have hl32 : (F.length + 4) * 32 ≤ 140737488355328 := by have := HLF.out; omega
                    have hl2 : (F.length + 2) * 8 ≤ 140737488355328 := by have := HLF.out; omega
                    have hnr : nr ≤ 17592186044416 := by have := HR.out.1; omega
                    obtain ⟨gn, hgn⟩ : ∃ gn, Hid ((gapsF F a bb).length = gn * 2) := ⟨(gapsF F a bb).length / 2, by have := (ok_gaps HOkF.out a bb).2.1; show _ = _; omega⟩
                    have hnr2 : nr ≤ 8388608 := by have := HR.out.1; have := HLF.out; omega
                    have hgb : gn ≤ 17592186044416 := by
                      have h1 := Ref.gapI_eq HOkF.out a bb nr HR.out.1
                      have h2 := Ref.gapI_len F a bb nr
                      rw [h1, hgn.out] at h2
                      omega
                    have HKS : Hid (∀ W, Below wo.heap.size wo W → W.cell? ⟨pS + 1, 0, none⟩ = some (.slice Ar nr cr)) := fun W hW => cell_of_one ((hW.block (pS + 1) (lt_of_block HHR.out)).trans HHR.out)
                    have HSP : Hid (∀ W, Below wo.heap.size wo W → Calls Try.prog 21 #[.pointer (some ⟨pS, 0, none⟩)] W fun e w' => ∃ A c, e = .returned (.slice A nr c) ∧ (nr ≤ c ∧ Rd w' w'.heap.size A (nr * 2) (ints F)) ∧ Below W.heap.size W w') := fun W hW => by
                      refine (spans_in F pS W (HB0.out.goes hW).mine hl8).mono ?_
                      rintro e w' ⟨A', c', rfl, q1, _, q3, q4⟩
                      have hd : F.length / 2 = nr := by have := HR.out.1; omega
                      rw [hd] at q1 q3
                      exact ⟨A', c', by rw [hd], ⟨q1, q3⟩, q4⟩
                    have HSM : Hid (∀ W A' c', Below wo.heap.size wo W → (nr ≤ c' ∧ Rd W W.heap.size A' (nr * 2) (ints F)) → Calls Try.prog 20 #[.slice A' nr c', .slice Ar nr cr] W fun e w' => e = .returned (.bool true) ∧ Below W.heap.size W w') := fun W A' c' hW h =>
                      same_any F F W.heap.size A' Ar c' cr nr nr W h.2 ((HR.out.2.2.below hW (Nat.le_refl _)).more hW.size) (Nat.le_refl _) hnr hnr h.1 HR.out.2.1 true (by simp)
                    have HGA : Hid (∀ W, Below wo.heap.size wo W → Calls Try.prog 22 #[.pointer (some ⟨pS, 0, none⟩), .int .i64 a, .int .i64 bb] W fun e w' => ∃ A c, e = .returned (.slice A gn c) ∧ (gn ≤ c ∧ Rd w' w'.heap.size A (gn * 2) (ints (gapsF F a bb))) ∧ Below W.heap.size W w') := fun W hW => by
                      refine (gaps_any F pS a bb W (HB0.out.goes hW).mine hl2).mono ?_
                      rintro e w' ⟨v', rfl, q1, q2⟩
                      have hd : (gapsF F a bb).length / 2 = gn := by have := hgn.out; omega
                      rw [hd] at q1
                      obtain ⟨A', c', rfl, q3, _, _, q4⟩ := own_form q1
                      exact ⟨A', c', rfl, ⟨q3, q4⟩, q2⟩
                    have HRG : Hid (∀ W, Below wo.heap.size wo W → Calls Try.prog 23 #[.pointer (some ⟨pS + 1, 0, none⟩), .int .i64 a, .int .i64 bb] W fun e w' => ∃ A c, e = .returned (.slice A gn c) ∧ (gn ≤ c ∧ Rd w' w'.heap.size A (gn * 2) (ints (gapsF F a bb))) ∧ Below W.heap.size W w') := fun W hW => by
                      refine (Ref.rgaps_any F (pS + 1) a bb W (HB0.out.goes hW).ref hl32).mono ?_
                      rintro e w' ⟨A', n', c', rfl, q1, q2, q3, q4⟩
                      obtain rfl : n' = gn := by have := hgn.out; omega
                      exact ⟨A', c', rfl, ⟨q2, q3⟩, q4⟩
                    have HSN : Hid (∀ W A' c' A'' c'', (gn ≤ c' ∧ Rd W W.heap.size A' (gn * 2) (ints (gapsF F a bb))) → (gn ≤ c'' ∧ Rd W W.heap.size A'' (gn * 2) (ints (gapsF F a bb))) → Calls Try.prog 20 #[.slice A' gn c', .slice A'' gn c''] W fun e w' => e = .returned (.bool true) ∧ Below W.heap.size W w') := fun W A' c' A'' c'' h h' =>
                      same_any (gapsF F a bb) (gapsF F a bb) W.heap.size A' A'' c' c'' gn gn W h.2 h'.2 (Nat.le_refl _) hgb hgb h.1 h'.1 true (by simp)
                    obtain ⟨bv, hbv⟩ : ∃ x, Hid (allF F a bb = x) := ⟨_, rfl⟩
                    obtain ⟨cv, hcv⟩ : ∃ x, Hid (cnt F = x) := ⟨_, rfl⟩
                    obtain ⟨hv, hhv⟩ : ∃ x, Hid (mem F mv = x) := ⟨_, rfl⟩
                    have HAL : Hid (∀ W, Below wo.heap.size wo W → Calls Try.prog 24 #[.pointer (some ⟨pS, 0, none⟩), .int .i64 a, .int .i64 bb] W fun e w' => e = .returned (.bool bv) ∧ Below W.heap.size W w') := fun W hW => by
                      rw [← hbv.out]; exact all_in F pS a bb W (HB0.out.goes hW).mine hl8
                    have HRA : Hid (∀ W, Below wo.heap.size wo W → Calls Try.prog 25 #[.pointer (some ⟨pS + 1, 0, none⟩), .int .i64 a, .int .i64 bb] W fun e w' => e = .returned (.bool bv) ∧ Below W.heap.size W w') := fun W hW => by
                      rw [← hbv.out]; exact Ref.rall_any F (pS + 1) a bb W (HB0.out.goes hW).ref hl32
                    have HCN : Hid (∀ W, Below wo.heap.size wo W → Calls Try.prog 26 #[.pointer (some ⟨pS, 0, none⟩)] W fun e w' => e = .returned (.int .i64 cv) ∧ Below W.heap.size W w') := fun W hW => by
                      rw [← hcv.out]; exact count_any F pS W (HB0.out.goes hW).mine hl8
                    have HRC : Hid (∀ W, Below wo.heap.size wo W → Calls Try.prog 27 #[.pointer (some ⟨pS + 1, 0, none⟩)] W fun e w' => e = .returned (.int .i64 cv) ∧ Below W.heap.size W w') := fun W hW => by
                      rw [← hcv.out]; exact Ref.rcount_any F (pS + 1) W (HB0.out.goes hW).ref hl8
                    have HHA : Hid (∀ W, Below wo.heap.size wo W → Calls Try.prog 15 #[.pointer (some ⟨pS, 0, none⟩), .int .i64 mv] W fun e w' => e = .returned (.bool hv) ∧ Below W.heap.size W w') := fun W hW => by
                      rw [← hhv.out]; exact has_in F pS mv W (HB0.out.goes hW).mine hl8
                    have HRH : Hid (∀ W, Below wo.heap.size wo W → Calls Try.prog 16 #[.pointer (some ⟨pS + 1, 0, none⟩), .int .i64 mv] W fun e w' => e = .returned (.bool hv) ∧ W = w') := fun W hW => by
                      rw [← hhv.out]; exact Ref.rhas_any F (pS + 1) mv W (HB0.out.goes hW).ref hl8
                    have HFI : Hid (∀ y W, Below wo.heap.size wo W → Calls Try.prog 17 #[.pointer (some ⟨pS, 0, none⟩), .int .i64 y] W fun e w' => e = .returned (.int .i64 (firstF F (max y 0))) ∧ Below W.heap.size W w') := fun y W hW => first_ptr F pS y W (HB0.out.goes hW).mine hl8
                    have HRF : Hid (∀ y W, Below wo.heap.size wo W → Calls Try.prog 18 #[.pointer (some ⟨pS + 1, 0, none⟩), .int .i64 y] W fun e w' => e = .returned (.int .i64 (firstF F (max y 0))) ∧ W = w') := fun y W hW => Ref.rfirst_any F (pS + 1) y W (HB0.out.goes hW).ref hl8
                    clear hl8 hl32 hl2
                    refine wp_region_held_drew (S := fun W => W.cell? ⟨pS + 1, 0, none⟩ = some (.slice Ar nr cr)) (by kernel_rfl) ?_ (fun hHeld => ?_)
                    · exact HKS.out _ (Below.refl _ _).drew
                    refine wpAnyH_ready (rs := [0]) (by kernel_rfl) (by simp) ?_
                    refine AllReadyH.cons rfl (fun K hK => ?_) AllReadyH.nil
                    go_simp
                    refine (Known.known_any _).mono ?_
                    rintro e v0 ⟨rfl, hb⟩
                    have HV0 : Hid (Below wo.heap.size wo v0) := ((Below.refl wo.heap.size wo).drew).trans hb
                    clear hb
                    refine hK.out _ _ ?_ (fun hHeld => ?_)
                    · exact HKS.out _ HV0.out
                    clear hK K
                    go_simp
                    refine wpAnyH_take (i := 1) (v := ?_) rfl (by kernel_rfl) (by kernel_rfl) (by kernel_rfl) (fun _ _ _ h => h) (Or.inl ⟨by rfl, ?_⟩) (by assumption) ?_
                    rotate_left
                    · intro w hSw; (try dsimp only at hSw); go_simp; try with_reducible rfl
                    go_simp
                    refine wpAnyH_take (i := 3) (v := ?_) rfl (by kernel_rfl) (by kernel_rfl) (by kernel_rfl) (fun _ _ _ h => h) (Or.inl ⟨by rfl, ?_⟩) (by assumption) ?_
                    rotate_left
                    · intro w hSw; (try dsimp only at hSw); go_simp; try with_reducible rfl
                    go_simp
                    refine wpAnyH_take (i := 4) (v := ?_) rfl (by kernel_rfl) (by kernel_rfl) (by kernel_rfl) (fun _ _ _ h => h) (Or.inl ⟨by rfl, ?_⟩) (by assumption) ?_
                    rotate_left
                    · intro w hSw; (try dsimp only at hSw); go_simp; try with_reducible rfl
                    go_simp
                    refine wpAnyH_take (i := 5) (v := ?_) rfl (by kernel_rfl) (by kernel_rfl) (by kernel_rfl) (fun _ _ _ h => h) (Or.inl ⟨by rfl, ?_⟩) (by assumption) ?_
                    rotate_left
                    · intro w hSw; (try dsimp only at hSw); go_simp; try with_reducible rfl
                    go_simp
                    refine wpAnyH_take (i := 6) (v := ?_) rfl (by kernel_rfl) (by kernel_rfl) (by kernel_rfl) (fun _ _ _ h => h) (Or.inl ⟨by rfl, ?_⟩) (by assumption) ?_
                    rotate_left
                    · intro w hSw; (try dsimp only at hSw); go_simp; try with_reducible rfl
                    go_simp
                    refine wpAnyH_ready (rs := [2]) (by kernel_rfl) (by simp) ?_
                    refine AllReadyH.cons rfl (fun K hK => ?_) AllReadyH.nil
                    go_simp
                    refine (HSP.out _ HV0.out).mono ?_
                    rintro e v1 ⟨As1, cs1, rfl, hx, hb⟩
                    have HS1' := Lib.hid hx
                    have HV1 : Hid (Below wo.heap.size wo v1) := HV0.out.trans (hb.mono HV0.out.size)
                    clear hx hb
                    refine hK.out _ _ ?_ (fun hHeld => ?_)
                    · exact HKS.out _ HV1.out
                    clear hK K
                    go_simp
                    refine wpAnyH_ready (rs := [7]) (by kernel_rfl) (by simp) ?_
                    refine AllReadyH.cons rfl (fun K hK => ?_) AllReadyH.nil
                    go_simp
                    refine (HSM.out v1 As1 cs1 HV1.out HS1'.out).mono ?_
                    rintro e v2 ⟨rfl, hb⟩
                    have HV2 : Hid (Below wo.heap.size wo v2) := HV1.out.trans (hb.mono HV1.out.size)
                    clear hb
                    refine hK.out _ _ ?_ (fun hHeld => ?_)
                    · exact HKS.out _ HV2.out
                    clear hK K
                    go_simp
                    refine wpAnyH_take (i := 8) (v := ?_) rfl (by kernel_rfl) (by kernel_rfl) (by kernel_rfl) (fun _ _ _ h => h) (Or.inl ⟨by rfl, ?_⟩) (by assumption) ?_
                    rotate_left
                    · intro w hSw; (try dsimp only at hSw); go_simp; try with_reducible rfl
                    go_simp
                    refine wpAnyH_take (i := 9) (v := ?_) rfl (by kernel_rfl) (by kernel_rfl) (by kernel_rfl) (fun _ _ _ h => h) (Or.inl ⟨by rfl, ?_⟩) (by assumption) ?_
                    rotate_left
                    · intro w hSw; (try dsimp only at hSw); go_simp; try with_reducible rfl
                    go_simp
                    refine wpAnyH_take (i := 10) (v := ?_) rfl (by kernel_rfl) (by kernel_rfl) (by kernel_rfl) (fun _ _ _ h => h) (Or.inl ⟨by rfl, ?_⟩) (by assumption) ?_
                    rotate_left
                    · intro w hSw; (try dsimp only at hSw); go_simp; try with_reducible rfl
                    go_simp
                    refine wpAnyH_take (i := 11) (v := ?_) rfl (by kernel_rfl) (by kernel_rfl) (by kernel_rfl) (fun _ _ _ h => h) (Or.inl ⟨by rfl, ?_⟩) (by assumption) ?_
                    rotate_left
                    · intro w hSw; (try dsimp only at hSw); go_simp; try with_reducible rfl
                    go_simp
                    refine wpAnyH_take (i := 13) (v := ?_) rfl (by kernel_rfl) (by kernel_rfl) (by kernel_rfl) (fun _ _ _ h => h) (Or.inl ⟨by rfl, ?_⟩) (by assumption) ?_
                    rotate_left
                    · intro w hSw; (try dsimp only at hSw); go_simp; try with_reducible rfl
                    go_simp
                    refine wpAnyH_take (i := 14) (v := ?_) rfl (by kernel_rfl) (by kernel_rfl) (by kernel_rfl) (fun _ _ _ h => h) (Or.inl ⟨by rfl, ?_⟩) (by assumption) ?_
                    rotate_left
                    · intro w hSw; (try dsimp only at hSw); go_simp; try with_reducible rfl
                    go_simp
                    refine wpAnyH_take (i := 15) (v := ?_) rfl (by kernel_rfl) (by kernel_rfl) (by kernel_rfl) (fun _ _ _ h => h) (Or.inl ⟨by rfl, ?_⟩) (by assumption) ?_
                    rotate_left
                    · intro w hSw; (try dsimp only at hSw); go_simp; try with_reducible rfl
                    go_simp
                    refine wpAnyH_ready (rs := [12]) (by kernel_rfl) (by simp) ?_
                    refine AllReadyH.cons rfl (fun K hK => ?_) AllReadyH.nil
                    go_simp
                    refine (HGA.out _ HV2.out).mono ?_
                    rintro e v3 ⟨As2, cs2, rfl, hx, hb⟩
                    have HG2 := Lib.hid hx
                    have HV3 : Hid (Below wo.heap.size wo v3) := HV2.out.trans (hb.mono HV2.out.size)
                    clear hx hb
                    refine hK.out _ _ ?_ (fun hHeld => ?_)
                    · exact HKS.out _ HV3.out
                    clear hK K
                    go_simp
                    refine wpAnyH_ready (rs := [16]) (by kernel_rfl) (by simp) ?_
                    refine AllReadyH.cons rfl (fun K hK => ?_) AllReadyH.nil
                    go_simp
                    refine (HRG.out _ HV3.out).mono ?_
                    rintro e v4 ⟨As3, cs3, rfl, hx, hb⟩
                    have HG3 := Lib.hid hx
                    have HG2b : Hid (gn ≤ cs2 ∧ Rd v4 v4.heap.size As2 (gn * 2) (ints (gapsF F a bb))) := ⟨HG2.out.1, (HG2.out.2.below hb (Nat.le_refl _)).more hb.size⟩
                    have HV4 : Hid (Below wo.heap.size wo v4) := HV3.out.trans (hb.mono HV3.out.size)
                    clear hx hb
                    refine hK.out _ _ ?_ (fun hHeld => ?_)
                    · exact HKS.out _ HV4.out
                    clear hK K
                    go_simp
                    refine wpAnyH_ready (rs := [17]) (by kernel_rfl) (by simp) ?_
                    refine AllReadyH.cons rfl (fun K hK => ?_) AllReadyH.nil
                    go_simp
                    refine (HSN.out v4 As2 cs2 As3 cs3 HG2b.out HG3.out).mono ?_
                    rintro e v5 ⟨rfl, hb⟩
                    have HV5 : Hid (Below wo.heap.size wo v5) := HV4.out.trans (hb.mono HV4.out.size)
                    clear hb
                    refine hK.out _ _ ?_ (fun hHeld => ?_)
                    · exact HKS.out _ HV5.out
                    clear hK K
                    go_simp
                    refine wpAnyH_take (i := 18) (v := ?_) rfl (by kernel_rfl) (by kernel_rfl) (by kernel_rfl) (fun _ _ _ h => h) (Or.inl ⟨by rfl, ?_⟩) (by assumption) ?_
                    rotate_left
                    · intro w hSw; (try dsimp only at hSw); go_simp; try with_reducible rfl
                    go_simp
                    refine wpAnyH_take (i := 19) (v := ?_) rfl (by kernel_rfl) (by kernel_rfl) (by kernel_rfl) (fun _ _ _ h => h) (Or.inl ⟨by rfl, ?_⟩) (by assumption) ?_
                    rotate_left
                    · intro w hSw; (try dsimp only at hSw); go_simp; try with_reducible rfl
                    go_simp
                    refine wpAnyH_take (i := 20) (v := ?_) rfl (by kernel_rfl) (by kernel_rfl) (by kernel_rfl) (fun _ _ _ h => h) (Or.inl ⟨by rfl, ?_⟩) (by assumption) ?_
                    rotate_left
                    · intro w hSw; (try dsimp only at hSw); go_simp; try with_reducible rfl
                    go_simp
                    refine wpAnyH_take (i := 21) (v := ?_) rfl (by kernel_rfl) (by kernel_rfl) (by kernel_rfl) (fun _ _ _ h => h) (Or.inl ⟨by rfl, ?_⟩) (by assumption) ?_
                    rotate_left
                    · intro w hSw; (try dsimp only at hSw); go_simp; try with_reducible rfl
                    go_simp
                    refine wpAnyH_take (i := 23) (v := ?_) rfl (by kernel_rfl) (by kernel_rfl) (by kernel_rfl) (fun _ _ _ h => h) (Or.inl ⟨by rfl, ?_⟩) (by assumption) ?_
                    rotate_left
                    · intro w hSw; (try dsimp only at hSw); go_simp; try with_reducible rfl
                    go_simp
                    refine wpAnyH_take (i := 24) (v := ?_) rfl (by kernel_rfl) (by kernel_rfl) (by kernel_rfl) (fun _ _ _ h => h) (Or.inl ⟨by rfl, ?_⟩) (by assumption) ?_
                    rotate_left
                    · intro w hSw; (try dsimp only at hSw); go_simp; try with_reducible rfl
                    go_simp
                    refine wpAnyH_take (i := 25) (v := ?_) rfl (by kernel_rfl) (by kernel_rfl) (by kernel_rfl) (fun _ _ _ h => h) (Or.inl ⟨by rfl, ?_⟩) (by assumption) ?_
                    rotate_left
                    · intro w hSw; (try dsimp only at hSw); go_simp; try with_reducible rfl
                    go_simp
                    refine wpAnyH_ready (rs := [22]) (by kernel_rfl) (by simp) ?_
                    refine AllReadyH.cons rfl (fun K hK => ?_) AllReadyH.nil
                    go_simp
                    refine (HAL.out _ HV5.out).mono ?_
                    rintro e v6 ⟨rfl, hb⟩
                    have HV6 : Hid (Below wo.heap.size wo v6) := HV5.out.trans (hb.mono HV5.out.size)
                    clear hb
                    refine hK.out _ _ ?_ (fun hHeld => ?_)
                    · exact HKS.out _ HV6.out
                    clear hK K
                    go_simp
                    refine wpAnyH_ready (rs := [26]) (by kernel_rfl) (by simp) ?_
                    refine AllReadyH.cons rfl (fun K hK => ?_) AllReadyH.nil
                    go_simp
                    refine (HRA.out _ HV6.out).mono ?_
                    rintro e v7 ⟨rfl, hb⟩
                    have HV7 : Hid (Below wo.heap.size wo v7) := HV6.out.trans (hb.mono HV6.out.size)
                    clear hb
                    refine hK.out _ _ ?_ (fun hHeld => ?_)
                    · exact HKS.out _ HV7.out
                    clear hK K
                    go_simp
                    refine wpAnyH_take (i := 27) (v := ?_) rfl (by kernel_rfl) (by kernel_rfl) (by kernel_rfl) (fun _ _ _ h => h) (Or.inl ⟨by rfl, ?_⟩) (by assumption) ?_
                    rotate_left
                    · intro w hSw; (try dsimp only at hSw); go_simp; try with_reducible rfl
                    go_simp
                    refine wpAnyH_take (i := 28) (v := ?_) rfl (by kernel_rfl) (by kernel_rfl) (by kernel_rfl) (fun _ _ _ h => h) (Or.inl ⟨by rfl, ?_⟩) (by assumption) ?_
                    rotate_left
                    · intro w hSw; (try dsimp only at hSw); go_simp; try with_reducible rfl
                    go_simp
                    refine wpAnyH_take (i := 29) (v := ?_) rfl (by kernel_rfl) (by kernel_rfl) (by kernel_rfl) (fun _ _ _ h => h) (Or.inl ⟨by rfl, ?_⟩) (by assumption) ?_
                    rotate_left
                    · intro w hSw; (try dsimp only at hSw); go_simp; try with_reducible rfl
                    go_simp
                    refine wpAnyH_take (i := 31) (v := ?_) rfl (by kernel_rfl) (by kernel_rfl) (by kernel_rfl) (fun _ _ _ h => h) (Or.inl ⟨by rfl, ?_⟩) (by assumption) ?_
                    rotate_left
                    · intro w hSw; (try dsimp only at hSw); go_simp; try with_reducible rfl
                    go_simp
                    refine wpAnyH_ready (rs := [30]) (by kernel_rfl) (by simp) ?_
                    refine AllReadyH.cons rfl (fun K hK => ?_) AllReadyH.nil
                    go_simp
                    refine (HCN.out _ HV7.out).mono ?_
                    rintro e v8 ⟨rfl, hb⟩
                    have HV8 : Hid (Below wo.heap.size wo v8) := HV7.out.trans (hb.mono HV7.out.size)
                    clear hb
                    refine hK.out _ _ ?_ (fun hHeld => ?_)
                    · exact HKS.out _ HV8.out
                    clear hK K
                    go_simp
                    refine wpAnyH_ready (rs := [32]) (by kernel_rfl) (by simp) ?_
                    refine AllReadyH.cons rfl (fun K hK => ?_) AllReadyH.nil
                    go_simp
                    refine (HRC.out _ HV8.out).mono ?_
                    rintro e v9 ⟨rfl, hb⟩
                    have HV9 : Hid (Below wo.heap.size wo v9) := HV8.out.trans (hb.mono HV8.out.size)
                    clear hb
                    refine hK.out _ _ ?_ (fun hHeld => ?_)
                    · exact HKS.out _ HV9.out
                    clear hK K
                    go_simp
                    refine wpAnyH_take (i := 33) (v := ?_) rfl (by kernel_rfl) (by kernel_rfl) (by kernel_rfl) (fun _ _ _ h => h) (Or.inl ⟨by rfl, ?_⟩) (by assumption) ?_
                    rotate_left
                    · intro w hSw; (try dsimp only at hSw); go_simp; try with_reducible rfl
                    go_simp
                    refine wpAnyH_take (i := 34) (v := ?_) rfl (by kernel_rfl) (by kernel_rfl) (by kernel_rfl) (fun _ _ _ h => h) (Or.inl ⟨by rfl, ?_⟩) (by assumption) ?_
                    rotate_left
                    · intro w hSw; (try dsimp only at hSw); go_simp; try with_reducible rfl
                    go_simp
                    refine wpAnyH_take (i := 35) (v := ?_) rfl (by kernel_rfl) (by kernel_rfl) (by kernel_rfl) (fun _ _ _ h => h) (Or.inl ⟨by rfl, ?_⟩) (by assumption) ?_
                    rotate_left
                    · intro w hSw; (try dsimp only at hSw); go_simp; try with_reducible rfl
                    go_simp
                    refine wpAnyH_take (i := 36) (v := ?_) rfl (by kernel_rfl) (by kernel_rfl) (by kernel_rfl) (fun _ _ _ h => h) (Or.inl ⟨by rfl, ?_⟩) (by assumption) ?_
                    rotate_left
                    · intro w hSw; (try dsimp only at hSw); go_simp; try with_reducible rfl
                    go_simp
                    refine wpAnyH_take (i := 39) (v := ?_) rfl (by kernel_rfl) (by kernel_rfl) (by kernel_rfl) (fun _ _ _ h => h) (Or.inl ⟨by rfl, ?_⟩) (by assumption) ?_
                    rotate_left
                    · intro w hSw; (try dsimp only at hSw); go_simp; try with_reducible rfl
                    go_simp
                    refine wpAnyH_take (i := 40) (v := ?_) rfl (by kernel_rfl) (by kernel_rfl) (by kernel_rfl) (fun _ _ _ h => h) (Or.inl ⟨by rfl, ?_⟩) (by assumption) ?_
                    rotate_left
                    · intro w hSw; (try dsimp only at hSw); go_simp; try with_reducible rfl
                    go_simp
                    refine wpAnyH_ready (rs := [37]) (by kernel_rfl) (by simp) ?_
                    refine AllReadyH.cons rfl (fun K hK => ?_) AllReadyH.nil
                    go_simp
                    refine (HNM.out _).mono ?_
                    rintro e w' ⟨rfl, rfl⟩
                    refine hK.out _ _ ?_ (fun hHeld => ?_)
                    · exact HKS.out _ HV9.out
                    clear hK K
                    go_simp
                    refine wpAnyH_ready (rs := [38]) (by kernel_rfl) (by simp) ?_
                    refine AllReadyH.cons rfl (fun K hK => ?_) AllReadyH.nil
                    go_simp
                    refine (HHA.out _ HV9.out).mono ?_
                    rintro e v10 ⟨rfl, hb⟩
                    have HV10 : Hid (Below wo.heap.size wo v10) := HV9.out.trans (hb.mono HV9.out.size)
                    clear hb
                    refine hK.out _ _ ?_ (fun hHeld => ?_)
                    · exact HKS.out _ HV10.out
                    clear hK K
                    go_simp
                    refine wpAnyH_ready (rs := [41]) (by kernel_rfl) (by simp) ?_
                    refine AllReadyH.cons rfl (fun K hK => ?_) AllReadyH.nil
                    go_simp
                    refine (HNM.out _).mono ?_
                    rintro e w' ⟨rfl, rfl⟩
                    refine hK.out _ _ ?_ (fun hHeld => ?_)
                    · exact HKS.out _ HV10.out
                    clear hK K
                    go_simp
                    refine wpAnyH_ready (rs := [42]) (by kernel_rfl) (by simp) ?_
                    refine AllReadyH.cons rfl (fun K hK => ?_) AllReadyH.nil
                    go_simp
                    refine (HRH.out _ HV10.out).mono ?_
                    rintro e w' ⟨rfl, rfl⟩
                    refine hK.out _ _ ?_ (fun hHeld => ?_)
                    · exact HKS.out _ HV10.out
                    clear hK K
                    go_simp
                    refine wpAnyH_take (i := 43) (v := ?_) rfl (by kernel_rfl) (by kernel_rfl) (by kernel_rfl) (fun _ _ _ h => h) (Or.inl ⟨by rfl, ?_⟩) (by assumption) ?_
                    rotate_left
                    · intro w hSw; (try dsimp only at hSw); go_simp; try with_reducible rfl
                    go_simp
                    refine wpAnyH_take (i := 44) (v := ?_) rfl (by kernel_rfl) (by kernel_rfl) (by kernel_rfl) (fun _ _ _ h => h) (Or.inl ⟨by rfl, ?_⟩) (by assumption) ?_
                    rotate_left
                    · intro w hSw; (try dsimp only at hSw); go_simp; try with_reducible rfl
                    go_simp
                    refine wpAnyH_take (i := 45) (v := ?_) rfl (by kernel_rfl) (by kernel_rfl) (by kernel_rfl) (fun _ _ _ h => h) (Or.inl ⟨by rfl, ?_⟩) (by assumption) ?_
                    rotate_left
                    · intro w hSw; (try dsimp only at hSw); go_simp; try with_reducible rfl
                    go_simp
                    refine wpAnyH_take (i := 46) (v := ?_) rfl (by kernel_rfl) (by kernel_rfl) (by kernel_rfl) (fun _ _ _ h => h) (Or.inl ⟨by rfl, ?_⟩) (by assumption) ?_
                    rotate_left
                    · intro w hSw; (try dsimp only at hSw); go_simp; try with_reducible rfl
                    go_simp
                    refine wpAnyH_take (i := 49) (v := ?_) rfl (by kernel_rfl) (by kernel_rfl) (by kernel_rfl) (fun _ _ _ h => h) (Or.inl ⟨by rfl, ?_⟩) (by assumption) ?_
                    rotate_left
                    · intro w hSw; (try dsimp only at hSw); go_simp; try with_reducible rfl
                    go_simp
                    refine wpAnyH_take (i := 50) (v := ?_) rfl (by kernel_rfl) (by kernel_rfl) (by kernel_rfl) (fun _ _ _ h => h) (Or.inl ⟨by rfl, ?_⟩) (by assumption) ?_
                    rotate_left
                    · intro w hSw; (try dsimp only at hSw); go_simp; try with_reducible rfl
                    go_simp
                    refine wpAnyH_ready (rs := [47]) (by kernel_rfl) (by simp) ?_
                    refine AllReadyH.cons rfl (fun K hK => ?_) AllReadyH.nil
                    go_simp
                    refine (HNM.out _).mono ?_
                    rintro e w' ⟨rfl, rfl⟩
                    refine hK.out _ _ ?_ (fun hHeld => ?_)
                    · exact HKS.out _ HV10.out
                    clear hK K
                    go_simp
                    refine wpAnyH_ready (rs := [48]) (by kernel_rfl) (by simp) ?_
                    refine AllReadyH.cons rfl (fun K hK => ?_) AllReadyH.nil
                    go_simp
                    refine (HFI.out _ _ HV10.out).mono ?_
                    rintro e v11 ⟨rfl, hb⟩
                    have HV11 : Hid (Below wo.heap.size wo v11) := HV10.out.trans (hb.mono HV10.out.size)
                    clear hb
                    refine hK.out _ _ ?_ (fun hHeld => ?_)
                    · exact HKS.out _ HV11.out
                    clear hK K
                    go_simp
                    refine wpAnyH_ready (rs := [51]) (by kernel_rfl) (by simp) ?_
                    refine AllReadyH.cons rfl (fun K hK => ?_) AllReadyH.nil
                    go_simp
                    refine (HNM.out _).mono ?_
                    rintro e w' ⟨rfl, rfl⟩
                    refine hK.out _ _ ?_ (fun hHeld => ?_)
                    · exact HKS.out _ HV11.out
                    clear hK K
                    go_simp
                    refine wpAnyH_ready (rs := [52]) (by kernel_rfl) (by simp) ?_
                    refine AllReadyH.cons rfl (fun K hK => ?_) AllReadyH.nil
                    go_simp
                    refine (HRF.out _ _ HV11.out).mono ?_
                    rintro e w' ⟨rfl, rfl⟩
                    refine hK.out _ _ ?_ (fun hHeld => ?_)
                    · exact HKS.out _ HV11.out
                    clear hK K
                    go_simp
                    refine wpAnyH_take (i := 53) (v := ?_) rfl (by kernel_rfl) (by kernel_rfl) (by kernel_rfl) (fun _ _ _ h => h) (Or.inl ⟨by rfl, ?_⟩) (by assumption) ?_
                    rotate_left
                    · intro w hSw; (try dsimp only at hSw); go_simp; try with_reducible rfl
                    go_simp
                    refine wpAnyH_take (i := 54) (v := ?_) rfl (by kernel_rfl) (by kernel_rfl) (by kernel_rfl) (fun _ _ _ h => h) (Or.inl ⟨by rfl, ?_⟩) (by assumption) ?_
                    rotate_left
                    · intro w hSw; (try dsimp only at hSw); go_simp; try with_reducible rfl
                    go_simp
                    refine wpAnyH_take (i := 55) (v := ?_) rfl (by kernel_rfl) (by kernel_rfl) (by kernel_rfl) (fun _ _ _ h => h) (Or.inl ⟨by rfl, ?_⟩) (by assumption) ?_
                    rotate_left
                    · intro w hSw; (try dsimp only at hSw); go_simp; try with_reducible rfl
                    go_simp
                    refine wpAnyH_take (i := 56) (v := ?_) rfl (by kernel_rfl) (by kernel_rfl) (by kernel_rfl) (fun _ _ _ h => h) (Or.inl ⟨by rfl, ?_⟩) (by assumption) ?_
                    rotate_left
                    · intro w hSw; (try dsimp only at hSw); go_simp; try with_reducible rfl
                    go_simp
                    refine wpAnyH_take (i := 58) (v := ?_) rfl (by kernel_rfl) (by kernel_rfl) (by kernel_rfl) (fun _ _ _ h => h) (Or.inl ⟨by rfl, ?_⟩) (by assumption) ?_
                    rotate_left
                    · intro w hSw; (try dsimp only at hSw); go_simp; try with_reducible rfl
                    go_simp
                    refine wpAnyH_take (i := 59) (v := ?_) rfl (by kernel_rfl) (by kernel_rfl) (by kernel_rfl) (fun _ _ _ h => h) (Or.inl ⟨by rfl, ?_⟩) (by assumption) ?_
                    rotate_left
                    · intro w hSw; (try dsimp only at hSw); go_simp; try with_reducible rfl
                    go_simp
                    refine wpAnyH_ready (rs := [57]) (by kernel_rfl) (by simp) ?_
                    refine AllReadyH.cons rfl (fun K hK => ?_) AllReadyH.nil
                    go_simp
                    refine (HFI.out _ _ HV11.out).mono ?_
                    rintro e v12 ⟨rfl, hb⟩
                    have HV12 : Hid (Below wo.heap.size wo v12) := HV11.out.trans (hb.mono HV11.out.size)
                    clear hb
                    refine hK.out _ _ ?_ (fun hHeld => ?_)
                    · exact HKS.out _ HV12.out
                    clear hK K
                    go_simp
                    refine wpAnyH_ready (rs := [60]) (by kernel_rfl) (by simp) ?_
                    refine AllReadyH.cons rfl (fun K hK => ?_) AllReadyH.nil
                    go_simp
                    refine (HRF.out _ _ HV12.out).mono ?_
                    rintro e w' ⟨rfl, rfl⟩
                    refine hK.out _ _ ?_ (fun hHeld => ?_)
                    · exact HKS.out _ HV12.out
                    clear hK K
                    go_simp
                    refine wpAnyH_take (i := 61) (v := ?_) rfl (by kernel_rfl) (by kernel_rfl) (by kernel_rfl) (fun _ _ _ h => h) (Or.inl ⟨by rfl, ?_⟩) (by assumption) ?_
                    rotate_left
                    · intro w hSw; (try dsimp only at hSw); go_simp; try with_reducible rfl
                    go_simp
                    refine wpAnyH_take (i := 62) (v := ?_) rfl (by kernel_rfl) (by kernel_rfl) (by kernel_rfl) (fun _ _ _ h => h) (Or.inl ⟨by rfl, ?_⟩) (by assumption) ?_
                    rotate_left
                    · intro w hSw; (try dsimp only at hSw); go_simp; try with_reducible rfl
                    go_simp
                    refine wpAnyH_take (i := 63) (v := ?_) rfl (by kernel_rfl) (by kernel_rfl) (by kernel_rfl) (fun _ _ _ h => h) (Or.inl ⟨by rfl, ?_⟩) (by assumption) ?_
                    rotate_left
                    · intro w hSw; (try dsimp only at hSw); go_simp; try with_reducible rfl
                    go_simp
                    refine wpAnyH_done (by kernel_rfl) ?_ _
                    go_wp2_with fail
                    go_ret
                    exact ⟨rfl, HB0.out.below.trans (HV12.out.mono HB0.out.below.size)⟩
end Go.Proofs.Ytoglpjgmnojdjaa.Tells
