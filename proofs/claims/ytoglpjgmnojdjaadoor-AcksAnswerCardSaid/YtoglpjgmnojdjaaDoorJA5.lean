/- Joined texts. Seen's Frame: contracts. Conditions: as each theorem lists them. The Ack of what came is right; Right of it: a contract. Conditions: as each theorem lists them. -/
import Derived.Test.YtoglpjgmnojdjaaDoorJA4
import Derived.Test.YtoglpjgmnojdjaaDoorJ4
import Derived.Laws.ResultCell
set_option linter.unusedSimpArgs false
set_option linter.unusedVariables false

namespace Go.Proofs.YtoglpjgmnojdjaaDoor.Sp
open Go Go.RowKit

/-- A result that lies in a variable of one block, and one more in a slot. -/
theorem results_row_tmp {P : Program} {fn : Func} {p u : Tmp} {ty : TypeId} (h : fn.results = #[.cell p ty, .tmp u]) (tmps : Array Value) (w : World) (g : Nat) (t : TypeId) (cs : Array Value) (fr : Nat × Nat) (d : TypeDesc)
    (hp : tmps.getD p undef = .pointer (some ⟨g, 0, none⟩)) (hg : w.heap[g]? = some (.cells cs t fr))
    (hu : P.underlying ty = some d) (hd : (match d with | .struct _ | .array _ _ => true | _ => false) = true) (hi : (P.info? ty).map (·.size) = some cs.size) :
    (results fn tmps).run P w = .ok (.tuple #[.agg cs, tmps.getD u undef]) w := by
  rw [results_cell_tmp h tmps P w, hp]
  simp [asAddr, run_loadVar_row w g t ty cs fr d hg hu hd hi, Result.andThen_ok]

/-- The Ack of what came. -/
def ackF (es : List Int) : Fr := ⟨2, 0, 0, 0, 0, 0, false, [], ackL es (es.length / 2) (min (es.length / 2) 8)⟩
def noF : Fr := ⟨0, 0, 0, 0, 0, 0, false, [], []⟩

set_option maxRecDepth 100000 in
set_option maxHeartbeats 4000000 in
theorem frame_yes (s : St) (hw : Win s) (hne : 0 ≤ s.nw) (p : Nat) (w : World) (h : SeenIn w p s) :
    Calls Tryd.prog 22 #[.pointer (some ⟨p, 0, none⟩)] w fun e w' => ∃ A c, e = .returned (.tuple #[frA (ackF s.es) none 0 0 A (min (s.es.length / 2) 8) c, .bool true]) ∧ w'.ownsRow w.heap.size 54 2 (.slice A (min (s.es.length / 2) 8) c) (min (s.es.length / 2) 8) (ints (ackF s.es).spans) ∧ Below w.heap.size w w' := by
  have HL := Lib.hid (hw.last hne)
  have hl66 := hw.len
  have hev := hw.ok.2.1
  have HOk := Lib.hid hw.ok
  obtain ⟨es, hes⟩ : ∃ x, Hid (s.es = x) := ⟨_, rfl⟩
  have HSP : Hid (∀ W, Below w.heap.size w W → Calls Tryd.prog 51 #[.pointer (some ⟨p, 0, none⟩)] W fun e w' => ∃ v', e = .returned v' ∧ w'.ownsRow W.heap.size 54 2 v' (es.length / 2) (ints es) ∧ Below W.heap.size W w') := fun W hW => by
    obtain ⟨v, h⟩ := h.below hW
    rw [hes.out] at h hl66 hev
    obtain ⟨A, c, hat, _⟩ := h.at (by omega)
    exact spans_any es W.heap.size p 0 A c W hat.2.2.2.2.2.2 hat.2.2.2.2.1 (Nat.le_refl _) hev (by omega) hat.2.2.1
  rw [hes.out] at HL HOk hl66 hev ⊢
  obtain ⟨m, hm⟩ : ∃ m, Hid (es.length / 2 = m) := ⟨_, rfl⟩
  have HM : Hid (es.length = 2 * m) := by have := hm.out; show _ = _; omega
  have hm1 : 1 ≤ m := by have := HL.out.1; have := HM.out; omega
  have hm2 : m ≤ 33 := by have := HM.out; omega
  rw [hm.out] at HSP ⊢
  have HAF : Hid ((ackF es).spans = ackL es m (min m 8)) := by show ackL es (es.length / 2) (min (es.length / 2) 8) = _; rw [hm.out]
  rw [HAF.out]
  have HFV : Hid (∀ A c, frA (ackF es) none 0 0 A (min m 8) c = .agg #[.int .i64 2, .int .i64 0, .int .i64 0, .int .i64 0, .int .i64 0, .int .i64 0, .bool false, .slice none 0 0, .slice A (min m 8) c]) := fun A c => rfl
  obtain ⟨i0, hi, hz0, hz1, hz2⟩ := info_parts infoP
  have HI := Lib.hid (And.intro hi (And.intro hz0 (And.intro hz1 hz2)))
  have hmk := fun W => run_make (P := Tryd.prog) W 46 54 i0 (.agg #[.int .i64 0, .int .i64 0]) Tryd.underlying46 hi hz0 .i64 .i64 0 8 (by omega) (by omega) (by rw [hz2]; omega) (by omega)
  simp only [hz1, Int.toNat_zero, show (8 : Int).toNat = 8 from rfl] at hmk
  have hm0 : ((m : Int) == 0) = false := by simp; omega
  clear h hw hne hi hz0 hz1 hz2 hl66 hev
  go_enter Tryd.func22, Tryd.ntmps22
  go_wp2_with fail
  refine (HSP.out _ ((Below.refl _ _).alloc (Nat.le_refl _) _)).mono ?_
  rintro e w1 ⟨v1, rfl, h1, h2⟩
  have hg1 := (h2.block w.heap.size (by simp)).trans (heap_alloc_new _ _)
  have HG1 := Lib.hid hg1
  have HB1 : Hid (Below w.heap.size w w1) := ((Below.refl _ _).alloc (Nat.le_refl _) _).trans (h2.mono (by simp))
  have HZ1 : Hid (w.heap.size + 1 ≤ w1.heap.size) := by have := h2.size; simp at this; exact this
  obtain ⟨A1, c1, e1, hc1, _, _, hrd1⟩ := own_form h1
  subst e1
  have HR : Hid (Rd w1 w1.heap.size A1 (m * 2) (ints es)) := hrd1
  have hmc : (m : Int) ≤ (c1 : Int) := by omega
  clear h1 h2 hrd1 hg1 HSP
  go_wp2_with fail
  have hown0 : Hid ((w1.alloc (Obj.cells (madeCells #[Value.int IntKind.i64 0, Value.int IntKind.i64 0] (8 * 2)) 54)).ownsRow w1.heap.size 54 2 (.slice (some ⟨w1.heap.size, 0, none⟩) 0 8) 0 []) :=
    World.ownsRow_made _ _ _ (Nat.le_refl _) (by unfold maxLen; omega) (by rw [size_madeCells])
  go_loopw [5, 6] (fun v i wr => ∃ (j : Nat) (ii : Int), j ≤ min m 8 ∧ i = .int .i64 ii ∧ ii = (m : Int) - 1 - (j : Int) ∧ (∃ Al cl, v = .slice Al j cl) ∧ Hid (wr.ownsRow w1.heap.size 54 2 v j (ints (ackL es m j)) ∧ Below w1.heap.size w1 wr)) (fun _ i _ => (intOf i + 1).toNat)
  case atStart => exact ⟨0, (m : Int) - 1, by omega, rfl, by omega, ⟨_, _, rfl⟩, hown0.out, (Below.refl _ _).alloc (Nat.le_refl _) _⟩
  case round =>
    clear hown0
    obtain ⟨j, ii, hj, rfl, hii, ⟨Al, cl, rfl⟩, HK⟩ := hrel
    by_cases hlt : j < m ∧ j < 8
    · obtain ⟨hj1, hj2⟩ := hlt
      obtain ⟨q, hq⟩ : ∃ q : Nat, m = q + 1 + j := ⟨m - 1 - j, by omega⟩
      obtain rfl : ii = (q : Int) := by omega
      have HQ := Lib.hid hq
      have hqm : q < m := by omega
      have hqc : q < c1 := by omega
      have hqi : (q : Int) < (m : Int) := by omega
      have hj2i : (j : Int) < 8 := by omega
      clear hii hq
      obtain ⟨b, off, hA, hbn, hcs⟩ := HR.out.2 (by omega)
      subst hA
      have hl1 : 2 * q + 1 < es.length := by have := HM.out; omega
      have hx0 := get_in HOk.out (2 * q) (by omega)
      have hy0 := get_in HOk.out (2 * q + 1) (by omega)
      have hxy := get_mono HOk.out.1 (2 * q) (2 * q + 1) (by omega) (by omega)
      have HAK : Hid (ackL es m (j + 1) = ackL es m j ++ [es.getD (2 * q) 0, es.getD (2 * q + 1) 0 - 1]) := by
        show _ = _
        rw [ackL, show m - 1 - j = q by have := HQ.out; omega]
      obtain ⟨x, hx⟩ : ∃ x, Hid (es.getD (2 * q) 0 = x) := ⟨_, rfl⟩
      obtain ⟨y, hy⟩ : ∃ y, Hid (es.getD (2 * q + 1) 0 = y) := ⟨_, rfl⟩
      have hcx : wr.cell? ⟨b, off + q * 2, none⟩ = some (.int .i64 x) := by
        rw [HK.out.2.cell (p := ⟨b, off + q * 2, none⟩) hbn, show off + q * 2 = off + 2 * q by omega, hcs (2 * q) _ (ints_get es _ (by omega)), hx.out]
      have hcy : wr.cell? ⟨b, off + q * 2 + 1, none⟩ = some (.int .i64 y) := by
        rw [HK.out.2.cell (p := ⟨b, off + q * 2 + 1, none⟩) hbn, show off + q * 2 + 1 = off + (2 * q + 1) by omega, hcs (2 * q + 1) _ (ints_get es _ (by omega)), hy.out]
      rw [hx.out] at hx0 hxy HAK
      rw [hy.out] at hy0 hxy HAK
      clear hcs
      have hsz : Hid (w1.heap.size ≤ wr.heap.size) := HK.out.2.size
      have nx := World.new_ne wr _ hcx
      go_wp2_with fail
      have s1 : IntKind.i64.wrap (y - 1) = y - 1 := IntWalk.i64_in _ (by omega)
      have hmax : j + 1 ≤ maxLen := by unfold maxLen; omega
      have hby : (j + 1) * 16 ≤ 140737488355328 := by omega
      have hbs : w1.heap.size ≤ ((wr.alloc (Obj.cells #[Value.int IntKind.i64 x, Value.int IntKind.i64 (y - 1)] 54)).drew).heap.size := by have := hsz.out; simp; omega
      have HBS := Lib.hid hbs
      have HB0 : Hid (Below w1.heap.size wr ((wr.alloc (Obj.cells #[Value.int IntKind.i64 x, Value.int IntKind.i64 (y - 1)] 54)).drew)) := ((Below.refl _ _).alloc hsz.out _).drew
      have HRR : Hid (Rd ((wr.alloc (Obj.cells #[Value.int IntKind.i64 x, Value.int IntKind.i64 (y - 1)] 54)).drew) (wr.heap.size + 1) (some ⟨wr.heap.size, 0, none⟩) (1 * 2) (ints [x, y - 1])) := (rd_new wr _ _ _ _ _ _ rfl (by omega) rfl rfl).drew
      clear hbs
      go_region_held3 (fun w' => w'.cell? ⟨b, off + q * 2, none⟩ = some (.int .i64 x) ∧ w'.cell? ⟨b, off + q * 2 + 1, none⟩ = some (.int .i64 y)) (first | go_keep | exact ⟨(HB1x.out.cell (p := ⟨b, off + q * 2, none⟩) hbn).trans hcx, (HB1x.out.cell (p := ⟨b, off + q * 2 + 1, none⟩) hbn).trans hcy⟩)
        ((refine step_own rfl (.tmp 28) (.tmp 41) 46 rfl w1.heap.size 54 i0 (.agg #[.int .i64 0, .int .i64 0]) 2 16 Tryd.underlying46 HI.out.1 HI.out.2.1 HI.out.2.2.1 HI.out.2.2.2 rfl (by decide) (.slice Al j cl) j (ints (ackL es m j)) (by rfl) (HK.out.1.alloc _).drew (wr.heap.size + 1) (some ⟨wr.heap.size, 0, none⟩) 1 1 (ints [x, y - 1]) (by rfl) HRR.out (ones_ints _) hmax hby HBS.out ?_; intro v1 wx hown1 hgrow1; have HB1x : Hid (Below w1.heap.size wr wx) := HB0.out.grown hgrow1 HBS.out (fun g hg => (HK.out.1.lt g hg).1); have HO1 := Lib.hid hown1; clear hown1 hgrow1))
      have HN : Hid (wx.ownsRow w1.heap.size 54 2 v1 (j + 1) (ints (ackL es m (j + 1))) ∧ Below w1.heap.size w1 wx) := by
        refine ⟨?_, HK.out.2.trans HB1x.out⟩
        rw [HAK.out, ints_app]
        exact HO1.out
      clear HO1 HB1x s1 hcx hcy nx HB0 HRR HBS
      obtain ⟨Ax, cx, e1, _⟩ := own_form HN.out.1
      subst e1
      have hq0 : (0 : Int) ≤ (q : Int) := by omega
      go_wp2
      go_roundw
      case rel => exact ⟨j + 1, (q : Int) - 1, by omega, rfl, by have := HQ.out; omega, ⟨_, _, rfl⟩, HN⟩
      case measure => simp [intOf] <;> omega
    · have hjm : j = min m 8 := by omega
      obtain ⟨g, hg⟩ : ∃ g, Hid (w.heap.size = g) := ⟨_, rfl⟩
      have hgr : wr.heap[w.heap.size]? = w1.heap[w.heap.size]? := HK.out.2.block w.heap.size (by have := HZ1.out; omega)
      rw [HG1.out] at hgr
      rw [hg.out] at hgr
      have y0 := cell_slot (o := 0) hgr rfl
      have f0 := free_slot (o := 0) hgr
      have y1 := cell_slot (o := 1) hgr rfl
      have f1 := free_slot (o := 1) hgr
      have y2 := cell_slot (o := 2) hgr rfl
      have f2 := free_slot (o := 2) hgr
      have y3 := cell_slot (o := 3) hgr rfl
      have f3 := free_slot (o := 3) hgr
      have y4 := cell_slot (o := 4) hgr rfl
      have f4 := free_slot (o := 4) hgr
      have y5 := cell_slot (o := 5) hgr rfl
      have f5 := free_slot (o := 5) hgr
      have y6 := cell_slot (o := 6) hgr rfl
      have f6 := free_slot (o := 6) hgr
      have y7 := cell_slot (o := 7) hgr rfl
      have f7 := free_slot (o := 7) hgr
      have y8 := cell_slot (o := 8) hgr rfl
      have f8 := free_slot (o := 8) hgr
      have HGR := Lib.hid hgr
      have HJM := Lib.hid hjm
      clear hgr hjm
      rw [hg.out]
      have hcase : (j = 8 ∧ 0 ≤ ii) ∨ ii = -1 := by have := HJM.out; omega
      clear hii
      rcases hcase with ⟨rfl, hi0⟩ | rfl
      all_goals
        go_wp2
        (try simp only [Exit.inBlock, Exit.then])
        refine bodyPost_ret (results_row_tmp rfl _ _ g 48 _ (0, 0) _ rfl (set_slot (set_slot (set_slot (set_slot (set_slot (set_slot (set_slot (set_slot (set_slot (HGR.out) 0 _) 1 _) 2 _) 3 _) 4 _) 5 _) 6 _) 7 _) 8 _) Tryd.underlying48 rfl (by kernel_rfl)) rfl ?_
        have hlt : g < w1.heap.size := by have := HZ1.out; have := hg.out; omega
        have hge : w.heap.size ≤ g := by have := hg.out; omega
        refine ⟨Al, cl, ?_, ?_, ?_⟩
        · rw [HFV.out, ← HJM.out]; rfl
        · rw [← HJM.out]
          refine own_base (base := w1.heap.size) ?_ (by omega)
          iterate 9 (refine ownsRow_setCell_below ?_ hlt _)
          exact HK.out.1
        · have h0 := HB1.out.trans (HK.out.2.mono (by omega))
          iterate 9 (refine Below.setCell ?_ (p := ⟨g, _, none⟩) hge _)
          exact h0

set_option maxRecDepth 100000 in
set_option maxHeartbeats 4000000 in
theorem frame_no (s : St) (hw : Win s) (hne : s.nw < 0) (p : Nat) (w : World) (h : SeenIn w p s) :
    Calls Tryd.prog 22 #[.pointer (some ⟨p, 0, none⟩)] w fun e w' => e = .returned (.tuple #[frA noF none 0 0 none 0 0, .bool false]) ∧ Below w.heap.size w w' := by
  have hnil : s.es = [] := hw.empty.2 (by have := hw.lo; omega)
  have HSP : Hid (∀ W, Below w.heap.size w W → Calls Tryd.prog 51 #[.pointer (some ⟨p, 0, none⟩)] W fun e w' => ∃ v', e = .returned v' ∧ w'.ownsRow W.heap.size 54 2 v' 0 (ints []) ∧ Below W.heap.size W w') := fun W hW => by
    obtain ⟨v, h⟩ := h.below hW
    rw [hnil] at h
    obtain ⟨A, c, hat, _⟩ := h.at (by decide)
    exact spans_any [] W.heap.size p 0 A c W hat.2.2.2.2.2.2 hat.2.2.2.2.1 (Nat.le_refl _) rfl (by decide) hat.2.2.1
  have HFV : Hid (frA noF none 0 0 none 0 0 = .agg #[.int .i64 0, .int .i64 0, .int .i64 0, .int .i64 0, .int .i64 0, .int .i64 0, .bool false, .slice none 0 0, .slice none 0 0]) := rfl
  rw [HFV.out]
  clear h hw hne hnil HFV
  go_enter Tryd.func22, Tryd.ntmps22
  go_wp2_with fail
  refine (HSP.out _ ((Below.refl _ _).alloc (Nat.le_refl _) _)).mono ?_
  rintro e w1 ⟨v1, rfl, h1, h2⟩
  have hg1 := (h2.block w.heap.size (by simp)).trans (heap_alloc_new _ _)
  have HG1 := Lib.hid hg1
  have HB1 : Hid (Below w.heap.size w w1) := ((Below.refl _ _).alloc (Nat.le_refl _) _).trans (h2.mono (by simp))
  obtain ⟨A1, c1, e1, hc1, _, _, hrd1⟩ := own_form h1
  subst e1
  obtain ⟨g, hg⟩ : ∃ g, Hid (w.heap.size = g) := ⟨_, rfl⟩
  rw [hg.out] at hg1 HG1 HB1
  rw [hg.out]
  have y0 := cell_slot (o := 0) hg1 rfl
  have f0 := free_slot (o := 0) hg1
  have y1 := cell_slot (o := 1) hg1 rfl
  have f1 := free_slot (o := 1) hg1
  have y2 := cell_slot (o := 2) hg1 rfl
  have f2 := free_slot (o := 2) hg1
  have y3 := cell_slot (o := 3) hg1 rfl
  have f3 := free_slot (o := 3) hg1
  have y4 := cell_slot (o := 4) hg1 rfl
  have f4 := free_slot (o := 4) hg1
  have y5 := cell_slot (o := 5) hg1 rfl
  have f5 := free_slot (o := 5) hg1
  have y6 := cell_slot (o := 6) hg1 rfl
  have f6 := free_slot (o := 6) hg1
  have y7 := cell_slot (o := 7) hg1 rfl
  have f7 := free_slot (o := 7) hg1
  have y8 := cell_slot (o := 8) hg1 rfl
  have f8 := free_slot (o := 8) hg1
  clear h1 h2 hrd1 hg1 hc1 HSP
  go_wp2
  (try simp only [Exit.inBlock, Exit.then])
  refine bodyPost_ret (results_row_tmp rfl _ _ g 48 _ (0, 0) _ rfl (set_slot (set_slot (set_slot (set_slot (set_slot (set_slot (set_slot (set_slot (set_slot (HG1.out) 0 _) 1 _) 2 _) 3 _) 4 _) 5 _) 6 _) 7 _) 8 _) Tryd.underlying48 rfl (by kernel_rfl)) rfl ?_
  have hge : w.heap.size ≤ g := by have := hg.out; omega
  refine ⟨?_, ?_⟩
  · rfl
  · have h0 : Below w.heap.size w w1 := by rw [hg.out]; exact HB1.out
    iterate 9 (refine Below.setCell ?_ (p := ⟨g, _, none⟩) hge _)
    exact h0
end Go.Proofs.YtoglpjgmnojdjaaDoor.Sp

namespace Go.Proofs.YtoglpjgmnojdjaaDoor.Sp
open Go Go.RowKit

theorem ack_right {s : St} (h : Win s) (h0 : 0 ≤ s.nw) : rightB (ackF s.es) = true := by
  obtain ⟨hl, _⟩ := h.last h0
  have hev := h.ok.2.1
  obtain ⟨m, hm⟩ : ∃ m, s.es.length = 2 * m := ⟨s.es.length / 2, by omega⟩
  have hd : s.es.length / 2 = m := by omega
  have hlen : (ackF s.es).spans.length = 2 * min m 8 := by
    show (ackL s.es (s.es.length / 2) (min (s.es.length / 2) 8)).length = _
    rw [hd, ackL_len]
  have hj : min m 8 ≤ m := Nat.min_le_left _ _
  have hrs : rsB (ackF s.es).spans (min m 8) = true := by
    have hall : ∀ k, k < min m 8 → spK (ackF s.es).spans k = true := fun k hk => by
      show spK (ackL s.es (s.es.length / 2) (min (s.es.length / 2) 8)) k = true
      rw [hd]
      obtain ⟨r0, r1, r2, r3, _⟩ := ack_run h.ok m hm (min m 8) k hj hk
      unfold spK
      simp only [Bool.and_eq_true, Bool.or_eq_true, decide_eq_true_eq]
      refine ⟨⟨⟨r0, r2⟩, r1⟩, ?_⟩
      by_cases hk0 : k = 0
      · exact .inl hk0
      · have := r3 (by omega)
        obtain ⟨q0, q1, q2, _, _⟩ := ack_run h.ok m hm (min m 8) (k - 1) hj (by omega)
        refine .inr ?_
        rw [IntWalk.wrap64_in _ (by omega)]
        omega
    rw [rsB_all hall]
    simp only [Bool.and_eq_true, decide_eq_true_eq]
    omega
  have e1 : (ackF s.es).spans.length / 2 = min m 8 := by omega
  have e2 : decide (0 < min m 8) = true := decide_eq_true (by omega)
  unfold rightB
  rw [e1, hrs]
  show (kn 2 && rnB 0 0 0 0 && (bits .andNot .i64 (carI (carB 0 0 0 0 false 0 (min m 8)) 7) (nm 2 : Int) == 0) && rdB 2 0 0 && (_ || true)) = true
  unfold carB
  rw [e2, Bool.or_true]
  decide +kernel

/-- The runs of the Ack of what came. -/
theorem ack_facts {s : St} (h : Win s) (h0 : 0 ≤ s.nw) : 1 ≤ min (s.es.length / 2) 8 ∧ (ackF s.es).spans.length = min (s.es.length / 2) 8 * 2 ∧ (ackF s.es).spans.getD 1 0 = s.nw ∧
    ∀ j, j < min (s.es.length / 2) 8 → 0 ≤ (ackF s.es).spans.getD (2 * j) 0 ∧ (ackF s.es).spans.getD (2 * j) 0 ≤ (ackF s.es).spans.getD (2 * j + 1) 0 ∧ (ackF s.es).spans.getD (2 * j + 1) 0 ≤ 4611686018427387903 ∧
      ∀ n, (ackF s.es).spans.getD (2 * j) 0 ≤ n → n ≤ (ackF s.es).spans.getD (2 * j + 1) 0 → mem s.es n = true := by
  obtain ⟨hl, hlast⟩ := h.last h0
  have hev := h.ok.2.1
  obtain ⟨m, hm⟩ : ∃ m, s.es.length = 2 * m := ⟨s.es.length / 2, by omega⟩
  have hd : s.es.length / 2 = m := by omega
  have hsp : (ackF s.es).spans = ackL s.es m (min m 8) := by
    show ackL s.es (s.es.length / 2) (min (s.es.length / 2) 8) = _
    rw [hd]
  rw [hsp, hd]
  refine ⟨by omega, by rw [ackL_len]; omega, ?_, fun j hj => ?_⟩
  · have := (ackL_get s.es m (min m 8) 0 (by omega)).2
    rw [show 2 * (m - 1 - 0) + 1 = s.es.length - 1 by omega, hlast] at this
    rw [show (1 : Nat) = 2 * 0 + 1 from rfl, this]
    omega
  · obtain ⟨r0, r1, r2, _, r4⟩ := ack_run h.ok m hm (min m 8) j (Nat.min_le_left _ _) hj
    exact ⟨r0, r1, r2, r4⟩

theorem right_ack {s : St} (h : Win s) (h0 : 0 ≤ s.nw) (A : Option Addr) (c : Nat) (w : World) (hown : w.ownsRow 0 54 2 (.slice A (min (s.es.length / 2) 8) c) (min (s.es.length / 2) 8) (ints (ackF s.es).spans)) :
    Calls Tryd.prog 52 #[.agg #[.int .i64 2, .int .i64 0, .int .i64 0, .int .i64 0, .int .i64 0, .int .i64 0, .bool false, .slice none 0 0, .slice A (min (s.es.length / 2) 8) c]] w fun e w' => e = .returned (.bool true) ∧ Below w.heap.size w w' := by
  obtain ⟨_, _, ev, hnc, _, _, hrd⟩ := own_form hown
  simp only [Value.slice.injEq] at ev
  obtain ⟨rfl, _, rfl⟩ := ev
  have hl : (ackF s.es).spans.length = min (s.es.length / 2) 8 * 2 := by have := hown.1; rwa [ints_len] at this
  have := right_any (ackF s.es) w.heap.size none 0 0 A (min (s.es.length / 2) 8) c w ⟨rfl, Nat.le_refl _, Rd.nil _ _ _, hl, hnc, hrd⟩ (Nat.le_refl _) (by omega) (by omega)
  rw [ack_right h h0] at this
  exact this
end Go.Proofs.YtoglpjgmnojdjaaDoor.Sp
