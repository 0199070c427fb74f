/- The reference's queue: fits, Put: contracts. Conditions: as each theorem lists them. -/
import Derived.Test.YtlaopkkfgkcejaaJQi
set_option linter.unusedSimpArgs false
set_option linter.unusedVariables false

namespace Go.Proofs.Ytlaopkkfgkcejaa.Qu
open Go Go.RowKit Go.Proofs.Ytlaopkkfgkcejaa

theorem infoRf : (Try.prog.info? 44).map (fun i => (i.zero, i.size, i.bytes)) = some (some (.agg #[.int .i64 0, .slice none 0 0]), 2, 32) := by kernel_rfl

theorem fits_any (A : Option Addr) (n c : Nat) (w : World) (hn : n ≤ 1000000) :
    Calls Try.prog 23 #[.slice A n c] w fun e w' => e = .returned (.bool (decide (0 < n) && decide (n ≤ 116))) ∧ w' = w := by
  by_cases h1 : 0 < n
  · have h1I : (0 : Int) < (n : Int) := by omega
    by_cases h2 : n ≤ 116
    · have h2I : (n : Int) ≤ 116 := by omega
      rw [decide_eq_true h1, decide_eq_true h2]
      clear h1 h2
      go_enter Try.func23, Try.ntmps23
      go_wp2
      go_ret
      exact ⟨rfl, rfl⟩
    · have h2I : ¬ (n : Int) ≤ 116 := by omega
      rw [decide_eq_true h1, decide_eq_false h2]
      clear h1 h2
      go_enter Try.func23, Try.ntmps23
      go_wp2
      go_ret
      exact ⟨rfl, rfl⟩
  · have h1I : ¬ (0 : Int) < (n : Int) := by omega
    rw [decide_eq_false h1]
    clear h1
    go_enter Try.func23, Try.ntmps23
    go_wp2
    go_ret
    exact ⟨rfl, rfl⟩

/-- Two rows of unlike elements lie in two blocks. -/
theorem own_apart {w w' : World} {b1 b2 e1 e2 s1 s2 n1 n2 : Nat} {v1 v2 : Value} {x1 x2 : List Value} (h1 : w.ownsRow b1 e1 s1 v1 n1 x1) (h2 : w.ownsRow b2 e2 s2 v2 n2 x2) (hne : e1 ≠ e2) (hg : w.grownBy w' v1.ownBlock) : w'.ownsRow b2 e2 s2 v2 n2 x2 := by
  refine ⟨h2.1, ?_⟩
  rcases h2.2 with h | ⟨g, cap, cur, rfl, hb, hh, h3⟩
  · exact .inl h
  · refine .inr ⟨g, cap, cur, rfl, hb, (hg.block g (Array.getElem?_eq_some_iff.1 hh).1 fun e => ?_).trans hh, h3⟩
    rcases h1.2 with ⟨rfl, _⟩ | ⟨g', cap', cur', rfl, _, hh', _⟩
    · simp [Value.ownBlock] at e
    · simp [Value.ownBlock] at e
      subst e
      rw [hh] at hh'
      simp at hh'
      exact hne hh'.2.symm

/-- The reference's queue, at block r: one cell, a slice of items. -/
structure RQ (w : World) (r lo : Nat) (ks : List It) : Prop where
  row : ∃ A c, w.cell? ⟨r, 0, none⟩ = some (.slice A ks.length c) ∧ At w lo A (ks.length * 2) (its ks) ∧ ks.length ≤ c
  fz : w.frozen? ⟨r, 0, none⟩ = false
  rlo : r < lo
  lt : r < w.heap.size
  lo' : lo ≤ w.heap.size
  le : ks.length ≤ 32
  items : ∀ q ∈ ks, ItOk w lo q ∧ q.n ≤ 1000000
theorem RQ.same {w w' : World} {r lo : Nat} {ks : List It} (h : RQ w r lo ks) (hs : w.heap.size ≤ w'.heap.size) (hr : w'.heap[r]? = w.heap[r]?) (hb : ∀ b, lo ≤ b → b < w.heap.size → w'.heap[b]? = w.heap[b]?) : RQ w' r lo ks := by
  obtain ⟨A, c, h1, h2, h3⟩ := h.row
  refine ⟨⟨A, c, ?_, h2.same hs hb, h3⟩, ?_, h.rlo, Nat.lt_of_lt_of_le h.lt hs, Nat.le_trans h.lo' hs, h.le, fun q hq => ⟨(h.items q hq).1.same hs hb, (h.items q hq).2⟩⟩
  · simp only [World.cell?, hr] at h1 ⊢; exact h1
  · have := h.fz; simp only [World.frozen?, hr] at this ⊢; exact this
def RQD (w : World) (r lo : Nat) (ds : List (Int × List Nat)) : Prop := ∃ ks, ks.map dat = ds ∧ RQ w r lo ks
theorem RQD.below {w w' : World} {r lo : Nat} {ds : List (Int × List Nat)} (h : RQD w r lo ds) (hb : Below w.heap.size w w') : RQD w' r lo ds := by
  obtain ⟨ks, e, h⟩ := h
  exact ⟨ks, e, h.same hb.size (hb.block r h.lt) fun b _ h2 => hb.block b h2⟩
theorem RQD.grown {w w' : World} {r lo p : Nat} {ds : List (Int × List Nat)} (h : RQD w r lo ds) (hg : w.grownBy w' (some p)) (hp : p < lo) (hne : p ≠ r) : RQD w' r lo ds := by
  obtain ⟨ks, e, h⟩ := h
  exact ⟨ks, e, h.same hg.size (hg.block r h.lt (by simp; omega)) fun b h1 h2 => hg.block b h2 (by simp; omega)⟩
/-- One more item, its bytes and the whole row in new memory. -/
theorem RQ.more {w0 z : World} {r lo n0 : Nat} {ks : List It} (h : RQ w0 r lo ks) (hn : ks.length = n0) (h32 : n0 < 32) (k : Int) (bs : List Nat) (m : Nat) (hm : m ≤ 1000000) (hlt : ∀ x ∈ bs, x < 256) (A8 : Option Addr) (c8 : Nat) (A9 : Option Addr) (c9 : Nat) (hb : Below w0.heap.size w0 z)
    (hd : z.ownsRow w0.heap.size 5 1 (.slice A8 m c8) m (bv bs)) (hc8 : m ≤ c8) (ho : z.ownsRow w0.heap.size 44 2 (.slice A9 (n0 + 1) c9) (n0 + 1) (its (ks ++ [⟨k, A8, m, c8, bs⟩]))) (hc9 : n0 + 1 ≤ c9) :
    RQ (z.setCell ⟨r, 0, none⟩ (.slice A9 (n0 + 1) c9)) r lo (ks ++ [⟨k, A8, m, c8, bs⟩]) := by
  have hl : (ks ++ [(⟨k, A8, m, c8, bs⟩ : It)]).length = n0 + 1 := by rw [List.length_append, hn]; rfl
  obtain ⟨A, c, h1, h2, h3⟩ := h.row
  have hz : ∀ b, b ≠ r → (z.setCell ⟨r, 0, none⟩ (.slice A9 (n0 + 1) c9)).heap[b]? = z.heap[b]? := fun b hb => Below.heap_setCell _ _ _ _ (fun e => hb e)
  have hsz : z.heap.size ≤ (z.setCell ⟨r, 0, none⟩ (.slice A9 (n0 + 1) c9)).heap.size := by simp [World.setCell]
  have hrl := h.rlo
  have hlo := h.lo'
  refine ⟨⟨A9, c9, ?_, ?_, by rw [hl]; exact hc9⟩, ?_, h.rlo, Nat.lt_of_lt_of_le h.lt (Nat.le_trans hb.size hsz), Nat.le_trans h.lo' (Nat.le_trans hb.size hsz), by rw [hl]; omega, fun q hq => ?_⟩
  · rw [hl]; exact World.cell?_setCell_same _ _ _ ((hb.cell (p := ⟨r, 0, none⟩) h.lt).trans h1)
  · rw [hl]
    exact ((At.of_own ho).same hsz (fun b h4 _ => hz b (by omega))).less hlo
  · rw [World.frozen?_setCell]; exact (hb.frozen (p := ⟨r, 0, none⟩) h.lt).trans h.fz
  · rw [List.mem_append] at hq
    rcases hq with hq | hq
    · exact ⟨((h.items q hq).1.below hb).same hsz (fun b h4 _ => hz b (by omega)), (h.items q hq).2⟩
    · have : q = ⟨k, A8, m, c8, bs⟩ := by simpa using hq
      subst this
      have ha := At.of_own hd
      rw [Nat.mul_one] at ha
      exact ⟨⟨(ha.same hsz (fun b h4 _ => hz b (by omega))).less hlo, hc8, hlt⟩, hm⟩

/-- What the reference's Put leaves. -/
def RPutP (w : World) (r lo : Nat) (ds es : List (Int × List Nat)) (e : Ending) (w' : World) : Prop :=
  e = .returned (.int .i64 ((putD ds.length es).length : Int)) ∧ RQD w' r lo (ds ++ putD ds.length es) ∧ w.grownBy w' (some r)

set_option maxRecDepth 100000 in
set_option maxHeartbeats 16000000 in
theorem rput_any {w : World} {r lo : Nat} {ds : List (Int × List Nat)} (hq : RQD w r lo ds) (qs : List It) (n c : Nat) (A : Option Addr) (hA : At w lo A (n * 2) (its qs)) (hc : n ≤ c) (hn : n ≤ 1000000) (hqs : ∀ q ∈ qs, ItOk w lo q ∧ q.n ≤ 1000000) :
    Calls Try.prog 16 #[.pointer (some ⟨r, 0, none⟩), .slice A n c] w (RPutP w r lo ds (qs.map dat)) := by
  have hlen : qs.length = n := by have := hA.1; rw [its_len] at this; omega
  have hd32 : ds.length ≤ 32 := by obtain ⟨ks, e, h⟩ := hq; rw [← e, List.length_map]; exact h.le
  obtain ⟨i0, hi, hz0, hz1, hz2⟩ := info_parts infoRf
  have HI := Lib.hid (And.intro hi (And.intro hz0 (And.intro hz1 hz2)))
  obtain ⟨i1, hi, hy0, hy1, hy2⟩ := info_parts infoU8
  have HJ := Lib.hid (And.intro hi (And.intro hy0 (And.intro hy1 hy2)))
  have hnI : (n : Int) ≤ 1000000 := by omega
  have hncI : (n : Int) ≤ (c : Int) := by omega
  have HQ := Lib.hid hq
  have HA := Lib.hid hA
  have HQS := Lib.hid hqs
  have HLEN := Lib.hid hlen
  clear hq hA hqs hlen hi hz0 hz1 hz2 hy0 hy1 hy2
  go_enter Try.func16, Try.ntmps16
  go_wp2_with fail
  go_loopw [5, 6] (fun vm i wr => ∃ (j m : Nat), j ≤ n ∧ m ≤ j ∧ i = .int .i64 (j : Int) ∧ vm = .int .i64 (m : Int) ∧ Hid (m = (putD ds.length ((qs.take j).map dat)).length ∧ RQD wr r lo (ds ++ putD ds.length ((qs.take j).map dat)) ∧ w.grownBy wr (some r))) (fun _ i _ => n - (intOf i).toNat)
  case atStart => exact ⟨0, 0, Nat.zero_le _, Nat.le_refl _, rfl, rfl, by simp [putD], by simpa [putD] using HQ.out, grown_refl _ _⟩
  case round =>
    obtain ⟨j, m, hj, hmj, rfl, rfl, HK⟩ := hrel
    obtain ⟨hm, hqi, hgi⟩ := HK.out
    by_cases hlt : j < n
    · have hltI : (j : Int) < (n : Int) := by omega
      have hjI : (0 : Int) ≤ (j : Int) := by omega
      have hmI : (m : Int) ≤ 1000000 := by omega
      have hm0I : (0 : Int) ≤ (m : Int) := by omega
      obtain ⟨q, hqj⟩ : ∃ q, qs[j]? = some q := ⟨_, List.getElem?_eq_getElem (by have := HLEN.out; omega)⟩
      obtain ⟨ks, hks, hrq⟩ := hqi
      obtain ⟨b, off, rfl, hpb, hbl, hcs⟩ := HA.out.2 (by omega)
      have hrl := hrq.rlo
      have hbr : b ≠ r := by omega
      have c0' : wr.cell? ⟨b, off + j * 2, none⟩ = some (.int .i64 q.k) := hgi.cell (hcs (j * 2) _ (by have := its_get qs j q hqj 0 (by omega); simpa [itC] using this)) (by simp; omega)
      have c1' : wr.cell? ⟨b, off + j * 2 + 1, none⟩ = some (.slice q.A q.n q.c) := hgi.cell (hcs (j * 2 + 1) _ (by have := its_get qs j q hqj 1 (by omega); simpa [itC] using this)) (by simp; omega)
      have hbw : b < wr.heap.size := Nat.lt_of_lt_of_le hbl hgi.size
      have HT : Hid ((qs.take (j + 1)).map dat = (qs.take j).map dat ++ [dat q]) := by show _ = _; rw [take_one qs j q hqj, List.map_append]; rfl
      obtain ⟨hqo, hqn⟩ := HQS.out q (List.mem_of_getElem? hqj)
      have hqw : ItOk wr lo q := hqo.grown hgi (by omega)
      have hql : q.bs.length = q.n := hqo.len
      obtain ⟨A0, c0, hr0, hAt0, hc0⟩ := hrq.row
      obtain ⟨n0, hn0⟩ : ∃ n0, ks.length = n0 := ⟨_, rfl⟩
      have hL : ds.length + (putD ds.length ((qs.take j).map dat)).length = n0 := by rw [← List.length_append, ← hks, List.length_map, hn0]
      rw [hn0] at hr0 hAt0 hc0
      have hn32 : n0 ≤ 32 := by rw [← hn0]; exact hrq.le
      have hn0I : (0 : Int) ≤ (n0 : Int) := by omega
      have hfd : fitD (dat q) = (decide (0 < q.n) && decide (q.n ≤ 116)) := by show (decide (0 < q.bs.length) && decide (q.bs.length ≤ 116)) = _; rw [hql]
      obtain ⟨d, hd⟩ : ∃ d, (decide (0 < q.n) && decide (q.n ≤ 116)) = d := ⟨_, rfl⟩
      have HF44S := Lib.hid (fits_any q.A q.n q.c wr hqn)
      rw [hd] at HF44S hfd
      have HRQ := Lib.hid hrq
      have HKS := Lib.hid hks
      have HGI := Lib.hid hgi
      have HM := Lib.hid hm
      have HN0 := Lib.hid hn0
      have HQW := Lib.hid hqw
      have HAT0 := Lib.hid hAt0
      have HFD := Lib.hid hfd
      have HLL := Lib.hid hL
      clear hcs hqo hqj hqw hrq hks hgi hm hn0 HK hAt0 hd hfd hL
      go_wp2_with fail
      go_at_call 23
      refine HF44S.out.mono ?_
      rintro e w0 ⟨rfl, rfl⟩
      cases d
      · have HNO : Hid (m = (putD ds.length ((qs.take (j + 1)).map dat)).length ∧ RQD w0 r lo (ds ++ putD ds.length ((qs.take (j + 1)).map dat)) ∧ w.grownBy w0 (some r)) := by
          have e : putD ds.length ((qs.take (j + 1)).map dat) = putD ds.length ((qs.take j).map dat) := by
            rw [HT.out]; unfold putD; rw [List.filter_append, List.filter_cons, HFD.out]; simp
          rw [e]
          exact ⟨HM.out, ⟨ks, HKS.out, HRQ.out⟩, HGI.out⟩
        go_wp2_with fail
        refine ⟨⟨j + 1, m, by omega, by omega, by go_num, rfl, HNO⟩, ?_⟩
        simp [intOf]; omega
      · by_cases hfull : n0 = 32
        · subst hfull
          have HNO : Hid (m = (putD ds.length ((qs.take (j + 1)).map dat)).length ∧ RQD w0 r lo (ds ++ putD ds.length ((qs.take (j + 1)).map dat)) ∧ w.grownBy w0 (some r)) := by
            have e : putD ds.length ((qs.take (j + 1)).map dat) = putD ds.length ((qs.take j).map dat) := by
              rw [HT.out]; exact putD_full hd32 HLL.out
            rw [e]
            exact ⟨HM.out, ⟨ks, HKS.out, HRQ.out⟩, HGI.out⟩
          go_wp2_with fail
          refine ⟨⟨j + 1, m, by omega, by omega, by go_num, rfl, HNO⟩, ?_⟩
          simp [intOf]; omega
        · have hn1I : (n0 : Int) < 32 := by omega
          have e1 : putD ds.length ((qs.take (j + 1)).map dat) = putD ds.length ((qs.take j).map dat) ++ [dat q] := by
            rw [HT.out, putD_step (by have := HLL.out; omega), HFD.out]; rfl
          have HM1 : Hid (m + 1 = (putD ds.length ((qs.take (j + 1)).map dat)).length) := by show _ = _; rw [e1, List.length_append, ← HM.out]; rfl
          have hEND : ∀ (A8 : Option Addr) (c8 : Nat) (A9 : Option Addr) (c9 : Nat) (z : World), Below w0.heap.size w0 z → z.ownsRow w0.heap.size 5 1 (.slice A8 q.n c8) q.n (bv q.bs) → q.n ≤ c8 → z.ownsRow w0.heap.size 44 2 (.slice A9 (n0 + 1) c9) (n0 + 1) (its (ks ++ [⟨q.k, A8, q.n, c8, q.bs⟩])) → n0 + 1 ≤ c9 →
              RQD (z.setCell ⟨r, 0, none⟩ (.slice A9 (n0 + 1) c9)) r lo (ds ++ putD ds.length ((qs.take (j + 1)).map dat)) ∧ w.grownBy (z.setCell ⟨r, 0, none⟩ (.slice A9 (n0 + 1) c9)) (some r) := fun A8 c8 A9 c9 z hb hd hc8 ho hc9 =>
            ⟨⟨_, by rw [List.map_append, HKS.out, e1, List.append_assoc]; rfl, HRQ.out.more HN0.out (by omega) q.k q.bs q.n hqn HQW.out.lt A8 c8 A9 c9 hb hd hc8 ho hc9⟩, grown_set (grown_trans HGI.out (grown_of_below r hb)) 0 _⟩
          have HEND := Lib.hid hEND
          have HS : Hid (∀ W, Below w0.heap.size w0 W → W.cell? ⟨b, off + j * 2, none⟩ = some (.int .i64 q.k) ∧ W.cell? ⟨b, off + j * 2 + 1, none⟩ = some (.slice q.A q.n q.c)) := fun W hW => by
            exact ⟨(hW.cell (p := ⟨b, off + j * 2, none⟩) hbw).trans c0', (hW.cell (p := ⟨b, off + j * 2 + 1, none⟩) hbw).trans c1'⟩
          have HSET : Hid (∀ W, Below w0.heap.size w0 W → ∀ v, (W.setCell ⟨r, 0, none⟩ v).cell? ⟨b, off + j * 2, none⟩ = some (.int .i64 q.k) ∧ (W.setCell ⟨r, 0, none⟩ v).cell? ⟨b, off + j * 2 + 1, none⟩ = some (.slice q.A q.n q.c)) := fun W hW v => by
            rw [World.cell?_setCell_other _ _ _ _ (by simp <;> omega), World.cell?_setCell_other _ _ _ _ (by simp <;> omega)]
            exact HS.out W hW
          have HPO : Hid (∀ W, Below w0.heap.size w0 W → W.cell? ⟨r, 0, none⟩ = some (.slice A0 n0 c0)) := fun W hW => (hW.cell (p := ⟨r, 0, none⟩) HRQ.out.lt).trans hr0
          have HFZ : Hid (∀ W, Below w0.heap.size w0 W → W.frozen? ⟨r, 0, none⟩ = false) := fun W hW => (hW.frozen (p := ⟨r, 0, none⟩) HRQ.out.lt).trans HRQ.out.fz
          have HRD : Hid (Rd w0 w0.heap.size A0 (n0 * 2) (its ks)) := HAT0.out.rd
          have HQD : Hid (Rd w0 w0.heap.size q.A (q.n * 1) (bv q.bs)) := by rw [Nat.mul_one]; exact HQW.out.at'.rd
          clear hEND e1 HF44S
          go_wp2_with fail
          clear c0' c1' hr0 HRQ HKS HGI HM HN0 HQW HAT0 HFD HLL HT
          refine wp_region_held_drew (S := (fun W : World => W.cell? ⟨b, off + j * 2, none⟩ = some (.int .i64 q.k) ∧ W.cell? ⟨b, off + j * 2 + 1, none⟩ = some (.slice q.A q.n q.c))) (by kernel_rfl) ?_ (fun hHeld => ?_)
          · exact HS.out _ (Below.refl _ _).drew
          obtain ⟨x, hx⟩ : ∃ z, w0.drew = z := ⟨_, rfl⟩
          have HB_x : Hid (Below w0.heap.size w0 x) := hx ▸ (Below.refl _ _).drew
          rw [hx] at hHeld ⊢
          clear hx
          refine wpAnyH_take (i := 0) (v := ?_) rfl (by kernel_rfl) (by kernel_rfl) (by kernel_rfl) (fun _ _ _ h => h) (Or.inl ⟨by rfl, ?_⟩) (by assumption) ?_
          rotate_left
          · intro w hSw; (try dsimp only at hSw); go_simp; try with_reducible rfl
          go_simp
          refine wpAnyH_take (i := 2) (v := ?_) rfl (by kernel_rfl) (by kernel_rfl) (by kernel_rfl) (fun _ _ _ h => h) (Or.inl ⟨by rfl, ?_⟩) (by assumption) ?_
          rotate_left
          · intro w hSw; (try dsimp only at hSw); go_simp; try with_reducible rfl
          go_simp
          refine wpAnyH_take (i := 3) (v := ?_) rfl (by kernel_rfl) (by kernel_rfl) (by kernel_rfl) (fun _ _ _ h => h) (Or.inl ⟨by rfl, ?_⟩) (by assumption) ?_
          rotate_left
          · intro w hSw; (try dsimp only at hSw); go_simp; try with_reducible rfl
          go_simp
          refine wpAnyH_take (i := 4) (v := ?_) rfl (by kernel_rfl) (by kernel_rfl) (by kernel_rfl) (fun _ _ _ h => h) (Or.inl ⟨by rfl, ?_⟩) (by assumption) ?_
          rotate_left
          · intro w hSw; (try dsimp only at hSw); go_simp; try with_reducible rfl
          go_simp
          refine wpAnyH_take (i := 7) (v := ?_) rfl (by kernel_rfl) (by kernel_rfl) (by kernel_rfl) (fun _ _ _ h => h) (Or.inl ⟨by rfl, ?_⟩) (by assumption) ?_
          rotate_left
          · intro w hSw; (try dsimp only at hSw); go_simp; try with_reducible rfl
          go_simp
          refine wpAnyH_take (i := 8) (v := ?_) rfl (by kernel_rfl) (by kernel_rfl) (by kernel_rfl) (fun _ _ _ h => h) (Or.inl ⟨by rfl, ?_⟩) (by assumption) ?_
          rotate_left
          · intro w hSw; (try dsimp only at hSw); go_simp; try with_reducible rfl
          go_simp
          refine wpAnyH_take (i := 9) (v := ?_) rfl (by kernel_rfl) (by kernel_rfl) (by kernel_rfl) (fun _ _ _ h => h) (Or.inl ⟨by rfl, ?_⟩) (by assumption) ?_
          rotate_left
          · intro w hSw; (try dsimp only at hSw); go_simp; try with_reducible rfl
          go_simp
          refine wpAnyH_take (i := 10) (v := ?_) rfl (by kernel_rfl) (by kernel_rfl) (by kernel_rfl) (fun _ _ _ h => h) (Or.inl ⟨by rfl, ?_⟩) (by assumption) ?_
          rotate_left
          · intro w hSw; (try dsimp only at hSw); go_simp; try with_reducible rfl
          go_simp
          refine wpAnyH_take (i := 11) (v := ?_) rfl (by kernel_rfl) (by kernel_rfl) (by kernel_rfl) (fun _ _ _ h => h) (Or.inl ⟨by rfl, ?_⟩) (by assumption) ?_
          rotate_left
          · intro w hSw; (try dsimp only at hSw); go_simp; try with_reducible rfl
          go_simp
          refine wpAnyH_take (i := 13) (v := ?_) rfl (by kernel_rfl) (by kernel_rfl) (by kernel_rfl) (fun _ _ _ h => h) (Or.inl ⟨by rfl, ?_⟩) (by assumption) ?_
          rotate_left
          · intro w hSw; (try dsimp only at hSw); go_simp; try with_reducible rfl
          go_simp
          refine wpAnyH_take (i := 14) (v := ?_) rfl (by kernel_rfl) (by kernel_rfl) (by kernel_rfl) (fun _ _ _ h => h) (Or.inl ⟨by rfl, ?_⟩) (by assumption) ?_
          rotate_left
          · intro w hSw; (try dsimp only at hSw); go_simp; try with_reducible rfl
          go_simp
          refine wpAnyH_take (i := 15) (v := ?_) rfl (by kernel_rfl) (by kernel_rfl) (by kernel_rfl) (fun _ _ _ h => h) (Or.inl ⟨by rfl, ?_⟩) (by assumption) ?_
          rotate_left
          · intro w hSw; (try dsimp only at hSw); go_simp; try with_reducible rfl
          go_simp
          refine wpAnyH_take (i := 16) (v := ?_) rfl (by kernel_rfl) (by kernel_rfl) (by kernel_rfl) (fun _ _ _ h => h) (Or.inl ⟨by rfl, ?_⟩) (by assumption) ?_
          rotate_left
          · intro w hSw; (try dsimp only at hSw); go_simp; try with_reducible rfl
          go_simp
          refine wpAnyH_take (i := 17) (v := ?_) rfl (by kernel_rfl) (by kernel_rfl) (by kernel_rfl) (fun _ _ _ h => h) (Or.inl ⟨by rfl, ?_⟩) (by assumption) ?_
          rotate_left
          · intro w hSw; (try dsimp only at hSw); go_simp; try with_reducible rfl
          go_simp
          refine wpAnyH_ready (rs := [1, 5, 12]) (by kernel_rfl) (by simp) ?_
          refine AllReadyH.cons rfl (fun K hK => ?_) ?_
          · skip
            go_simp
            have hb := (HB_x.out).alloc HB_x.out.size (.cells #[] 44)
            have he : (World.alloc x (.cells #[] 44)).ownsRow w0.heap.size 44 2 (.slice (some ⟨(World.heap x).size, 0, none⟩) 0 0) 0 [] := own_new x #[] _ 2 0 (World.heap x).size w0.heap.size rfl rfl (by unfold maxLen; omega) HB_x.out.size
            obtain ⟨g1, hg1⟩ : ∃ z, (World.heap x).size = z := ⟨_, rfl⟩
            obtain ⟨xe, hxe⟩ : ∃ z, World.alloc x (.cells #[] 44) = z := ⟨_, rfl⟩
            rw [hxe] at hb he
            rw [hg1] at he
            have HB_xe := Lib.hid hb
            have HE_xe := Lib.hid he
            clear hb he
            first | rw [hg1, hxe] | rw [hxe, hg1] | rw [hxe] | skip
            clear hxe hg1
            refine hK.out _ _ ?_ (fun hHeld => ?_)
            · exact HS.out _ HB_xe.out
            clear hK K
            go_simp
            refine wpAnyH_ready (rs := [5, 12]) (by kernel_rfl) (by simp) ?_
            refine AllReadyH.cons rfl (fun K hK => ?_) ?_
            · skip
              have hcp : World.cell? xe ⟨r, 0, none⟩ = some (.slice A0 n0 c0) := HPO.out _ HB_xe.out
              go_simp
              clear hcp
              refine hK.out _ _ ?_ (fun hHeld => ?_)
              · exact HS.out _ HB_xe.out
              clear hK K
              go_simp
              refine wpAnyH_ready (rs := [6, 12]) (by kernel_rfl) (by simp) ?_
              refine AllReadyH.cons rfl (fun K hK => ?_) ?_
              · skip
                refine step_own rfl (.tmp 28) (.tmp 32) 37 rfl w0.heap.size 44 i0 (.agg #[.int .i64 0, .slice none 0 0]) 2 32 Try.underlying37 HI.out.1 HI.out.2.1 HI.out.2.2.1 HI.out.2.2.2 rfl (by decide) (.slice (some ⟨g1, 0, none⟩) 0 0) 0 [] (by simp [Act.eval, Act.put]) HE_xe.out w0.heap.size A0 n0 c0 (its ks) (by simp [Act.eval, Act.put]) (HRD.out.below HB_xe.out (Nat.le_refl _)) (ones_its _) (by unfold maxLen; omega) (by omega) HB_xe.out.size ?_
                intro v6 xer ho6 hg6
                obtain ⟨A6, c6, e6, _⟩ := own_form ho6
                subst e6
                have HB_xer : Hid (Below w0.heap.size w0 xer) := HB_xe.out.grown hg6 HB_xe.out.size (fun g hg => (HE_xe.out.lt g hg).1)
                have hr6 : World.ownsRow xer w0.heap.size 44 2 (.slice A6 (0 + n0) c6) n0 (its ks) := by simpa using ho6
                simp only [Nat.zero_add] at hr6 ⊢
                have HR_xer := Lib.hid hr6
                clear hr6 ho6 hg6
                refine hK.out _ _ ?_ (fun hHeld => ?_)
                · exact HS.out _ HB_xer.out
                clear hK K
                go_simp
                refine wpAnyH_ready (rs := [12]) (by kernel_rfl) (by simp) ?_
                refine AllReadyH.cons rfl (fun K hK => ?_) AllReadyH.nil
                go_simp
                have hb := (HB_xer.out).alloc HB_xer.out.size (.cells #[] 5)
                have he : (World.alloc xer (.cells #[] 5)).ownsRow w0.heap.size 5 1 (.slice (some ⟨(World.heap xer).size, 0, none⟩) 0 0) 0 [] := own_new xer #[] _ 1 0 (World.heap xer).size w0.heap.size rfl rfl (by unfold maxLen; omega) HB_xer.out.size
                have kR := HR_xer.out.alloc (.cells #[] 5)
                obtain ⟨g3, hg3⟩ : ∃ z, (World.heap xer).size = z := ⟨_, rfl⟩
                obtain ⟨xerf, hxerf⟩ : ∃ z, World.alloc xer (.cells #[] 5) = z := ⟨_, rfl⟩
                rw [hxerf] at hb he
                rw [hg3] at he
                have HB_xerf := Lib.hid hb
                have HF_xerf := Lib.hid he
                clear hb he
                rw [hxerf] at kR
                have HR_xerf := Lib.hid kR
                clear kR
                first | rw [hg3, hxerf] | rw [hxerf, hg3] | rw [hxerf] | skip
                clear hxerf hg3
                refine hK.out _ _ ?_ (fun hHeld => ?_)
                · exact HS.out _ HB_xerf.out
                clear hK K
                go_simp
                refine wpAnyH_ready (rs := [18]) (by kernel_rfl) (by simp) ?_
                refine AllReadyH.cons rfl (fun K hK => ?_) AllReadyH.nil
                refine step_own rfl (.tmp 39) (.tmp 44) 22 rfl w0.heap.size 5 i1 (.int .u8 0) 1 1 Try.underlying22 HJ.out.1 HJ.out.2.1 HJ.out.2.2.1 HJ.out.2.2.2 rfl (by decide) (.slice (some ⟨g3, 0, none⟩) 0 0) 0 [] (by simp [Act.eval, Act.put]) HF_xerf.out w0.heap.size q.A q.n q.c (bv q.bs) (by simp [Act.eval, Act.put]) (HQD.out.below HB_xerf.out (Nat.le_refl _)) (ones_bv _) (by unfold maxLen; omega) (by omega) HB_xerf.out.size ?_
                intro v8 xerfd ho8 hg8
                obtain ⟨A8, c8, e8, hc8, _⟩ := own_form ho8
                subst e8
                have HB_xerfd : Hid (Below w0.heap.size w0 xerfd) := HB_xerf.out.grown hg8 HB_xerf.out.size (fun g hg => (HF_xerf.out.lt g hg).1)
                have hr8 : World.ownsRow xerfd w0.heap.size 5 1 (.slice A8 (0 + q.n) c8) q.n (bv q.bs) := by simpa using ho8
                simp only [Nat.zero_add] at hr8 hc8 ⊢
                have HD_xerfd := Lib.hid hr8
                have HR_xerfd := Lib.hid (own_apart HF_xerf.out HR_xerf.out (by decide) hg8)
                clear hr8 ho8 hg8
                refine hK.out _ _ ?_ (fun hHeld => ?_)
                · exact HS.out _ HB_xerfd.out
                clear hK K
                go_simp
                refine wpAnyH_take (i := 19) (v := ?_) rfl (by kernel_rfl) (by kernel_rfl) (by kernel_rfl) (fun _ _ _ h => h) (Or.inl ⟨by rfl, ?_⟩) (by assumption) ?_
                rotate_left
                · intro w hSw; (try dsimp only at hSw); go_simp; try with_reducible rfl
                go_simp
                refine wpAnyH_ready (rs := [20]) (by kernel_rfl) (by simp) ?_
                refine AllReadyH.cons rfl (fun K hK => ?_) AllReadyH.nil
                go_simp
                have hb := (HB_xerfd.out).alloc HB_xerfd.out.size (.cells #[.int .i64 q.k, .slice A8 q.n c8] 44)
                have hp := rd_new xerfd #[.int .i64 q.k, .slice A8 q.n c8] 44 (World.heap xerfd).size ((World.heap xerfd).size + 1) (1 * 2) (its [⟨q.k, A8, q.n, c8, q.bs⟩]) rfl (Nat.lt_succ_self _) rfl rfl
                have kR := HR_xerfd.out.alloc (.cells #[.int .i64 q.k, .slice A8 q.n c8] 44)
                have kD := HD_xerfd.out.alloc (.cells #[.int .i64 q.k, .slice A8 q.n c8] 44)
                obtain ⟨g4, hg4⟩ : ∃ z, (World.heap xerfd).size = z := ⟨_, rfl⟩
                obtain ⟨y, hy⟩ : ∃ z, World.alloc xerfd (.cells #[.int .i64 q.k, .slice A8 q.n c8] 44) = z := ⟨_, rfl⟩
                rw [hy] at hb hp kR kD
                rw [hg4] at hp
                have HB_y := Lib.hid hb
                have HP_y := Lib.hid hp
                have HR_y := Lib.hid kR
                have HD_y := Lib.hid kD
                clear hb hp kR kD
                first | rw [hg4, hy] | rw [hy, hg4] | rw [hy] | skip
                clear hy hg4
                refine hK.out _ _ ?_ (fun hHeld => ?_)
                · exact HS.out _ HB_y.out
                clear hK K
                go_simp
                refine wpAnyH_ready (rs := [21]) (by kernel_rfl) (by simp) ?_
                refine AllReadyH.cons rfl (fun K hK => ?_) AllReadyH.nil
                refine step_own rfl (.tmp 33) (.tmp 47) 37 rfl w0.heap.size 44 i0 (.agg #[.int .i64 0, .slice none 0 0]) 2 32 Try.underlying37 HI.out.1 HI.out.2.1 HI.out.2.2.1 HI.out.2.2.2 rfl (by decide) (.slice A6 n0 c6) n0 (its ks) (by simp [Act.eval, Act.put]) HR_y.out (g4 + 1) (some ⟨g4, 0, none⟩) 1 1 (its [⟨q.k, A8, q.n, c8, q.bs⟩]) (by simp [Act.eval, Act.put]) HP_y.out (ones_its _) (by unfold maxLen; omega) (by omega) HB_y.out.size ?_
                intro v9 z ho9 hg9
                rw [← its_app] at ho9
                obtain ⟨A9, c9, e9, hc9, _⟩ := own_form ho9
                subst e9
                have HB_z : Hid (Below w0.heap.size w0 z) := HB_y.out.grown hg9 HB_y.out.size (fun g hg => (HR_y.out.lt g hg).1)
                have HD_z := Lib.hid (own_apart HR_y.out HD_y.out (by decide) hg9)
                have HO9 := Lib.hid ho9
                have hfz : World.frozen? z ⟨r, 0, none⟩ = false := HFZ.out _ HB_z.out
                have hcz : World.cell? z ⟨r, 0, none⟩ = some (.slice A0 n0 c0) := HPO.out _ HB_z.out
                clear ho9 hg9
                refine hK.out _ _ ?_ (fun hHeld => ?_)
                · exact HS.out _ HB_z.out
                clear hK K
                go_simp
                refine wpAnyH_take (i := 22) (v := ?_) rfl (by kernel_rfl) (by kernel_rfl) (by kernel_rfl) (fun _ _ _ h => h) (Or.inl ⟨by rfl, ?_⟩) (by assumption) ?_
                rotate_left
                · intro w hSw; (try dsimp only at hSw); go_simp; try with_reducible rfl
                go_simp
                refine wpAnyH_take (i := 23) (v := ?_) rfl (by kernel_rfl) (by kernel_rfl) (by kernel_rfl) (fun _ _ _ h => h) (Or.inl ⟨by rfl, ?_⟩) (by assumption) ?_
                rotate_left
                · intro w hSw; (try dsimp only at hSw); go_simp; try with_reducible rfl
                go_simp
                refine wpAnyH_ready (rs := [24]) (by kernel_rfl) (by simp) ?_
                refine AllReadyH.cons rfl (fun K hK => ?_) AllReadyH.nil
                go_simp
                refine hK.out _ _ ?_ (fun hHeld => ?_)
                · exact HSET.out _ HB_z.out _
                clear hK K
                go_simp
                refine wpAnyH_done (by kernel_rfl) ?_ _
                have HF : Hid (RQD (z.setCell ⟨r, 0, none⟩ (.slice A9 (n0 + 1) c9)) r lo (ds ++ putD ds.length ((qs.take (j + 1)).map dat)) ∧ w.grownBy (z.setCell ⟨r, 0, none⟩ (.slice A9 (n0 + 1) c9)) (some r)) := HEND.out A8 c8 A9 c9 z HB_z.out HD_z.out hc8 HO9.out hc9
                clear HB_z HD_z HO9
                go_wp2_with fail
                refine ⟨⟨j + 1, m + 1, by omega, by omega, by go_num, by go_num, HM1.out, HF.out.1, HF.out.2⟩, ?_⟩
                simp [intOf]; omega
              refine AllReadyH.cons rfl (fun K hK => ?_) ?_
              · skip
                go_simp
                have hb := (HB_xe.out).alloc HB_xe.out.size (.cells #[] 5)
                have he : (World.alloc xe (.cells #[] 5)).ownsRow w0.heap.size 5 1 (.slice (some ⟨(World.heap xe).size, 0, none⟩) 0 0) 0 [] := own_new xe #[] _ 1 0 (World.heap xe).size w0.heap.size rfl rfl (by unfold maxLen; omega) HB_xe.out.size
                have kE := HE_xe.out.alloc (.cells #[] 5)
                obtain ⟨g3, hg3⟩ : ∃ z, (World.heap xe).size = z := ⟨_, rfl⟩
                obtain ⟨xef, hxef⟩ : ∃ z, World.alloc xe (.cells #[] 5) = z := ⟨_, rfl⟩
                rw [hxef] at hb he
                rw [hg3] at he
                have HB_xef := Lib.hid hb
                have HF_xef := Lib.hid he
                clear hb he
                rw [hxef] at kE
                have HE_xef := Lib.hid kE
                clear kE
                first | rw [hg3, hxef] | rw [hxef, hg3] | rw [hxef] | skip
                clear hxef hg3
                refine hK.out _ _ ?_ (fun hHeld => ?_)
                · exact HS.out _ HB_xef.out
                clear hK K
                go_simp
                refine wpAnyH_ready (rs := [6]) (by kernel_rfl) (by simp) ?_
                refine AllReadyH.cons rfl (fun K hK => ?_) AllReadyH.nil
                refine step_own rfl (.tmp 28) (.tmp 32) 37 rfl w0.heap.size 44 i0 (.agg #[.int .i64 0, .slice none 0 0]) 2 32 Try.underlying37 HI.out.1 HI.out.2.1 HI.out.2.2.1 HI.out.2.2.2 rfl (by decide) (.slice (some ⟨g1, 0, none⟩) 0 0) 0 [] (by simp [Act.eval, Act.put]) HE_xef.out w0.heap.size A0 n0 c0 (its ks) (by simp [Act.eval, Act.put]) (HRD.out.below HB_xef.out (Nat.le_refl _)) (ones_its _) (by unfold maxLen; omega) (by omega) HB_xef.out.size ?_
                intro v6 xefr ho6 hg6
                obtain ⟨A6, c6, e6, _⟩ := own_form ho6
                subst e6
                have HB_xefr : Hid (Below w0.heap.size w0 xefr) := HB_xef.out.grown hg6 HB_xef.out.size (fun g hg => (HE_xef.out.lt g hg).1)
                have hr6 : World.ownsRow xefr w0.heap.size 44 2 (.slice A6 (0 + n0) c6) n0 (its ks) := by simpa using ho6
                simp only [Nat.zero_add] at hr6 ⊢
                have HR_xefr := Lib.hid hr6
                have HF_xefr := Lib.hid (own_apart HE_xef.out HF_xef.out (by decide) hg6)
                clear hr6 ho6 hg6
                refine hK.out _ _ ?_ (fun hHeld => ?_)
                · exact HS.out _ HB_xefr.out
                clear hK K
                go_simp
                refine wpAnyH_ready (rs := [18]) (by kernel_rfl) (by simp) ?_
                refine AllReadyH.cons rfl (fun K hK => ?_) AllReadyH.nil
                refine step_own rfl (.tmp 39) (.tmp 44) 22 rfl w0.heap.size 5 i1 (.int .u8 0) 1 1 Try.underlying22 HJ.out.1 HJ.out.2.1 HJ.out.2.2.1 HJ.out.2.2.2 rfl (by decide) (.slice (some ⟨g3, 0, none⟩) 0 0) 0 [] (by simp [Act.eval, Act.put]) HF_xefr.out w0.heap.size q.A q.n q.c (bv q.bs) (by simp [Act.eval, Act.put]) (HQD.out.below HB_xefr.out (Nat.le_refl _)) (ones_bv _) (by unfold maxLen; omega) (by omega) HB_xefr.out.size ?_
                intro v8 xefrd ho8 hg8
                obtain ⟨A8, c8, e8, hc8, _⟩ := own_form ho8
                subst e8
                have HB_xefrd : Hid (Below w0.heap.size w0 xefrd) := HB_xefr.out.grown hg8 HB_xefr.out.size (fun g hg => (HF_xefr.out.lt g hg).1)
                have hr8 : World.ownsRow xefrd w0.heap.size 5 1 (.slice A8 (0 + q.n) c8) q.n (bv q.bs) := by simpa using ho8
                simp only [Nat.zero_add] at hr8 hc8 ⊢
                have HD_xefrd := Lib.hid hr8
                have HR_xefrd := Lib.hid (own_apart HF_xefr.out HR_xefr.out (by decide) hg8)
                clear hr8 ho8 hg8
                refine hK.out _ _ ?_ (fun hHeld => ?_)
                · exact HS.out _ HB_xefrd.out
                clear hK K
                go_simp
                refine wpAnyH_take (i := 19) (v := ?_) rfl (by kernel_rfl) (by kernel_rfl) (by kernel_rfl) (fun _ _ _ h => h) (Or.inl ⟨by rfl, ?_⟩) (by assumption) ?_
                rotate_left
                · intro w hSw; (try dsimp only at hSw); go_simp; try with_reducible rfl
                go_simp
                refine wpAnyH_ready (rs := [20]) (by kernel_rfl) (by simp) ?_
                refine AllReadyH.cons rfl (fun K hK => ?_) AllReadyH.nil
                go_simp
                have hb := (HB_xefrd.out).alloc HB_xefrd.out.size (.cells #[.int .i64 q.k, .slice A8 q.n c8] 44)
                have hp := rd_new xefrd #[.int .i64 q.k, .slice A8 q.n c8] 44 (World.heap xefrd).size ((World.heap xefrd).size + 1) (1 * 2) (its [⟨q.k, A8, q.n, c8, q.bs⟩]) rfl (Nat.lt_succ_self _) rfl rfl
                have kR := HR_xefrd.out.alloc (.cells #[.int .i64 q.k, .slice A8 q.n c8] 44)
                have kD := HD_xefrd.out.alloc (.cells #[.int .i64 q.k, .slice A8 q.n c8] 44)
                obtain ⟨g4, hg4⟩ : ∃ z, (World.heap xefrd).size = z := ⟨_, rfl⟩
                obtain ⟨y, hy⟩ : ∃ z, World.alloc xefrd (.cells #[.int .i64 q.k, .slice A8 q.n c8] 44) = z := ⟨_, rfl⟩
                rw [hy] at hb hp kR kD
                rw [hg4] at hp
                have HB_y := Lib.hid hb
                have HP_y := Lib.hid hp
                have HR_y := Lib.hid kR
                have HD_y := Lib.hid kD
                clear hb hp kR kD
                first | rw [hg4, hy] | rw [hy, hg4] | rw [hy] | skip
                clear hy hg4
                refine hK.out _ _ ?_ (fun hHeld => ?_)
                · exact HS.out _ HB_y.out
                clear hK K
                go_simp
                refine wpAnyH_ready (rs := [21]) (by kernel_rfl) (by simp) ?_
                refine AllReadyH.cons rfl (fun K hK => ?_) AllReadyH.nil
                refine step_own rfl (.tmp 33) (.tmp 47) 37 rfl w0.heap.size 44 i0 (.agg #[.int .i64 0, .slice none 0 0]) 2 32 Try.underlying37 HI.out.1 HI.out.2.1 HI.out.2.2.1 HI.out.2.2.2 rfl (by decide) (.slice A6 n0 c6) n0 (its ks) (by simp [Act.eval, Act.put]) HR_y.out (g4 + 1) (some ⟨g4, 0, none⟩) 1 1 (its [⟨q.k, A8, q.n, c8, q.bs⟩]) (by simp [Act.eval, Act.put]) HP_y.out (ones_its _) (by unfold maxLen; omega) (by omega) HB_y.out.size ?_
                intro v9 z ho9 hg9
                rw [← its_app] at ho9
                obtain ⟨A9, c9, e9, hc9, _⟩ := own_form ho9
                subst e9
                have HB_z : Hid (Below w0.heap.size w0 z) := HB_y.out.grown hg9 HB_y.out.size (fun g hg => (HR_y.out.lt g hg).1)
                have HD_z := Lib.hid (own_apart HR_y.out HD_y.out (by decide) hg9)
                have HO9 := Lib.hid ho9
                have hfz : World.frozen? z ⟨r, 0, none⟩ = false := HFZ.out _ HB_z.out
                have hcz : World.cell? z ⟨r, 0, none⟩ = some (.slice A0 n0 c0) := HPO.out _ HB_z.out
                clear ho9 hg9
                refine hK.out _ _ ?_ (fun hHeld => ?_)
                · exact HS.out _ HB_z.out
                clear hK K
                go_simp
                refine wpAnyH_take (i := 22) (v := ?_) rfl (by kernel_rfl) (by kernel_rfl) (by kernel_rfl) (fun _ _ _ h => h) (Or.inl ⟨by rfl, ?_⟩) (by assumption) ?_
                rotate_left
                · intro w hSw; (try dsimp only at hSw); go_simp; try with_reducible rfl
                go_simp
                refine wpAnyH_take (i := 23) (v := ?_) rfl (by kernel_rfl) (by kernel_rfl) (by kernel_rfl) (fun _ _ _ h => h) (Or.inl ⟨by rfl, ?_⟩) (by assumption) ?_
                rotate_left
                · intro w hSw; (try dsimp only at hSw); go_simp; try with_reducible rfl
                go_simp
                refine wpAnyH_ready (rs := [24]) (by kernel_rfl) (by simp) ?_
                refine AllReadyH.cons rfl (fun K hK => ?_) AllReadyH.nil
                go_simp
                refine hK.out _ _ ?_ (fun hHeld => ?_)
                · exact HSET.out _ HB_z.out _
                clear hK K
                go_simp
                refine wpAnyH_done (by kernel_rfl) ?_ _
                have HF : Hid (RQD (z.setCell ⟨r, 0, none⟩ (.slice A9 (n0 + 1) c9)) r lo (ds ++ putD ds.length ((qs.take (j + 1)).map dat)) ∧ w.grownBy (z.setCell ⟨r, 0, none⟩ (.slice A9 (n0 + 1) c9)) (some r)) := HEND.out A8 c8 A9 c9 z HB_z.out HD_z.out hc8 HO9.out hc9
                clear HB_z HD_z HO9
                go_wp2_with fail
                refine ⟨⟨j + 1, m + 1, by omega, by omega, by go_num, by go_num, HM1.out, HF.out.1, HF.out.2⟩, ?_⟩
                simp [intOf]; omega
              exact AllReadyH.nil
            refine AllReadyH.cons rfl (fun K hK => ?_) ?_
            · skip
              go_simp
              have hb := (HB_xe.out).alloc HB_xe.out.size (.cells #[] 5)
              have he : (World.alloc xe (.cells #[] 5)).ownsRow w0.heap.size 5 1 (.slice (some ⟨(World.heap xe).size, 0, none⟩) 0 0) 0 [] := own_new xe #[] _ 1 0 (World.heap xe).size w0.heap.size rfl rfl (by unfold maxLen; omega) HB_xe.out.size
              have kE := HE_xe.out.alloc (.cells #[] 5)
              obtain ⟨g3, hg3⟩ : ∃ z, (World.heap xe).size = z := ⟨_, rfl⟩
              obtain ⟨xef, hxef⟩ : ∃ z, World.alloc xe (.cells #[] 5) = z := ⟨_, rfl⟩
              rw [hxef] at hb he
              rw [hg3] at he
              have HB_xef := Lib.hid hb
              have HF_xef := Lib.hid he
              clear hb he
              rw [hxef] at kE
              have HE_xef := Lib.hid kE
              clear kE
              first | rw [hg3, hxef] | rw [hxef, hg3] | rw [hxef] | skip
              clear hxef hg3
              refine hK.out _ _ ?_ (fun hHeld => ?_)
              · exact HS.out _ HB_xef.out
              clear hK K
              go_simp
              refine wpAnyH_ready (rs := [5]) (by kernel_rfl) (by simp) ?_
              refine AllReadyH.cons rfl (fun K hK => ?_) AllReadyH.nil
              have hcp : World.cell? xef ⟨r, 0, none⟩ = some (.slice A0 n0 c0) := HPO.out _ HB_xef.out
              go_simp
              clear hcp
              refine hK.out _ _ ?_ (fun hHeld => ?_)
              · exact HS.out _ HB_xef.out
              clear hK K
              go_simp
              refine wpAnyH_ready (rs := [6]) (by kernel_rfl) (by simp) ?_
              refine AllReadyH.cons rfl (fun K hK => ?_) AllReadyH.nil
              refine step_own rfl (.tmp 28) (.tmp 32) 37 rfl w0.heap.size 44 i0 (.agg #[.int .i64 0, .slice none 0 0]) 2 32 Try.underlying37 HI.out.1 HI.out.2.1 HI.out.2.2.1 HI.out.2.2.2 rfl (by decide) (.slice (some ⟨g1, 0, none⟩) 0 0) 0 [] (by simp [Act.eval, Act.put]) HE_xef.out w0.heap.size A0 n0 c0 (its ks) (by simp [Act.eval, Act.put]) (HRD.out.below HB_xef.out (Nat.le_refl _)) (ones_its _) (by unfold maxLen; omega) (by omega) HB_xef.out.size ?_
              intro v6 xefr ho6 hg6
              obtain ⟨A6, c6, e6, _⟩ := own_form ho6
              subst e6
              have HB_xefr : Hid (Below w0.heap.size w0 xefr) := HB_xef.out.grown hg6 HB_xef.out.size (fun g hg => (HE_xef.out.lt g hg).1)
              have hr6 : World.ownsRow xefr w0.heap.size 44 2 (.slice A6 (0 + n0) c6) n0 (its ks) := by simpa using ho6
              simp only [Nat.zero_add] at hr6 ⊢
              have HR_xefr := Lib.hid hr6
              have HF_xefr := Lib.hid (own_apart HE_xef.out HF_xef.out (by decide) hg6)
              clear hr6 ho6 hg6
              refine hK.out _ _ ?_ (fun hHeld => ?_)
              · exact HS.out _ HB_xefr.out
              clear hK K
              go_simp
              refine wpAnyH_ready (rs := [18]) (by kernel_rfl) (by simp) ?_
              refine AllReadyH.cons rfl (fun K hK => ?_) AllReadyH.nil
              refine step_own rfl (.tmp 39) (.tmp 44) 22 rfl w0.heap.size 5 i1 (.int .u8 0) 1 1 Try.underlying22 HJ.out.1 HJ.out.2.1 HJ.out.2.2.1 HJ.out.2.2.2 rfl (by decide) (.slice (some ⟨g3, 0, none⟩) 0 0) 0 [] (by simp [Act.eval, Act.put]) HF_xefr.out w0.heap.size q.A q.n q.c (bv q.bs) (by simp [Act.eval, Act.put]) (HQD.out.below HB_xefr.out (Nat.le_refl _)) (ones_bv _) (by unfold maxLen; omega) (by omega) HB_xefr.out.size ?_
              intro v8 xefrd ho8 hg8
              obtain ⟨A8, c8, e8, hc8, _⟩ := own_form ho8
              subst e8
              have HB_xefrd : Hid (Below w0.heap.size w0 xefrd) := HB_xefr.out.grown hg8 HB_xefr.out.size (fun g hg => (HF_xefr.out.lt g hg).1)
              have hr8 : World.ownsRow xefrd w0.heap.size 5 1 (.slice A8 (0 + q.n) c8) q.n (bv q.bs) := by simpa using ho8
              simp only [Nat.zero_add] at hr8 hc8 ⊢
              have HD_xefrd := Lib.hid hr8
              have HR_xefrd := Lib.hid (own_apart HF_xefr.out HR_xefr.out (by decide) hg8)
              clear hr8 ho8 hg8
              refine hK.out _ _ ?_ (fun hHeld => ?_)
              · exact HS.out _ HB_xefrd.out
              clear hK K
              go_simp
              refine wpAnyH_take (i := 19) (v := ?_) rfl (by kernel_rfl) (by kernel_rfl) (by kernel_rfl) (fun _ _ _ h => h) (Or.inl ⟨by rfl, ?_⟩) (by assumption) ?_
              rotate_left
              · intro w hSw; (try dsimp only at hSw); go_simp; try with_reducible rfl
              go_simp
              refine wpAnyH_ready (rs := [20]) (by kernel_rfl) (by simp) ?_
              refine AllReadyH.cons rfl (fun K hK => ?_) AllReadyH.nil
              go_simp
              have hb := (HB_xefrd.out).alloc HB_xefrd.out.size (.cells #[.int .i64 q.k, .slice A8 q.n c8] 44)
              have hp := rd_new xefrd #[.int .i64 q.k, .slice A8 q.n c8] 44 (World.heap xefrd).size ((World.heap xefrd).size + 1) (1 * 2) (its [⟨q.k, A8, q.n, c8, q.bs⟩]) rfl (Nat.lt_succ_self _) rfl rfl
              have kR := HR_xefrd.out.alloc (.cells #[.int .i64 q.k, .slice A8 q.n c8] 44)
              have kD := HD_xefrd.out.alloc (.cells #[.int .i64 q.k, .slice A8 q.n c8] 44)
              obtain ⟨g4, hg4⟩ : ∃ z, (World.heap xefrd).size = z := ⟨_, rfl⟩
              obtain ⟨y, hy⟩ : ∃ z, World.alloc xefrd (.cells #[.int .i64 q.k, .slice A8 q.n c8] 44) = z := ⟨_, rfl⟩
              rw [hy] at hb hp kR kD
              rw [hg4] at hp
              have HB_y := Lib.hid hb
              have HP_y := Lib.hid hp
              have HR_y := Lib.hid kR
              have HD_y := Lib.hid kD
              clear hb hp kR kD
              first | rw [hg4, hy] | rw [hy, hg4] | rw [hy] | skip
              clear hy hg4
              refine hK.out _ _ ?_ (fun hHeld => ?_)
              · exact HS.out _ HB_y.out
              clear hK K
              go_simp
              refine wpAnyH_ready (rs := [21]) (by kernel_rfl) (by simp) ?_
              refine AllReadyH.cons rfl (fun K hK => ?_) AllReadyH.nil
              refine step_own rfl (.tmp 33) (.tmp 47) 37 rfl w0.heap.size 44 i0 (.agg #[.int .i64 0, .slice none 0 0]) 2 32 Try.underlying37 HI.out.1 HI.out.2.1 HI.out.2.2.1 HI.out.2.2.2 rfl (by decide) (.slice A6 n0 c6) n0 (its ks) (by simp [Act.eval, Act.put]) HR_y.out (g4 + 1) (some ⟨g4, 0, none⟩) 1 1 (its [⟨q.k, A8, q.n, c8, q.bs⟩]) (by simp [Act.eval, Act.put]) HP_y.out (ones_its _) (by unfold maxLen; omega) (by omega) HB_y.out.size ?_
              intro v9 z ho9 hg9
              rw [← its_app] at ho9
              obtain ⟨A9, c9, e9, hc9, _⟩ := own_form ho9
              subst e9
              have HB_z : Hid (Below w0.heap.size w0 z) := HB_y.out.grown hg9 HB_y.out.size (fun g hg => (HR_y.out.lt g hg).1)
              have HD_z := Lib.hid (own_apart HR_y.out HD_y.out (by decide) hg9)
              have HO9 := Lib.hid ho9
              have hfz : World.frozen? z ⟨r, 0, none⟩ = false := HFZ.out _ HB_z.out
              have hcz : World.cell? z ⟨r, 0, none⟩ = some (.slice A0 n0 c0) := HPO.out _ HB_z.out
              clear ho9 hg9
              refine hK.out _ _ ?_ (fun hHeld => ?_)
              · exact HS.out _ HB_z.out
              clear hK K
              go_simp
              refine wpAnyH_take (i := 22) (v := ?_) rfl (by kernel_rfl) (by kernel_rfl) (by kernel_rfl) (fun _ _ _ h => h) (Or.inl ⟨by rfl, ?_⟩) (by assumption) ?_
              rotate_left
              · intro w hSw; (try dsimp only at hSw); go_simp; try with_reducible rfl
              go_simp
              refine wpAnyH_take (i := 23) (v := ?_) rfl (by kernel_rfl) (by kernel_rfl) (by kernel_rfl) (fun _ _ _ h => h) (Or.inl ⟨by rfl, ?_⟩) (by assumption) ?_
              rotate_left
              · intro w hSw; (try dsimp only at hSw); go_simp; try with_reducible rfl
              go_simp
              refine wpAnyH_ready (rs := [24]) (by kernel_rfl) (by simp) ?_
              refine AllReadyH.cons rfl (fun K hK => ?_) AllReadyH.nil
              go_simp
              refine hK.out _ _ ?_ (fun hHeld => ?_)
              · exact HSET.out _ HB_z.out _
              clear hK K
              go_simp
              refine wpAnyH_done (by kernel_rfl) ?_ _
              have HF : Hid (RQD (z.setCell ⟨r, 0, none⟩ (.slice A9 (n0 + 1) c9)) r lo (ds ++ putD ds.length ((qs.take (j + 1)).map dat)) ∧ w.grownBy (z.setCell ⟨r, 0, none⟩ (.slice A9 (n0 + 1) c9)) (some r)) := HEND.out A8 c8 A9 c9 z HB_z.out HD_z.out hc8 HO9.out hc9
              clear HB_z HD_z HO9
              go_wp2_with fail
              refine ⟨⟨j + 1, m + 1, by omega, by omega, by go_num, by go_num, HM1.out, HF.out.1, HF.out.2⟩, ?_⟩
              simp [intOf]; omega
            exact AllReadyH.nil
          refine AllReadyH.cons rfl (fun K hK => ?_) ?_
          · skip
            have hcp : World.cell? x ⟨r, 0, none⟩ = some (.slice A0 n0 c0) := HPO.out _ HB_x.out
            go_simp
            clear hcp
            refine hK.out _ _ ?_ (fun hHeld => ?_)
            · exact HS.out _ HB_x.out
            clear hK K
            go_simp
            refine wpAnyH_ready (rs := [1, 12]) (by kernel_rfl) (by simp) ?_
            refine AllReadyH.cons rfl (fun K hK => ?_) ?_
            · skip
              go_simp
              have hb := (HB_x.out).alloc HB_x.out.size (.cells #[] 44)
              have he : (World.alloc x (.cells #[] 44)).ownsRow w0.heap.size 44 2 (.slice (some ⟨(World.heap x).size, 0, none⟩) 0 0) 0 [] := own_new x #[] _ 2 0 (World.heap x).size w0.heap.size rfl rfl (by unfold maxLen; omega) HB_x.out.size
              obtain ⟨g1, hg1⟩ : ∃ z, (World.heap x).size = z := ⟨_, rfl⟩
              obtain ⟨xe, hxe⟩ : ∃ z, World.alloc x (.cells #[] 44) = z := ⟨_, rfl⟩
              rw [hxe] at hb he
              rw [hg1] at he
              have HB_xe := Lib.hid hb
              have HE_xe := Lib.hid he
              clear hb he
              first | rw [hg1, hxe] | rw [hxe, hg1] | rw [hxe] | skip
              clear hxe hg1
              refine hK.out _ _ ?_ (fun hHeld => ?_)
              · exact HS.out _ HB_xe.out
              clear hK K
              go_simp
              refine wpAnyH_ready (rs := [6, 12]) (by kernel_rfl) (by simp) ?_
              refine AllReadyH.cons rfl (fun K hK => ?_) ?_
              · skip
                refine step_own rfl (.tmp 28) (.tmp 32) 37 rfl w0.heap.size 44 i0 (.agg #[.int .i64 0, .slice none 0 0]) 2 32 Try.underlying37 HI.out.1 HI.out.2.1 HI.out.2.2.1 HI.out.2.2.2 rfl (by decide) (.slice (some ⟨g1, 0, none⟩) 0 0) 0 [] (by simp [Act.eval, Act.put]) HE_xe.out w0.heap.size A0 n0 c0 (its ks) (by simp [Act.eval, Act.put]) (HRD.out.below HB_xe.out (Nat.le_refl _)) (ones_its _) (by unfold maxLen; omega) (by omega) HB_xe.out.size ?_
                intro v6 xer ho6 hg6
                obtain ⟨A6, c6, e6, _⟩ := own_form ho6
                subst e6
                have HB_xer : Hid (Below w0.heap.size w0 xer) := HB_xe.out.grown hg6 HB_xe.out.size (fun g hg => (HE_xe.out.lt g hg).1)
                have hr6 : World.ownsRow xer w0.heap.size 44 2 (.slice A6 (0 + n0) c6) n0 (its ks) := by simpa using ho6
                simp only [Nat.zero_add] at hr6 ⊢
                have HR_xer := Lib.hid hr6
                clear hr6 ho6 hg6
                refine hK.out _ _ ?_ (fun hHeld => ?_)
                · exact HS.out _ HB_xer.out
                clear hK K
                go_simp
                refine wpAnyH_ready (rs := [12]) (by kernel_rfl) (by simp) ?_
                refine AllReadyH.cons rfl (fun K hK => ?_) AllReadyH.nil
                go_simp
                have hb := (HB_xer.out).alloc HB_xer.out.size (.cells #[] 5)
                have he : (World.alloc xer (.cells #[] 5)).ownsRow w0.heap.size 5 1 (.slice (some ⟨(World.heap xer).size, 0, none⟩) 0 0) 0 [] := own_new xer #[] _ 1 0 (World.heap xer).size w0.heap.size rfl rfl (by unfold maxLen; omega) HB_xer.out.size
                have kR := HR_xer.out.alloc (.cells #[] 5)
                obtain ⟨g3, hg3⟩ : ∃ z, (World.heap xer).size = z := ⟨_, rfl⟩
                obtain ⟨xerf, hxerf⟩ : ∃ z, World.alloc xer (.cells #[] 5) = z := ⟨_, rfl⟩
                rw [hxerf] at hb he
                rw [hg3] at he
                have HB_xerf := Lib.hid hb
                have HF_xerf := Lib.hid he
                clear hb he
                rw [hxerf] at kR
                have HR_xerf := Lib.hid kR
                clear kR
                first | rw [hg3, hxerf] | rw [hxerf, hg3] | rw [hxerf] | skip
                clear hxerf hg3
                refine hK.out _ _ ?_ (fun hHeld => ?_)
                · exact HS.out _ HB_xerf.out
                clear hK K
                go_simp
                refine wpAnyH_ready (rs := [18]) (by kernel_rfl) (by simp) ?_
                refine AllReadyH.cons rfl (fun K hK => ?_) AllReadyH.nil
                refine step_own rfl (.tmp 39) (.tmp 44) 22 rfl w0.heap.size 5 i1 (.int .u8 0) 1 1 Try.underlying22 HJ.out.1 HJ.out.2.1 HJ.out.2.2.1 HJ.out.2.2.2 rfl (by decide) (.slice (some ⟨g3, 0, none⟩) 0 0) 0 [] (by simp [Act.eval, Act.put]) HF_xerf.out w0.heap.size q.A q.n q.c (bv q.bs) (by simp [Act.eval, Act.put]) (HQD.out.below HB_xerf.out (Nat.le_refl _)) (ones_bv _) (by unfold maxLen; omega) (by omega) HB_xerf.out.size ?_
                intro v8 xerfd ho8 hg8
                obtain ⟨A8, c8, e8, hc8, _⟩ := own_form ho8
                subst e8
                have HB_xerfd : Hid (Below w0.heap.size w0 xerfd) := HB_xerf.out.grown hg8 HB_xerf.out.size (fun g hg => (HF_xerf.out.lt g hg).1)
                have hr8 : World.ownsRow xerfd w0.heap.size 5 1 (.slice A8 (0 + q.n) c8) q.n (bv q.bs) := by simpa using ho8
                simp only [Nat.zero_add] at hr8 hc8 ⊢
                have HD_xerfd := Lib.hid hr8
                have HR_xerfd := Lib.hid (own_apart HF_xerf.out HR_xerf.out (by decide) hg8)
                clear hr8 ho8 hg8
                refine hK.out _ _ ?_ (fun hHeld => ?_)
                · exact HS.out _ HB_xerfd.out
                clear hK K
                go_simp
                refine wpAnyH_take (i := 19) (v := ?_) rfl (by kernel_rfl) (by kernel_rfl) (by kernel_rfl) (fun _ _ _ h => h) (Or.inl ⟨by rfl, ?_⟩) (by assumption) ?_
                rotate_left
                · intro w hSw; (try dsimp only at hSw); go_simp; try with_reducible rfl
                go_simp
                refine wpAnyH_ready (rs := [20]) (by kernel_rfl) (by simp) ?_
                refine AllReadyH.cons rfl (fun K hK => ?_) AllReadyH.nil
                go_simp
                have hb := (HB_xerfd.out).alloc HB_xerfd.out.size (.cells #[.int .i64 q.k, .slice A8 q.n c8] 44)
                have hp := rd_new xerfd #[.int .i64 q.k, .slice A8 q.n c8] 44 (World.heap xerfd).size ((World.heap xerfd).size + 1) (1 * 2) (its [⟨q.k, A8, q.n, c8, q.bs⟩]) rfl (Nat.lt_succ_self _) rfl rfl
                have kR := HR_xerfd.out.alloc (.cells #[.int .i64 q.k, .slice A8 q.n c8] 44)
                have kD := HD_xerfd.out.alloc (.cells #[.int .i64 q.k, .slice A8 q.n c8] 44)
                obtain ⟨g4, hg4⟩ : ∃ z, (World.heap xerfd).size = z := ⟨_, rfl⟩
                obtain ⟨y, hy⟩ : ∃ z, World.alloc xerfd (.cells #[.int .i64 q.k, .slice A8 q.n c8] 44) = z := ⟨_, rfl⟩
                rw [hy] at hb hp kR kD
                rw [hg4] at hp
                have HB_y := Lib.hid hb
                have HP_y := Lib.hid hp
                have HR_y := Lib.hid kR
                have HD_y := Lib.hid kD
                clear hb hp kR kD
                first | rw [hg4, hy] | rw [hy, hg4] | rw [hy] | skip
                clear hy hg4
                refine hK.out _ _ ?_ (fun hHeld => ?_)
                · exact HS.out _ HB_y.out
                clear hK K
                go_simp
                refine wpAnyH_ready (rs := [21]) (by kernel_rfl) (by simp) ?_
                refine AllReadyH.cons rfl (fun K hK => ?_) AllReadyH.nil
                refine step_own rfl (.tmp 33) (.tmp 47) 37 rfl w0.heap.size 44 i0 (.agg #[.int .i64 0, .slice none 0 0]) 2 32 Try.underlying37 HI.out.1 HI.out.2.1 HI.out.2.2.1 HI.out.2.2.2 rfl (by decide) (.slice A6 n0 c6) n0 (its ks) (by simp [Act.eval, Act.put]) HR_y.out (g4 + 1) (some ⟨g4, 0, none⟩) 1 1 (its [⟨q.k, A8, q.n, c8, q.bs⟩]) (by simp [Act.eval, Act.put]) HP_y.out (ones_its _) (by unfold maxLen; omega) (by omega) HB_y.out.size ?_
                intro v9 z ho9 hg9
                rw [← its_app] at ho9
                obtain ⟨A9, c9, e9, hc9, _⟩ := own_form ho9
                subst e9
                have HB_z : Hid (Below w0.heap.size w0 z) := HB_y.out.grown hg9 HB_y.out.size (fun g hg => (HR_y.out.lt g hg).1)
                have HD_z := Lib.hid (own_apart HR_y.out HD_y.out (by decide) hg9)
                have HO9 := Lib.hid ho9
                have hfz : World.frozen? z ⟨r, 0, none⟩ = false := HFZ.out _ HB_z.out
                have hcz : World.cell? z ⟨r, 0, none⟩ = some (.slice A0 n0 c0) := HPO.out _ HB_z.out
                clear ho9 hg9
                refine hK.out _ _ ?_ (fun hHeld => ?_)
                · exact HS.out _ HB_z.out
                clear hK K
                go_simp
                refine wpAnyH_take (i := 22) (v := ?_) rfl (by kernel_rfl) (by kernel_rfl) (by kernel_rfl) (fun _ _ _ h => h) (Or.inl ⟨by rfl, ?_⟩) (by assumption) ?_
                rotate_left
                · intro w hSw; (try dsimp only at hSw); go_simp; try with_reducible rfl
                go_simp
                refine wpAnyH_take (i := 23) (v := ?_) rfl (by kernel_rfl) (by kernel_rfl) (by kernel_rfl) (fun _ _ _ h => h) (Or.inl ⟨by rfl, ?_⟩) (by assumption) ?_
                rotate_left
                · intro w hSw; (try dsimp only at hSw); go_simp; try with_reducible rfl
                go_simp
                refine wpAnyH_ready (rs := [24]) (by kernel_rfl) (by simp) ?_
                refine AllReadyH.cons rfl (fun K hK => ?_) AllReadyH.nil
                go_simp
                refine hK.out _ _ ?_ (fun hHeld => ?_)
                · exact HSET.out _ HB_z.out _
                clear hK K
                go_simp
                refine wpAnyH_done (by kernel_rfl) ?_ _
                have HF : Hid (RQD (z.setCell ⟨r, 0, none⟩ (.slice A9 (n0 + 1) c9)) r lo (ds ++ putD ds.length ((qs.take (j + 1)).map dat)) ∧ w.grownBy (z.setCell ⟨r, 0, none⟩ (.slice A9 (n0 + 1) c9)) (some r)) := HEND.out A8 c8 A9 c9 z HB_z.out HD_z.out hc8 HO9.out hc9
                clear HB_z HD_z HO9
                go_wp2_with fail
                refine ⟨⟨j + 1, m + 1, by omega, by omega, by go_num, by go_num, HM1.out, HF.out.1, HF.out.2⟩, ?_⟩
                simp [intOf]; omega
              refine AllReadyH.cons rfl (fun K hK => ?_) ?_
              · skip
                go_simp
                have hb := (HB_xe.out).alloc HB_xe.out.size (.cells #[] 5)
                have he : (World.alloc xe (.cells #[] 5)).ownsRow w0.heap.size 5 1 (.slice (some ⟨(World.heap xe).size, 0, none⟩) 0 0) 0 [] := own_new xe #[] _ 1 0 (World.heap xe).size w0.heap.size rfl rfl (by unfold maxLen; omega) HB_xe.out.size
                have kE := HE_xe.out.alloc (.cells #[] 5)
                obtain ⟨g3, hg3⟩ : ∃ z, (World.heap xe).size = z := ⟨_, rfl⟩
                obtain ⟨xef, hxef⟩ : ∃ z, World.alloc xe (.cells #[] 5) = z := ⟨_, rfl⟩
                rw [hxef] at hb he
                rw [hg3] at he
                have HB_xef := Lib.hid hb
                have HF_xef := Lib.hid he
                clear hb he
                rw [hxef] at kE
                have HE_xef := Lib.hid kE
                clear kE
                first | rw [hg3, hxef] | rw [hxef, hg3] | rw [hxef] | skip
                clear hxef hg3
                refine hK.out _ _ ?_ (fun hHeld => ?_)
                · exact HS.out _ HB_xef.out
                clear hK K
                go_simp
                refine wpAnyH_ready (rs := [6]) (by kernel_rfl) (by simp) ?_
                refine AllReadyH.cons rfl (fun K hK => ?_) AllReadyH.nil
                refine step_own rfl (.tmp 28) (.tmp 32) 37 rfl w0.heap.size 44 i0 (.agg #[.int .i64 0, .slice none 0 0]) 2 32 Try.underlying37 HI.out.1 HI.out.2.1 HI.out.2.2.1 HI.out.2.2.2 rfl (by decide) (.slice (some ⟨g1, 0, none⟩) 0 0) 0 [] (by simp [Act.eval, Act.put]) HE_xef.out w0.heap.size A0 n0 c0 (its ks) (by simp [Act.eval, Act.put]) (HRD.out.below HB_xef.out (Nat.le_refl _)) (ones_its _) (by unfold maxLen; omega) (by omega) HB_xef.out.size ?_
                intro v6 xefr ho6 hg6
                obtain ⟨A6, c6, e6, _⟩ := own_form ho6
                subst e6
                have HB_xefr : Hid (Below w0.heap.size w0 xefr) := HB_xef.out.grown hg6 HB_xef.out.size (fun g hg => (HE_xef.out.lt g hg).1)
                have hr6 : World.ownsRow xefr w0.heap.size 44 2 (.slice A6 (0 + n0) c6) n0 (its ks) := by simpa using ho6
                simp only [Nat.zero_add] at hr6 ⊢
                have HR_xefr := Lib.hid hr6
                have HF_xefr := Lib.hid (own_apart HE_xef.out HF_xef.out (by decide) hg6)
                clear hr6 ho6 hg6
                refine hK.out _ _ ?_ (fun hHeld => ?_)
                · exact HS.out _ HB_xefr.out
                clear hK K
                go_simp
                refine wpAnyH_ready (rs := [18]) (by kernel_rfl) (by simp) ?_
                refine AllReadyH.cons rfl (fun K hK => ?_) AllReadyH.nil
                refine step_own rfl (.tmp 39) (.tmp 44) 22 rfl w0.heap.size 5 i1 (.int .u8 0) 1 1 Try.underlying22 HJ.out.1 HJ.out.2.1 HJ.out.2.2.1 HJ.out.2.2.2 rfl (by decide) (.slice (some ⟨g3, 0, none⟩) 0 0) 0 [] (by simp [Act.eval, Act.put]) HF_xefr.out w0.heap.size q.A q.n q.c (bv q.bs) (by simp [Act.eval, Act.put]) (HQD.out.below HB_xefr.out (Nat.le_refl _)) (ones_bv _) (by unfold maxLen; omega) (by omega) HB_xefr.out.size ?_
                intro v8 xefrd ho8 hg8
                obtain ⟨A8, c8, e8, hc8, _⟩ := own_form ho8
                subst e8
                have HB_xefrd : Hid (Below w0.heap.size w0 xefrd) := HB_xefr.out.grown hg8 HB_xefr.out.size (fun g hg => (HF_xefr.out.lt g hg).1)
                have hr8 : World.ownsRow xefrd w0.heap.size 5 1 (.slice A8 (0 + q.n) c8) q.n (bv q.bs) := by simpa using ho8
                simp only [Nat.zero_add] at hr8 hc8 ⊢
                have HD_xefrd := Lib.hid hr8
                have HR_xefrd := Lib.hid (own_apart HF_xefr.out HR_xefr.out (by decide) hg8)
                clear hr8 ho8 hg8
                refine hK.out _ _ ?_ (fun hHeld => ?_)
                · exact HS.out _ HB_xefrd.out
                clear hK K
                go_simp
                refine wpAnyH_take (i := 19) (v := ?_) rfl (by kernel_rfl) (by kernel_rfl) (by kernel_rfl) (fun _ _ _ h => h) (Or.inl ⟨by rfl, ?_⟩) (by assumption) ?_
                rotate_left
                · intro w hSw; (try dsimp only at hSw); go_simp; try with_reducible rfl
                go_simp
                refine wpAnyH_ready (rs := [20]) (by kernel_rfl) (by simp) ?_
                refine AllReadyH.cons rfl (fun K hK => ?_) AllReadyH.nil
                go_simp
                have hb := (HB_xefrd.out).alloc HB_xefrd.out.size (.cells #[.int .i64 q.k, .slice A8 q.n c8] 44)
                have hp := rd_new xefrd #[.int .i64 q.k, .slice A8 q.n c8] 44 (World.heap xefrd).size ((World.heap xefrd).size + 1) (1 * 2) (its [⟨q.k, A8, q.n, c8, q.bs⟩]) rfl (Nat.lt_succ_self _) rfl rfl
                have kR := HR_xefrd.out.alloc (.cells #[.int .i64 q.k, .slice A8 q.n c8] 44)
                have kD := HD_xefrd.out.alloc (.cells #[.int .i64 q.k, .slice A8 q.n c8] 44)
                obtain ⟨g4, hg4⟩ : ∃ z, (World.heap xefrd).size = z := ⟨_, rfl⟩
                obtain ⟨y, hy⟩ : ∃ z, World.alloc xefrd (.cells #[.int .i64 q.k, .slice A8 q.n c8] 44) = z := ⟨_, rfl⟩
                rw [hy] at hb hp kR kD
                rw [hg4] at hp
                have HB_y := Lib.hid hb
                have HP_y := Lib.hid hp
                have HR_y := Lib.hid kR
                have HD_y := Lib.hid kD
                clear hb hp kR kD
                first | rw [hg4, hy] | rw [hy, hg4] | rw [hy] | skip
                clear hy hg4
                refine hK.out _ _ ?_ (fun hHeld => ?_)
                · exact HS.out _ HB_y.out
                clear hK K
                go_simp
                refine wpAnyH_ready (rs := [21]) (by kernel_rfl) (by simp) ?_
                refine AllReadyH.cons rfl (fun K hK => ?_) AllReadyH.nil
                refine step_own rfl (.tmp 33) (.tmp 47) 37 rfl w0.heap.size 44 i0 (.agg #[.int .i64 0, .slice none 0 0]) 2 32 Try.underlying37 HI.out.1 HI.out.2.1 HI.out.2.2.1 HI.out.2.2.2 rfl (by decide) (.slice A6 n0 c6) n0 (its ks) (by simp [Act.eval, Act.put]) HR_y.out (g4 + 1) (some ⟨g4, 0, none⟩) 1 1 (its [⟨q.k, A8, q.n, c8, q.bs⟩]) (by simp [Act.eval, Act.put]) HP_y.out (ones_its _) (by unfold maxLen; omega) (by omega) HB_y.out.size ?_
                intro v9 z ho9 hg9
                rw [← its_app] at ho9
                obtain ⟨A9, c9, e9, hc9, _⟩ := own_form ho9
                subst e9
                have HB_z : Hid (Below w0.heap.size w0 z) := HB_y.out.grown hg9 HB_y.out.size (fun g hg => (HR_y.out.lt g hg).1)
                have HD_z := Lib.hid (own_apart HR_y.out HD_y.out (by decide) hg9)
                have HO9 := Lib.hid ho9
                have hfz : World.frozen? z ⟨r, 0, none⟩ = false := HFZ.out _ HB_z.out
                have hcz : World.cell? z ⟨r, 0, none⟩ = some (.slice A0 n0 c0) := HPO.out _ HB_z.out
                clear ho9 hg9
                refine hK.out _ _ ?_ (fun hHeld => ?_)
                · exact HS.out _ HB_z.out
                clear hK K
                go_simp
                refine wpAnyH_take (i := 22) (v := ?_) rfl (by kernel_rfl) (by kernel_rfl) (by kernel_rfl) (fun _ _ _ h => h) (Or.inl ⟨by rfl, ?_⟩) (by assumption) ?_
                rotate_left
                · intro w hSw; (try dsimp only at hSw); go_simp; try with_reducible rfl
                go_simp
                refine wpAnyH_take (i := 23) (v := ?_) rfl (by kernel_rfl) (by kernel_rfl) (by kernel_rfl) (fun _ _ _ h => h) (Or.inl ⟨by rfl, ?_⟩) (by assumption) ?_
                rotate_left
                · intro w hSw; (try dsimp only at hSw); go_simp; try with_reducible rfl
                go_simp
                refine wpAnyH_ready (rs := [24]) (by kernel_rfl) (by simp) ?_
                refine AllReadyH.cons rfl (fun K hK => ?_) AllReadyH.nil
                go_simp
                refine hK.out _ _ ?_ (fun hHeld => ?_)
                · exact HSET.out _ HB_z.out _
                clear hK K
                go_simp
                refine wpAnyH_done (by kernel_rfl) ?_ _
                have HF : Hid (RQD (z.setCell ⟨r, 0, none⟩ (.slice A9 (n0 + 1) c9)) r lo (ds ++ putD ds.length ((qs.take (j + 1)).map dat)) ∧ w.grownBy (z.setCell ⟨r, 0, none⟩ (.slice A9 (n0 + 1) c9)) (some r)) := HEND.out A8 c8 A9 c9 z HB_z.out HD_z.out hc8 HO9.out hc9
                clear HB_z HD_z HO9
                go_wp2_with fail
                refine ⟨⟨j + 1, m + 1, by omega, by omega, by go_num, by go_num, HM1.out, HF.out.1, HF.out.2⟩, ?_⟩
                simp [intOf]; omega
              exact AllReadyH.nil
            refine AllReadyH.cons rfl (fun K hK => ?_) ?_
            · skip
              go_simp
              have hb := (HB_x.out).alloc HB_x.out.size (.cells #[] 5)
              have he : (World.alloc x (.cells #[] 5)).ownsRow w0.heap.size 5 1 (.slice (some ⟨(World.heap x).size, 0, none⟩) 0 0) 0 [] := own_new x #[] _ 1 0 (World.heap x).size w0.heap.size rfl rfl (by unfold maxLen; omega) HB_x.out.size
              obtain ⟨g3, hg3⟩ : ∃ z, (World.heap x).size = z := ⟨_, rfl⟩
              obtain ⟨xf, hxf⟩ : ∃ z, World.alloc x (.cells #[] 5) = z := ⟨_, rfl⟩
              rw [hxf] at hb he
              rw [hg3] at he
              have HB_xf := Lib.hid hb
              have HF_xf := Lib.hid he
              clear hb he
              first | rw [hg3, hxf] | rw [hxf, hg3] | rw [hxf] | skip
              clear hxf hg3
              refine hK.out _ _ ?_ (fun hHeld => ?_)
              · exact HS.out _ HB_xf.out
              clear hK K
              go_simp
              refine wpAnyH_ready (rs := [1]) (by kernel_rfl) (by simp) ?_
              refine AllReadyH.cons rfl (fun K hK => ?_) AllReadyH.nil
              go_simp
              have hb := (HB_xf.out).alloc HB_xf.out.size (.cells #[] 44)
              have he : (World.alloc xf (.cells #[] 44)).ownsRow w0.heap.size 44 2 (.slice (some ⟨(World.heap xf).size, 0, none⟩) 0 0) 0 [] := own_new xf #[] _ 2 0 (World.heap xf).size w0.heap.size rfl rfl (by unfold maxLen; omega) HB_xf.out.size
              have kF := HF_xf.out.alloc (.cells #[] 44)
              obtain ⟨g1, hg1⟩ : ∃ z, (World.heap xf).size = z := ⟨_, rfl⟩
              obtain ⟨xfe, hxfe⟩ : ∃ z, World.alloc xf (.cells #[] 44) = z := ⟨_, rfl⟩
              rw [hxfe] at hb he
              rw [hg1] at he
              have HB_xfe := Lib.hid hb
              have HE_xfe := Lib.hid he
              clear hb he
              rw [hxfe] at kF
              have HF_xfe := Lib.hid kF
              clear kF
              first | rw [hg1, hxfe] | rw [hxfe, hg1] | rw [hxfe] | skip
              clear hxfe hg1
              refine hK.out _ _ ?_ (fun hHeld => ?_)
              · exact HS.out _ HB_xfe.out
              clear hK K
              go_simp
              refine wpAnyH_ready (rs := [6]) (by kernel_rfl) (by simp) ?_
              refine AllReadyH.cons rfl (fun K hK => ?_) AllReadyH.nil
              refine step_own rfl (.tmp 28) (.tmp 32) 37 rfl w0.heap.size 44 i0 (.agg #[.int .i64 0, .slice none 0 0]) 2 32 Try.underlying37 HI.out.1 HI.out.2.1 HI.out.2.2.1 HI.out.2.2.2 rfl (by decide) (.slice (some ⟨g1, 0, none⟩) 0 0) 0 [] (by simp [Act.eval, Act.put]) HE_xfe.out w0.heap.size A0 n0 c0 (its ks) (by simp [Act.eval, Act.put]) (HRD.out.below HB_xfe.out (Nat.le_refl _)) (ones_its _) (by unfold maxLen; omega) (by omega) HB_xfe.out.size ?_
              intro v6 xfer ho6 hg6
              obtain ⟨A6, c6, e6, _⟩ := own_form ho6
              subst e6
              have HB_xfer : Hid (Below w0.heap.size w0 xfer) := HB_xfe.out.grown hg6 HB_xfe.out.size (fun g hg => (HE_xfe.out.lt g hg).1)
              have hr6 : World.ownsRow xfer w0.heap.size 44 2 (.slice A6 (0 + n0) c6) n0 (its ks) := by simpa using ho6
              simp only [Nat.zero_add] at hr6 ⊢
              have HR_xfer := Lib.hid hr6
              have HF_xfer := Lib.hid (own_apart HE_xfe.out HF_xfe.out (by decide) hg6)
              clear hr6 ho6 hg6
              refine hK.out _ _ ?_ (fun hHeld => ?_)
              · exact HS.out _ HB_xfer.out
              clear hK K
              go_simp
              refine wpAnyH_ready (rs := [18]) (by kernel_rfl) (by simp) ?_
              refine AllReadyH.cons rfl (fun K hK => ?_) AllReadyH.nil
              refine step_own rfl (.tmp 39) (.tmp 44) 22 rfl w0.heap.size 5 i1 (.int .u8 0) 1 1 Try.underlying22 HJ.out.1 HJ.out.2.1 HJ.out.2.2.1 HJ.out.2.2.2 rfl (by decide) (.slice (some ⟨g3, 0, none⟩) 0 0) 0 [] (by simp [Act.eval, Act.put]) HF_xfer.out w0.heap.size q.A q.n q.c (bv q.bs) (by simp [Act.eval, Act.put]) (HQD.out.below HB_xfer.out (Nat.le_refl _)) (ones_bv _) (by unfold maxLen; omega) (by omega) HB_xfer.out.size ?_
              intro v8 xferd ho8 hg8
              obtain ⟨A8, c8, e8, hc8, _⟩ := own_form ho8
              subst e8
              have HB_xferd : Hid (Below w0.heap.size w0 xferd) := HB_xfer.out.grown hg8 HB_xfer.out.size (fun g hg => (HF_xfer.out.lt g hg).1)
              have hr8 : World.ownsRow xferd w0.heap.size 5 1 (.slice A8 (0 + q.n) c8) q.n (bv q.bs) := by simpa using ho8
              simp only [Nat.zero_add] at hr8 hc8 ⊢
              have HD_xferd := Lib.hid hr8
              have HR_xferd := Lib.hid (own_apart HF_xfer.out HR_xfer.out (by decide) hg8)
              clear hr8 ho8 hg8
              refine hK.out _ _ ?_ (fun hHeld => ?_)
              · exact HS.out _ HB_xferd.out
              clear hK K
              go_simp
              refine wpAnyH_take (i := 19) (v := ?_) rfl (by kernel_rfl) (by kernel_rfl) (by kernel_rfl) (fun _ _ _ h => h) (Or.inl ⟨by rfl, ?_⟩) (by assumption) ?_
              rotate_left
              · intro w hSw; (try dsimp only at hSw); go_simp; try with_reducible rfl
              go_simp
              refine wpAnyH_ready (rs := [20]) (by kernel_rfl) (by simp) ?_
              refine AllReadyH.cons rfl (fun K hK => ?_) AllReadyH.nil
              go_simp
              have hb := (HB_xferd.out).alloc HB_xferd.out.size (.cells #[.int .i64 q.k, .slice A8 q.n c8] 44)
              have hp := rd_new xferd #[.int .i64 q.k, .slice A8 q.n c8] 44 (World.heap xferd).size ((World.heap xferd).size + 1) (1 * 2) (its [⟨q.k, A8, q.n, c8, q.bs⟩]) rfl (Nat.lt_succ_self _) rfl rfl
              have kR := HR_xferd.out.alloc (.cells #[.int .i64 q.k, .slice A8 q.n c8] 44)
              have kD := HD_xferd.out.alloc (.cells #[.int .i64 q.k, .slice A8 q.n c8] 44)
              obtain ⟨g4, hg4⟩ : ∃ z, (World.heap xferd).size = z := ⟨_, rfl⟩
              obtain ⟨y, hy⟩ : ∃ z, World.alloc xferd (.cells #[.int .i64 q.k, .slice A8 q.n c8] 44) = z := ⟨_, rfl⟩
              rw [hy] at hb hp kR kD
              rw [hg4] at hp
              have HB_y := Lib.hid hb
              have HP_y := Lib.hid hp
              have HR_y := Lib.hid kR
              have HD_y := Lib.hid kD
              clear hb hp kR kD
              first | rw [hg4, hy] | rw [hy, hg4] | rw [hy] | skip
              clear hy hg4
              refine hK.out _ _ ?_ (fun hHeld => ?_)
              · exact HS.out _ HB_y.out
              clear hK K
              go_simp
              refine wpAnyH_ready (rs := [21]) (by kernel_rfl) (by simp) ?_
              refine AllReadyH.cons rfl (fun K hK => ?_) AllReadyH.nil
              refine step_own rfl (.tmp 33) (.tmp 47) 37 rfl w0.heap.size 44 i0 (.agg #[.int .i64 0, .slice none 0 0]) 2 32 Try.underlying37 HI.out.1 HI.out.2.1 HI.out.2.2.1 HI.out.2.2.2 rfl (by decide) (.slice A6 n0 c6) n0 (its ks) (by simp [Act.eval, Act.put]) HR_y.out (g4 + 1) (some ⟨g4, 0, none⟩) 1 1 (its [⟨q.k, A8, q.n, c8, q.bs⟩]) (by simp [Act.eval, Act.put]) HP_y.out (ones_its _) (by unfold maxLen; omega) (by omega) HB_y.out.size ?_
              intro v9 z ho9 hg9
              rw [← its_app] at ho9
              obtain ⟨A9, c9, e9, hc9, _⟩ := own_form ho9
              subst e9
              have HB_z : Hid (Below w0.heap.size w0 z) := HB_y.out.grown hg9 HB_y.out.size (fun g hg => (HR_y.out.lt g hg).1)
              have HD_z := Lib.hid (own_apart HR_y.out HD_y.out (by decide) hg9)
              have HO9 := Lib.hid ho9
              have hfz : World.frozen? z ⟨r, 0, none⟩ = false := HFZ.out _ HB_z.out
              have hcz : World.cell? z ⟨r, 0, none⟩ = some (.slice A0 n0 c0) := HPO.out _ HB_z.out
              clear ho9 hg9
              refine hK.out _ _ ?_ (fun hHeld => ?_)
              · exact HS.out _ HB_z.out
              clear hK K
              go_simp
              refine wpAnyH_take (i := 22) (v := ?_) rfl (by kernel_rfl) (by kernel_rfl) (by kernel_rfl) (fun _ _ _ h => h) (Or.inl ⟨by rfl, ?_⟩) (by assumption) ?_
              rotate_left
              · intro w hSw; (try dsimp only at hSw); go_simp; try with_reducible rfl
              go_simp
              refine wpAnyH_take (i := 23) (v := ?_) rfl (by kernel_rfl) (by kernel_rfl) (by kernel_rfl) (fun _ _ _ h => h) (Or.inl ⟨by rfl, ?_⟩) (by assumption) ?_
              rotate_left
              · intro w hSw; (try dsimp only at hSw); go_simp; try with_reducible rfl
              go_simp
              refine wpAnyH_ready (rs := [24]) (by kernel_rfl) (by simp) ?_
              refine AllReadyH.cons rfl (fun K hK => ?_) AllReadyH.nil
              go_simp
              refine hK.out _ _ ?_ (fun hHeld => ?_)
              · exact HSET.out _ HB_z.out _
              clear hK K
              go_simp
              refine wpAnyH_done (by kernel_rfl) ?_ _
              have HF : Hid (RQD (z.setCell ⟨r, 0, none⟩ (.slice A9 (n0 + 1) c9)) r lo (ds ++ putD ds.length ((qs.take (j + 1)).map dat)) ∧ w.grownBy (z.setCell ⟨r, 0, none⟩ (.slice A9 (n0 + 1) c9)) (some r)) := HEND.out A8 c8 A9 c9 z HB_z.out HD_z.out hc8 HO9.out hc9
              clear HB_z HD_z HO9
              go_wp2_with fail
              refine ⟨⟨j + 1, m + 1, by omega, by omega, by go_num, by go_num, HM1.out, HF.out.1, HF.out.2⟩, ?_⟩
              simp [intOf]; omega
            exact AllReadyH.nil
          refine AllReadyH.cons rfl (fun K hK => ?_) ?_
          · skip
            go_simp
            have hb := (HB_x.out).alloc HB_x.out.size (.cells #[] 5)
            have he : (World.alloc x (.cells #[] 5)).ownsRow w0.heap.size 5 1 (.slice (some ⟨(World.heap x).size, 0, none⟩) 0 0) 0 [] := own_new x #[] _ 1 0 (World.heap x).size w0.heap.size rfl rfl (by unfold maxLen; omega) HB_x.out.size
            obtain ⟨g3, hg3⟩ : ∃ z, (World.heap x).size = z := ⟨_, rfl⟩
            obtain ⟨xf, hxf⟩ : ∃ z, World.alloc x (.cells #[] 5) = z := ⟨_, rfl⟩
            rw [hxf] at hb he
            rw [hg3] at he
            have HB_xf := Lib.hid hb
            have HF_xf := Lib.hid he
            clear hb he
            first | rw [hg3, hxf] | rw [hxf, hg3] | rw [hxf] | skip
            clear hxf hg3
            refine hK.out _ _ ?_ (fun hHeld => ?_)
            · exact HS.out _ HB_xf.out
            clear hK K
            go_simp
            refine wpAnyH_ready (rs := [1, 5]) (by kernel_rfl) (by simp) ?_
            refine AllReadyH.cons rfl (fun K hK => ?_) ?_
            · skip
              go_simp
              have hb := (HB_xf.out).alloc HB_xf.out.size (.cells #[] 44)
              have he : (World.alloc xf (.cells #[] 44)).ownsRow w0.heap.size 44 2 (.slice (some ⟨(World.heap xf).size, 0, none⟩) 0 0) 0 [] := own_new xf #[] _ 2 0 (World.heap xf).size w0.heap.size rfl rfl (by unfold maxLen; omega) HB_xf.out.size
              have kF := HF_xf.out.alloc (.cells #[] 44)
              obtain ⟨g1, hg1⟩ : ∃ z, (World.heap xf).size = z := ⟨_, rfl⟩
              obtain ⟨xfe, hxfe⟩ : ∃ z, World.alloc xf (.cells #[] 44) = z := ⟨_, rfl⟩
              rw [hxfe] at hb he
              rw [hg1] at he
              have HB_xfe := Lib.hid hb
              have HE_xfe := Lib.hid he
              clear hb he
              rw [hxfe] at kF
              have HF_xfe := Lib.hid kF
              clear kF
              first | rw [hg1, hxfe] | rw [hxfe, hg1] | rw [hxfe] | skip
              clear hxfe hg1
              refine hK.out _ _ ?_ (fun hHeld => ?_)
              · exact HS.out _ HB_xfe.out
              clear hK K
              go_simp
              refine wpAnyH_ready (rs := [5]) (by kernel_rfl) (by simp) ?_
              refine AllReadyH.cons rfl (fun K hK => ?_) AllReadyH.nil
              have hcp : World.cell? xfe ⟨r, 0, none⟩ = some (.slice A0 n0 c0) := HPO.out _ HB_xfe.out
              go_simp
              clear hcp
              refine hK.out _ _ ?_ (fun hHeld => ?_)
              · exact HS.out _ HB_xfe.out
              clear hK K
              go_simp
              refine wpAnyH_ready (rs := [6]) (by kernel_rfl) (by simp) ?_
              refine AllReadyH.cons rfl (fun K hK => ?_) AllReadyH.nil
              refine step_own rfl (.tmp 28) (.tmp 32) 37 rfl w0.heap.size 44 i0 (.agg #[.int .i64 0, .slice none 0 0]) 2 32 Try.underlying37 HI.out.1 HI.out.2.1 HI.out.2.2.1 HI.out.2.2.2 rfl (by decide) (.slice (some ⟨g1, 0, none⟩) 0 0) 0 [] (by simp [Act.eval, Act.put]) HE_xfe.out w0.heap.size A0 n0 c0 (its ks) (by simp [Act.eval, Act.put]) (HRD.out.below HB_xfe.out (Nat.le_refl _)) (ones_its _) (by unfold maxLen; omega) (by omega) HB_xfe.out.size ?_
              intro v6 xfer ho6 hg6
              obtain ⟨A6, c6, e6, _⟩ := own_form ho6
              subst e6
              have HB_xfer : Hid (Below w0.heap.size w0 xfer) := HB_xfe.out.grown hg6 HB_xfe.out.size (fun g hg => (HE_xfe.out.lt g hg).1)
              have hr6 : World.ownsRow xfer w0.heap.size 44 2 (.slice A6 (0 + n0) c6) n0 (its ks) := by simpa using ho6
              simp only [Nat.zero_add] at hr6 ⊢
              have HR_xfer := Lib.hid hr6
              have HF_xfer := Lib.hid (own_apart HE_xfe.out HF_xfe.out (by decide) hg6)
              clear hr6 ho6 hg6
              refine hK.out _ _ ?_ (fun hHeld => ?_)
              · exact HS.out _ HB_xfer.out
              clear hK K
              go_simp
              refine wpAnyH_ready (rs := [18]) (by kernel_rfl) (by simp) ?_
              refine AllReadyH.cons rfl (fun K hK => ?_) AllReadyH.nil
              refine step_own rfl (.tmp 39) (.tmp 44) 22 rfl w0.heap.size 5 i1 (.int .u8 0) 1 1 Try.underlying22 HJ.out.1 HJ.out.2.1 HJ.out.2.2.1 HJ.out.2.2.2 rfl (by decide) (.slice (some ⟨g3, 0, none⟩) 0 0) 0 [] (by simp [Act.eval, Act.put]) HF_xfer.out w0.heap.size q.A q.n q.c (bv q.bs) (by simp [Act.eval, Act.put]) (HQD.out.below HB_xfer.out (Nat.le_refl _)) (ones_bv _) (by unfold maxLen; omega) (by omega) HB_xfer.out.size ?_
              intro v8 xferd ho8 hg8
              obtain ⟨A8, c8, e8, hc8, _⟩ := own_form ho8
              subst e8
              have HB_xferd : Hid (Below w0.heap.size w0 xferd) := HB_xfer.out.grown hg8 HB_xfer.out.size (fun g hg => (HF_xfer.out.lt g hg).1)
              have hr8 : World.ownsRow xferd w0.heap.size 5 1 (.slice A8 (0 + q.n) c8) q.n (bv q.bs) := by simpa using ho8
              simp only [Nat.zero_add] at hr8 hc8 ⊢
              have HD_xferd := Lib.hid hr8
              have HR_xferd := Lib.hid (own_apart HF_xfer.out HR_xfer.out (by decide) hg8)
              clear hr8 ho8 hg8
              refine hK.out _ _ ?_ (fun hHeld => ?_)
              · exact HS.out _ HB_xferd.out
              clear hK K
              go_simp
              refine wpAnyH_take (i := 19) (v := ?_) rfl (by kernel_rfl) (by kernel_rfl) (by kernel_rfl) (fun _ _ _ h => h) (Or.inl ⟨by rfl, ?_⟩) (by assumption) ?_
              rotate_left
              · intro w hSw; (try dsimp only at hSw); go_simp; try with_reducible rfl
              go_simp
              refine wpAnyH_ready (rs := [20]) (by kernel_rfl) (by simp) ?_
              refine AllReadyH.cons rfl (fun K hK => ?_) AllReadyH.nil
              go_simp
              have hb := (HB_xferd.out).alloc HB_xferd.out.size (.cells #[.int .i64 q.k, .slice A8 q.n c8] 44)
              have hp := rd_new xferd #[.int .i64 q.k, .slice A8 q.n c8] 44 (World.heap xferd).size ((World.heap xferd).size + 1) (1 * 2) (its [⟨q.k, A8, q.n, c8, q.bs⟩]) rfl (Nat.lt_succ_self _) rfl rfl
              have kR := HR_xferd.out.alloc (.cells #[.int .i64 q.k, .slice A8 q.n c8] 44)
              have kD := HD_xferd.out.alloc (.cells #[.int .i64 q.k, .slice A8 q.n c8] 44)
              obtain ⟨g4, hg4⟩ : ∃ z, (World.heap xferd).size = z := ⟨_, rfl⟩
              obtain ⟨y, hy⟩ : ∃ z, World.alloc xferd (.cells #[.int .i64 q.k, .slice A8 q.n c8] 44) = z := ⟨_, rfl⟩
              rw [hy] at hb hp kR kD
              rw [hg4] at hp
              have HB_y := Lib.hid hb
              have HP_y := Lib.hid hp
              have HR_y := Lib.hid kR
              have HD_y := Lib.hid kD
              clear hb hp kR kD
              first | rw [hg4, hy] | rw [hy, hg4] | rw [hy] | skip
              clear hy hg4
              refine hK.out _ _ ?_ (fun hHeld => ?_)
              · exact HS.out _ HB_y.out
              clear hK K
              go_simp
              refine wpAnyH_ready (rs := [21]) (by kernel_rfl) (by simp) ?_
              refine AllReadyH.cons rfl (fun K hK => ?_) AllReadyH.nil
              refine step_own rfl (.tmp 33) (.tmp 47) 37 rfl w0.heap.size 44 i0 (.agg #[.int .i64 0, .slice none 0 0]) 2 32 Try.underlying37 HI.out.1 HI.out.2.1 HI.out.2.2.1 HI.out.2.2.2 rfl (by decide) (.slice A6 n0 c6) n0 (its ks) (by simp [Act.eval, Act.put]) HR_y.out (g4 + 1) (some ⟨g4, 0, none⟩) 1 1 (its [⟨q.k, A8, q.n, c8, q.bs⟩]) (by simp [Act.eval, Act.put]) HP_y.out (ones_its _) (by unfold maxLen; omega) (by omega) HB_y.out.size ?_
              intro v9 z ho9 hg9
              rw [← its_app] at ho9
              obtain ⟨A9, c9, e9, hc9, _⟩ := own_form ho9
              subst e9
              have HB_z : Hid (Below w0.heap.size w0 z) := HB_y.out.grown hg9 HB_y.out.size (fun g hg => (HR_y.out.lt g hg).1)
              have HD_z := Lib.hid (own_apart HR_y.out HD_y.out (by decide) hg9)
              have HO9 := Lib.hid ho9
              have hfz : World.frozen? z ⟨r, 0, none⟩ = false := HFZ.out _ HB_z.out
              have hcz : World.cell? z ⟨r, 0, none⟩ = some (.slice A0 n0 c0) := HPO.out _ HB_z.out
              clear ho9 hg9
              refine hK.out _ _ ?_ (fun hHeld => ?_)
              · exact HS.out _ HB_z.out
              clear hK K
              go_simp
              refine wpAnyH_take (i := 22) (v := ?_) rfl (by kernel_rfl) (by kernel_rfl) (by kernel_rfl) (fun _ _ _ h => h) (Or.inl ⟨by rfl, ?_⟩) (by assumption) ?_
              rotate_left
              · intro w hSw; (try dsimp only at hSw); go_simp; try with_reducible rfl
              go_simp
              refine wpAnyH_take (i := 23) (v := ?_) rfl (by kernel_rfl) (by kernel_rfl) (by kernel_rfl) (fun _ _ _ h => h) (Or.inl ⟨by rfl, ?_⟩) (by assumption) ?_
              rotate_left
              · intro w hSw; (try dsimp only at hSw); go_simp; try with_reducible rfl
              go_simp
              refine wpAnyH_ready (rs := [24]) (by kernel_rfl) (by simp) ?_
              refine AllReadyH.cons rfl (fun K hK => ?_) AllReadyH.nil
              go_simp
              refine hK.out _ _ ?_ (fun hHeld => ?_)
              · exact HSET.out _ HB_z.out _
              clear hK K
              go_simp
              refine wpAnyH_done (by kernel_rfl) ?_ _
              have HF : Hid (RQD (z.setCell ⟨r, 0, none⟩ (.slice A9 (n0 + 1) c9)) r lo (ds ++ putD ds.length ((qs.take (j + 1)).map dat)) ∧ w.grownBy (z.setCell ⟨r, 0, none⟩ (.slice A9 (n0 + 1) c9)) (some r)) := HEND.out A8 c8 A9 c9 z HB_z.out HD_z.out hc8 HO9.out hc9
              clear HB_z HD_z HO9
              go_wp2_with fail
              refine ⟨⟨j + 1, m + 1, by omega, by omega, by go_num, by go_num, HM1.out, HF.out.1, HF.out.2⟩, ?_⟩
              simp [intOf]; omega
            refine AllReadyH.cons rfl (fun K hK => ?_) ?_
            · skip
              have hcp : World.cell? xf ⟨r, 0, none⟩ = some (.slice A0 n0 c0) := HPO.out _ HB_xf.out
              go_simp
              clear hcp
              refine hK.out _ _ ?_ (fun hHeld => ?_)
              · exact HS.out _ HB_xf.out
              clear hK K
              go_simp
              refine wpAnyH_ready (rs := [1]) (by kernel_rfl) (by simp) ?_
              refine AllReadyH.cons rfl (fun K hK => ?_) AllReadyH.nil
              go_simp
              have hb := (HB_xf.out).alloc HB_xf.out.size (.cells #[] 44)
              have he : (World.alloc xf (.cells #[] 44)).ownsRow w0.heap.size 44 2 (.slice (some ⟨(World.heap xf).size, 0, none⟩) 0 0) 0 [] := own_new xf #[] _ 2 0 (World.heap xf).size w0.heap.size rfl rfl (by unfold maxLen; omega) HB_xf.out.size
              have kF := HF_xf.out.alloc (.cells #[] 44)
              obtain ⟨g1, hg1⟩ : ∃ z, (World.heap xf).size = z := ⟨_, rfl⟩
              obtain ⟨xfe, hxfe⟩ : ∃ z, World.alloc xf (.cells #[] 44) = z := ⟨_, rfl⟩
              rw [hxfe] at hb he
              rw [hg1] at he
              have HB_xfe := Lib.hid hb
              have HE_xfe := Lib.hid he
              clear hb he
              rw [hxfe] at kF
              have HF_xfe := Lib.hid kF
              clear kF
              first | rw [hg1, hxfe] | rw [hxfe, hg1] | rw [hxfe] | skip
              clear hxfe hg1
              refine hK.out _ _ ?_ (fun hHeld => ?_)
              · exact HS.out _ HB_xfe.out
              clear hK K
              go_simp
              refine wpAnyH_ready (rs := [6]) (by kernel_rfl) (by simp) ?_
              refine AllReadyH.cons rfl (fun K hK => ?_) AllReadyH.nil
              refine step_own rfl (.tmp 28) (.tmp 32) 37 rfl w0.heap.size 44 i0 (.agg #[.int .i64 0, .slice none 0 0]) 2 32 Try.underlying37 HI.out.1 HI.out.2.1 HI.out.2.2.1 HI.out.2.2.2 rfl (by decide) (.slice (some ⟨g1, 0, none⟩) 0 0) 0 [] (by simp [Act.eval, Act.put]) HE_xfe.out w0.heap.size A0 n0 c0 (its ks) (by simp [Act.eval, Act.put]) (HRD.out.below HB_xfe.out (Nat.le_refl _)) (ones_its _) (by unfold maxLen; omega) (by omega) HB_xfe.out.size ?_
              intro v6 xfer ho6 hg6
              obtain ⟨A6, c6, e6, _⟩ := own_form ho6
              subst e6
              have HB_xfer : Hid (Below w0.heap.size w0 xfer) := HB_xfe.out.grown hg6 HB_xfe.out.size (fun g hg => (HE_xfe.out.lt g hg).1)
              have hr6 : World.ownsRow xfer w0.heap.size 44 2 (.slice A6 (0 + n0) c6) n0 (its ks) := by simpa using ho6
              simp only [Nat.zero_add] at hr6 ⊢
              have HR_xfer := Lib.hid hr6
              have HF_xfer := Lib.hid (own_apart HE_xfe.out HF_xfe.out (by decide) hg6)
              clear hr6 ho6 hg6
              refine hK.out _ _ ?_ (fun hHeld => ?_)
              · exact HS.out _ HB_xfer.out
              clear hK K
              go_simp
              refine wpAnyH_ready (rs := [18]) (by kernel_rfl) (by simp) ?_
              refine AllReadyH.cons rfl (fun K hK => ?_) AllReadyH.nil
              refine step_own rfl (.tmp 39) (.tmp 44) 22 rfl w0.heap.size 5 i1 (.int .u8 0) 1 1 Try.underlying22 HJ.out.1 HJ.out.2.1 HJ.out.2.2.1 HJ.out.2.2.2 rfl (by decide) (.slice (some ⟨g3, 0, none⟩) 0 0) 0 [] (by simp [Act.eval, Act.put]) HF_xfer.out w0.heap.size q.A q.n q.c (bv q.bs) (by simp [Act.eval, Act.put]) (HQD.out.below HB_xfer.out (Nat.le_refl _)) (ones_bv _) (by unfold maxLen; omega) (by omega) HB_xfer.out.size ?_
              intro v8 xferd ho8 hg8
              obtain ⟨A8, c8, e8, hc8, _⟩ := own_form ho8
              subst e8
              have HB_xferd : Hid (Below w0.heap.size w0 xferd) := HB_xfer.out.grown hg8 HB_xfer.out.size (fun g hg => (HF_xfer.out.lt g hg).1)
              have hr8 : World.ownsRow xferd w0.heap.size 5 1 (.slice A8 (0 + q.n) c8) q.n (bv q.bs) := by simpa using ho8
              simp only [Nat.zero_add] at hr8 hc8 ⊢
              have HD_xferd := Lib.hid hr8
              have HR_xferd := Lib.hid (own_apart HF_xfer.out HR_xfer.out (by decide) hg8)
              clear hr8 ho8 hg8
              refine hK.out _ _ ?_ (fun hHeld => ?_)
              · exact HS.out _ HB_xferd.out
              clear hK K
              go_simp
              refine wpAnyH_take (i := 19) (v := ?_) rfl (by kernel_rfl) (by kernel_rfl) (by kernel_rfl) (fun _ _ _ h => h) (Or.inl ⟨by rfl, ?_⟩) (by assumption) ?_
              rotate_left
              · intro w hSw; (try dsimp only at hSw); go_simp; try with_reducible rfl
              go_simp
              refine wpAnyH_ready (rs := [20]) (by kernel_rfl) (by simp) ?_
              refine AllReadyH.cons rfl (fun K hK => ?_) AllReadyH.nil
              go_simp
              have hb := (HB_xferd.out).alloc HB_xferd.out.size (.cells #[.int .i64 q.k, .slice A8 q.n c8] 44)
              have hp := rd_new xferd #[.int .i64 q.k, .slice A8 q.n c8] 44 (World.heap xferd).size ((World.heap xferd).size + 1) (1 * 2) (its [⟨q.k, A8, q.n, c8, q.bs⟩]) rfl (Nat.lt_succ_self _) rfl rfl
              have kR := HR_xferd.out.alloc (.cells #[.int .i64 q.k, .slice A8 q.n c8] 44)
              have kD := HD_xferd.out.alloc (.cells #[.int .i64 q.k, .slice A8 q.n c8] 44)
              obtain ⟨g4, hg4⟩ : ∃ z, (World.heap xferd).size = z := ⟨_, rfl⟩
              obtain ⟨y, hy⟩ : ∃ z, World.alloc xferd (.cells #[.int .i64 q.k, .slice A8 q.n c8] 44) = z := ⟨_, rfl⟩
              rw [hy] at hb hp kR kD
              rw [hg4] at hp
              have HB_y := Lib.hid hb
              have HP_y := Lib.hid hp
              have HR_y := Lib.hid kR
              have HD_y := Lib.hid kD
              clear hb hp kR kD
              first | rw [hg4, hy] | rw [hy, hg4] | rw [hy] | skip
              clear hy hg4
              refine hK.out _ _ ?_ (fun hHeld => ?_)
              · exact HS.out _ HB_y.out
              clear hK K
              go_simp
              refine wpAnyH_ready (rs := [21]) (by kernel_rfl) (by simp) ?_
              refine AllReadyH.cons rfl (fun K hK => ?_) AllReadyH.nil
              refine step_own rfl (.tmp 33) (.tmp 47) 37 rfl w0.heap.size 44 i0 (.agg #[.int .i64 0, .slice none 0 0]) 2 32 Try.underlying37 HI.out.1 HI.out.2.1 HI.out.2.2.1 HI.out.2.2.2 rfl (by decide) (.slice A6 n0 c6) n0 (its ks) (by simp [Act.eval, Act.put]) HR_y.out (g4 + 1) (some ⟨g4, 0, none⟩) 1 1 (its [⟨q.k, A8, q.n, c8, q.bs⟩]) (by simp [Act.eval, Act.put]) HP_y.out (ones_its _) (by unfold maxLen; omega) (by omega) HB_y.out.size ?_
              intro v9 z ho9 hg9
              rw [← its_app] at ho9
              obtain ⟨A9, c9, e9, hc9, _⟩ := own_form ho9
              subst e9
              have HB_z : Hid (Below w0.heap.size w0 z) := HB_y.out.grown hg9 HB_y.out.size (fun g hg => (HR_y.out.lt g hg).1)
              have HD_z := Lib.hid (own_apart HR_y.out HD_y.out (by decide) hg9)
              have HO9 := Lib.hid ho9
              have hfz : World.frozen? z ⟨r, 0, none⟩ = false := HFZ.out _ HB_z.out
              have hcz : World.cell? z ⟨r, 0, none⟩ = some (.slice A0 n0 c0) := HPO.out _ HB_z.out
              clear ho9 hg9
              refine hK.out _ _ ?_ (fun hHeld => ?_)
              · exact HS.out _ HB_z.out
              clear hK K
              go_simp
              refine wpAnyH_take (i := 22) (v := ?_) rfl (by kernel_rfl) (by kernel_rfl) (by kernel_rfl) (fun _ _ _ h => h) (Or.inl ⟨by rfl, ?_⟩) (by assumption) ?_
              rotate_left
              · intro w hSw; (try dsimp only at hSw); go_simp; try with_reducible rfl
              go_simp
              refine wpAnyH_take (i := 23) (v := ?_) rfl (by kernel_rfl) (by kernel_rfl) (by kernel_rfl) (fun _ _ _ h => h) (Or.inl ⟨by rfl, ?_⟩) (by assumption) ?_
              rotate_left
              · intro w hSw; (try dsimp only at hSw); go_simp; try with_reducible rfl
              go_simp
              refine wpAnyH_ready (rs := [24]) (by kernel_rfl) (by simp) ?_
              refine AllReadyH.cons rfl (fun K hK => ?_) AllReadyH.nil
              go_simp
              refine hK.out _ _ ?_ (fun hHeld => ?_)
              · exact HSET.out _ HB_z.out _
              clear hK K
              go_simp
              refine wpAnyH_done (by kernel_rfl) ?_ _
              have HF : Hid (RQD (z.setCell ⟨r, 0, none⟩ (.slice A9 (n0 + 1) c9)) r lo (ds ++ putD ds.length ((qs.take (j + 1)).map dat)) ∧ w.grownBy (z.setCell ⟨r, 0, none⟩ (.slice A9 (n0 + 1) c9)) (some r)) := HEND.out A8 c8 A9 c9 z HB_z.out HD_z.out hc8 HO9.out hc9
              clear HB_z HD_z HO9
              go_wp2_with fail
              refine ⟨⟨j + 1, m + 1, by omega, by omega, by go_num, by go_num, HM1.out, HF.out.1, HF.out.2⟩, ?_⟩
              simp [intOf]; omega
            exact AllReadyH.nil
          exact AllReadyH.nil
    · have hltI : ¬ (j : Int) < (n : Int) := by omega
      obtain rfl : j = n := by omega
      rw [List.take_of_length_le (by have := HLEN.out; omega)] at hm hqi
      have HF : Hid (RPutP w r lo ds (qs.map dat) (.returned (.int .i64 (m : Int))) wr) := ⟨by rw [hm], hqi, hgi⟩
      clear hm hqi hgi HK
      go_wp2_with fail
      go_ret
      exact HF.out
end Go.Proofs.Ytlaopkkfgkcejaa.Qu
