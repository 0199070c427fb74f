/- SendFresh: the walk (printed by gen/sendm.py). Conditions: the calls are an argument's, no more of them than the second form bears. -/
import Derived.Test.YtppbhjjkccogkaaJWk
import Derived.Test.YtppbhjjkccogkaaJWi
import Derived.Test.YtppbhjjkccogkaaJWo
import Derived.Test.YtppbhjjkccogkaaJSnKn
set_option linter.unusedSimpArgs false
set_option linter.unusedVariables false

namespace Go.Proofs.Ytppbhjjkccogkaa.Se
open Go Go.RowKit Go.Proofs.Ytppbhjjkccogkaa Go.Proofs.Ytppbhjjkccogkaa.Sp Go.Proofs.Ytppbhjjkccogkaa.Sp.Ref

theorem StTo.rest {W W' : World} {p lo : Nat} {F : List Nat} {s' : St} (ht : StTo W W' p F s') (hF : ∀ k ∈ F, lo ≤ k) (hlo : lo ≤ W.heap.size) : ∃ F' a b c, StIn W' p F' a b c s' ∧ Kept F W W' ∧ (∀ k ∈ F', k ∈ F ∨ W.heap.size ≤ k) ∧ (∀ k ∈ F', lo ≤ k) ∧ Below lo W W' := by
  obtain ⟨F', a, b, c, h1, h2, h3⟩ := ht
  exact ⟨F', a, b, c, h1, h2, h3, fun k hk => (h3 k hk).elim (hF k) (fun h => Nat.le_trans hlo h), h2.below hlo hF⟩

/-- What SendFresh holds at each call. -/
structure FreshI (w wr : World) (p n j : Nat) (v : Value) (F : List Nat) (v3 v4 v5 : Value) (s : St) (l : List Fv) : Prop where
  st : StIn wr p F v3 v4 v5 s
  ok : StOk s
  fd : s.fd = false
  rs : s.rs = false
  n : s.bs.length = n
  row : FRow wr w.heap.size F v l
  len : l.length ≤ j
  low : Below w.heap.size w wr
  lo : ∀ k ∈ F, w.heap.size ≤ k
theorem FreshI.step {w wr w' : World} {p n j : Nat} {v : Value} {F : List Nat} {v3 v4 v5 : Value} {s s' : St} {l : List Fv} (h : FreshI w wr p n j v F v3 v4 v5 s l) (ht : StTo wr w' p F s') (hok : StOk s') (h1 : s'.fd = false) (h2 : s'.rs = false) (h3 : s'.bs = s.bs) : ∃ F' a b c, FreshI w w' p n j v F' a b c s' l := by
  obtain ⟨F', a, b, c, g1, g2, g3, g4, g5⟩ := ht.rest h.lo h.low.size
  exact ⟨F', a, b, c, g1, hok, h1, h2, by rw [h3]; exact h.n, h.row.kept g2 g3, h.len, h.low.trans g5, g4⟩
theorem FreshI.below {w wr w' : World} {p n j : Nat} {v : Value} {F : List Nat} {v3 v4 v5 : Value} {s : St} {l : List Fv} (h : FreshI w wr p n j v F v3 v4 v5 s l) (hb : Below wr.heap.size wr w') : FreshI w w' p n j v F v3 v4 v5 s l :=
  ⟨h.st.below hb, h.ok, h.fd, h.rs, h.n, h.row.below hb, h.len, h.low.trans (hb.mono h.low.size), h.lo⟩
theorem FreshI.succ {w wr : World} {p n j : Nat} {v : Value} {F : List Nat} {v3 v4 v5 : Value} {s : St} {l : List Fv} (h : FreshI w wr p n j v F v3 v4 v5 s l) : FreshI w wr p n (j + 1) v F v3 v4 v5 s l :=
  ⟨h.st, h.ok, h.fd, h.rs, h.n, h.row, Nat.le_succ_of_le h.len, h.low, h.lo⟩
theorem FreshI.push {w wr w' : World} {p n j : Nat} {v v' : Value} {F : List Nat} {v3 v4 v5 : Value} {s : St} {l : List Fv} {f : Fv} (h : FreshI w wr p n j v F v3 v4 v5 s l) (hg : wr.grownBy w' v.ownBlock) (ho : w'.ownsRow w.heap.size 30 9 v' (l.length + 1) (fvs l ++ f.cells)) (hn : ∀ k ∈ fp v', k ∈ fp v ∨ k = wr.heap.size) (hf : f.ok) : FreshI w w' p n (j + 1) v' F v3 v4 v5 s (l ++ [f]) := by
  have hk : Kept (fp v) wr w' := ⟨hg.os, hg.tape, hg.output, hg.size, fun k hk hm => hg.block k hk fun e => hm (fp_own.2 e.symm)⟩
  refine ⟨h.st.kept hk fun k hk' hm => h.row.2.1 k hm hk', h.ok, h.fd, h.rs, h.n, ⟨?_, fun k hk' hm => ?_, fun x hx => ?_⟩, ?_, h.low.grown hg h.low.size (fun k hk' => (h.row.1.lt k hk').1), h.lo⟩
  · rw [fvs_app, fvs_one, List.length_append]; exact ho
  · rcases hn k hk' with hx | hx
    · exact h.row.2.1 k hx hm
    · have := h.st.hF k hm; omega
  · simp only [List.mem_append, List.mem_cons, List.not_mem_nil, or_false] at hx
    rcases hx with hx | rfl
    · exact h.row.2.2 x hx
    · exact hf
  · have := h.len; rw [List.length_append]; show l.length + 1 ≤ _; omega
theorem below_dn {B : Nat} {w w1 : World} (h : Below B w w1) (m : Nat) : Below B w (w1.drewN m) := ⟨h.os, h.tape, h.output, h.size, h.block⟩

set_option maxRecDepth 100000 in
set_option maxHeartbeats 16000000 in
theorem fresh_walk (a0 : Int) (A : Option Addr) (N cap : Nat) (rs : List Rc) (w : World) (hr : CallsIn w A cap N rs) (hN : N ≤ 1048576) :
    Calls Try.prog 7 #[.int .i64 a0, .slice A N cap] w fun e w' => e = .returned (.bool true) ∧ Below w.heap.size w w' := by
  have HR := Lib.hid hr
  have hnI : (N : Int) ≤ 1048576 := by omega
  have hncI : (N : Int) ≤ (cap : Int) := by have := hr.le; omega
  clear hr
  obtain ⟨n, hn, hn9⟩ : ∃ x : Nat, a0 % 900 = (x : Int) ∧ x < 900 := ⟨(a0 % 900).toNat, by omega, by omega⟩
  have HP0 := Lib.hid (fun W => pick_any a0 900 W (by decide) (by decide))
  rw [hn] at HP0
  clear hn
  have HNEW := Lib.hid (fun W => new_st W 3)
  have HKN := Lib.hid SnKn.known_any
  have HTX := Lib.hid (fun W => text_any [] none 0 n W (Rd.nil _ _ _) (by omega) (Nat.le_refl _) (by simp))
  go_enter Try.func7, Try.ntmps7
  go_wp2_with fail
  refine (HNEW.out _).mono ?_
  rintro e w1 ⟨p, F1, a1, b1, c1, rfl, hs1, hF1, hb1⟩
  have HS1 := Lib.hid hs1
  have HB1 := Lib.hid hb1
  have HF1 := Lib.hid hF1
  clear hs1 hb1 hF1
  go_wp2_with fail
  refine (HKN.out w1).mono ?_
  rintro e w2 ⟨rfl, hb2⟩
  have HS2 := Lib.hid (HS1.out.below hb2)
  have HB2 := Lib.hid (HB1.out.trans (hb2.mono HB1.out.size))
  clear hb2 HS1 HB1
  go_wp2_with fail
  refine (HP0.out _).mono ?_; rintro e w' ⟨rfl, hw'⟩; subst hw'
  go_wp2_with fail
  refine (HTX.out _).mono ?_
  rintro e w3 ⟨A3, c3, rfl, out, ho1, ho2, ho3, ho4⟩
  have HS3 := Lib.hid (HS2.out.below ho4)
  have HB3 := Lib.hid (HB2.out.trans (ho4.mono HB2.out.size))
  obtain ⟨_, _, e3, _, _, _, hrd3⟩ := own_form ho3
  simp only [Value.slice.injEq] at e3
  obtain ⟨rfl, _, rfl⟩ := e3
  rw [Nat.mul_one] at hrd3
  subst ho1
  have HO3 := Lib.hid hrd3
  have HLT := Lib.hid ho2
  clear ho2 ho3 ho4 hrd3 HS2 HB2
  go_wp2_with fail
  refine (write_st HS3.out (by show (0 : Nat) ≤ 4000; omega) out w3.heap.size _ _ HO3.out (by omega)).mono ?_
  rintro e w4 ⟨rfl, hs4⟩
  have HI4 : Hid (∃ F v3 v4 v5 s, FreshI w w4 p out.length 0 (.slice none 0 0) F v3 v4 v5 s []) := by
    obtain ⟨F4, a4, b4, c4, g1, g2, g3, g4, g5⟩ := hs4.rest HF1.out HB3.out.size
    have e : (writeS (newS 3) out).2 = ⟨400, 0, 3, out, [], [], false, 0, false, 0, 0, 0⟩ := by
      unfold writeS
      rw [if_neg (by simp [newS]), if_neg (by show ¬ 4000 < 0 + out.length; omega)]
      rfl
    have hok := (newS_ok 3 (by decide)).write out HLT.out
    rw [e] at g1 hok
    exact ⟨F4, a4, b4, c4, _, g1, hok, rfl, rfl, rfl, ⟨own_nil _ _ _ _, (fun k hk => by simp [fp] at hk), (fun f hf => by cases hf)⟩, Nat.le_refl _, HB3.out.trans g5, g4⟩
  clear hs4 HS3 HB3 HO3 HLT HF1
  obtain ⟨n, hno⟩ : ∃ n, out.length = n := ⟨_, rfl⟩
  rw [hno] at HI4 hn9 ⊢
  clear hno
  go_wp2_with fail
  go_loopw [7, 32] (fun v i wr => ∃ (j : Nat), j ≤ N ∧ i = .int .i64 (j : Int) ∧ Hid (∃ F v3 v4 v5 s l, FreshI w wr p n j v F v3 v4 v5 s l)) (fun _ i _ => N - (intOf i).toNat)
  case atStart => exact ⟨0, Nat.zero_le _, rfl, by obtain ⟨F, a, b, c, s, h⟩ := HI4.out; exact ⟨F, a, b, c, s, [], h⟩⟩
  case round =>
    clear HI4
    obtain ⟨j, hj, rfl, HK⟩ := hrel
    by_cases hlt : j < N
    case neg =>
      have hlti : ¬ (j : Int) < (N : Int) := by omega
      obtain ⟨F, a3, a4, a5, s, l, hI⟩ := HK.out
      have HB := Lib.hid hI.low
      clear hI HK
      go_wp2_with fail
      go_ret
      exact ⟨rfl, HB.out⟩
    case pos =>
      have hlti : (j : Int) < (N : Int) := by omega
      obtain ⟨F, a3, a4, a5, s, l, hI⟩ := HK.out
      obtain ⟨Av, cv, ev, _⟩ := own_form hI.row.1
      obtain ⟨m, hm⟩ : ∃ m, l.length = m := ⟨_, rfl⟩
      rw [hm] at ev
      subst ev
      have hmN : (m : Int) ≤ 1048576 := by have := hI.len; omega
      obtain ⟨b, o, hA, hbw, hcs⟩ := HR.out.rd (by omega)
      subst hA
      obtain ⟨x, hx⟩ : ∃ x, rs[j]? = some x := ⟨_, List.getElem?_eq_getElem (by rw [HR.out.len]; omega)⟩
      obtain ⟨hxo, hxc⟩ := hcs j x hx
      have hlow : ∀ jj, wr.cell? ⟨b, o + j * 5 + jj, none⟩ = w.cell? ⟨b, o + j * 5 + jj, none⟩ := fun jj => hI.low.cell (p := ⟨b, o + j * 5 + jj, none⟩) hbw
      obtain ⟨x0, x1, x2, x3, A4, x4, c4⟩ := x
      have z0 : wr.cell? ⟨b, o + j * 5, none⟩ = some (.int .i64 x0) := (hlow 0).trans (hxc 0 _ rfl)
      have z1 : wr.cell? ⟨b, o + j * 5 + 1, none⟩ = some (.int .i64 x1) := (hlow 1).trans (hxc 1 _ rfl)
      have z2 : wr.cell? ⟨b, o + j * 5 + 2, none⟩ = some (.int .i64 x2) := (hlow 2).trans (hxc 2 _ rfl)
      have z3 : wr.cell? ⟨b, o + j * 5 + 3, none⟩ = some (.int .i64 x3) := (hlow 3).trans (hxc 3 _ rfl)
      have z4 : wr.cell? ⟨b, o + j * 5 + 4, none⟩ = some (.slice A4 x4.length c4) := (hlow 4).trans (hxc 4 _ rfl)
      have nz0 := World.new_ne wr _ z0
      have HI := Lib.hid hI
      have HM := Lib.hid hm
      clear hI HK hcs hx hxo hxc hlow hm
      go_upto_region 10 with (fail)
      obtain ⟨w1, hw1⟩ : ∃ x, wr.alloc (.cells #[.int .i64 x0, .int .i64 x1, .int .i64 x2, .int .i64 x3, .slice A4 x4.length c4] 53) = x := ⟨_, rfl⟩
      obtain ⟨g, hg⟩ : ∃ g, wr.heap.size = g := ⟨_, rfl⟩
      have HI1 : Hid (FreshI w w1 p n j (.slice Av m cv) F a3 a4 a5 s l) := by rw [← hw1]; exact HI.out.below ((Below.refl _ _).alloc (Nat.le_refl _) _)
      have hx1 : w1.heap[g]? = some (.cells #[.int .i64 x0, .int .i64 x1, .int .i64 x2, .int .i64 x3, .slice A4 x4.length c4] 53 (0, 0)) := by rw [← hw1, ← hg]; exact heap_alloc_new wr _
      have HGF : Hid (g ∉ F) := fun hm => by have := HI.out.st.hF g hm; omega
      rw [hw1, hg]
      clear hw1 hg nz0 z0 z1 z2 z3 z4
      have hou := HI1.out.ok.u
      have hol := HI1.out.ok.l
      obtain ⟨hou0, hou1, hou2⟩ := hou
      have HLF := Lib.hid (Cr.left_any HI1.out.st.cred ⟨by omega, by omega⟩ ⟨hou0, by omega⟩)
      obtain ⟨lf, hlf⟩ : ∃ z, Cr.leftF s.l s.u = z := ⟨_, rfl⟩
      rw [hlf] at HLF
      have hlf2 : lf = leftS s := hlf.symm
      have HLS := Lib.hid hlf2
      clear hlf hlf2 hou2
      obtain ⟨hc0, hc1, _⟩ := HI1.out.st.cells
      go_wp2_with fail
      refine HLF.out.mono ?_
      rintro e w2 ⟨rfl, q2, hw2⟩
      have HI2 : Hid (FreshI w w2 p n j (.slice Av m cv) F a3 a4 a5 s l) := by rw [hw2]; exact HI1.out.below (below_dn (Below.refl _ _) _)
      have HX2 : Hid (w2.heap[g]? = some (.cells #[.int .i64 x0, .int .i64 x1, .int .i64 x2, .int .i64 x3, .slice A4 x4.length c4] 53 (0, 0))) := by rw [hw2]; exact hx1
      clear hw2 hx1 HI1 HLF hc0 hc1 HI
      have g0 := cell_slot (o := 0) HX2.out rfl
      have g1 := cell_slot (o := 1) HX2.out rfl
      have g2 := cell_slot (o := 2) HX2.out rfl
      have HP6 := Lib.hid (fun W => pick_any x0 6 W (by decide) (by decide))
      have hp6 : 0 ≤ x0 % 6 ∧ x0 % 6 < 6 := by omega
      obtain ⟨k, hk⟩ : ∃ k, x0 % 6 = k := ⟨_, rfl⟩
      rw [hk] at HP6 hp6
      clear hk
      go_wp2_with fail
      refine (HP6.out _).mono ?_; rintro e w' ⟨rfl, hw'⟩; subst hw'
      by_cases hk0 : k = 0
      · subst hk0
        clear hp6 HP6
        have HP : Hid (∀ W, Calls Try.prog 19 #[.int .i64 x1, .int .i64 1000] W fun e w' => e = .returned (.int .i64 (x1 % 1000)) ∧ w' = W) := fun W => (pick_any x1 1000 W (by decide) (by decide)).mono fun _ _ h => ⟨h.1, h.2.symm⟩
        obtain ⟨rz, hrz⟩ : ∃ k, x1 % 1000 = k := ⟨_, rfl⟩
        rw [hrz] at HP
        clear hrz
        go_wp2_with fail
        refine still_tail 6 (by kernel_rfl) (by kernel_rfl) ?_
        intro wz hwz
        have HIZ : Hid (FreshI w wz p n j (.slice Av m cv) F a3 a4 a5 s l) := by rw [hwz]; exact HI2.out.below ((Below.refl _ _).drew)
        replace g1 : wz.cell? ⟨g, 1, none⟩ = some (.int .i64 x1) := by rw [hwz]; exact g1
        clear hwz g0 g2 HX2
        simp only [List.take_succ_cons, List.take_zero, List.drop_succ_cons, List.drop_zero]
        iterate 5 still_step
        still_call (HP.out _)
        refine wpStill_nil ?_
        go_wp2_with fail
        refine (Cr.raise_any HIZ.out.st.cred rz).mono ?_
        rintro e w3 ⟨rfl, hcr⟩
        have hs3 := HIZ.out.st.toCred hcr
        have hrs : (⟨if Cr.raiseB s.l rz = true then rz else s.l, s.u, s.id, s.bs, s.lost, s.came, s.fd, s.fin, s.rs, s.code, s.sure, s.br⟩ : St) = raiseS s rz := by unfold raiseS Cr.raiseB; simp only [decide_eq_true_eq]
        rw [hrs] at hs3
        obtain ⟨F3, b3, b4, b5, hI3⟩ := HIZ.out.step hs3 (HIZ.out.ok.raise rz) HIZ.out.fd HIZ.out.rs rfl
        have HI3 := Lib.hid hI3
        clear hs3 hcr hrs hI3
        obtain ⟨lz, hd0, hlz⟩ : ∃ lz, w3.cell? ⟨p, 0, none⟩ = some (.int .i64 lz) ∧ s.u ≤ lz := ⟨_, HI3.out.st.cells.1, HI3.out.ok.u.2.1⟩
        have hd1 : w3.cell? ⟨p, 1, none⟩ = some (.int .i64 (s.u)) := HI3.out.st.cells.2.1
        have hun : s.u ≤ (n : Int) := by have h1 : s.u ≤ _ := HI3.out.ok.u.2.2; have h2 := HI3.out.n; have h3 : _ = ((n : Nat) : Int) := congrArg Int.ofNat h2; exact Int.le_trans h1 (Int.le_of_eq h3)
        have e1 : decide (s.u < s.u) = false := decide_eq_false (by omega)
        have e2 : decide (lz < s.u) = false := decide_eq_false (by omega)
        have e3 : decide ((n : Int) < s.u) = false := decide_eq_false (by omega)
        clear hlz hun
        go_wp2_with fail
        go_quiet (fail)
        have HI4 := Lib.hid (HI3.out.below (below_dn (Below.refl _ _) nq)).succ
        go_wp2_with fail
        go_roundw
        case rel => exact ⟨j + 1, by omega, by go_num, _, _, _, _, _, _, HI4.out⟩
        case measure => simp [intOf]; omega
      by_cases hk1 : k = 1
      · subst hk1
        clear hp6 HP6 hk0
        by_cases hm0 : m = 0
        · subst hm0
          have HI3 := HI2
          obtain ⟨lz, hd0, hlz⟩ : ∃ lz, w2.cell? ⟨p, 0, none⟩ = some (.int .i64 lz) ∧ s.u ≤ lz := ⟨_, HI3.out.st.cells.1, HI3.out.ok.u.2.1⟩
          have hd1 : w2.cell? ⟨p, 1, none⟩ = some (.int .i64 (s.u)) := HI3.out.st.cells.2.1
          have hun : s.u ≤ (n : Int) := by have h1 : s.u ≤ _ := HI3.out.ok.u.2.2; have h2 := HI3.out.n; have h3 : _ = ((n : Nat) : Int) := congrArg Int.ofNat h2; exact Int.le_trans h1 (Int.le_of_eq h3)
          have e1 : decide (s.u < s.u) = false := decide_eq_false (by omega)
          have e2 : decide (lz < s.u) = false := decide_eq_false (by omega)
          have e3 : decide ((n : Int) < s.u) = false := decide_eq_false (by omega)
          clear hlz hun
          go_wp2_with fail
          go_quiet (fail)
          have HI4 := Lib.hid (HI3.out.below (below_dn (Below.refl _ _) nq)).succ
          go_wp2_with fail
          go_roundw
          case rel => exact ⟨j + 1, by omega, by go_num, _, _, _, _, _, _, HI4.out⟩
          case measure => simp [intOf]; omega
        · have hm1I : decide (0 < m) = true := decide_eq_true (by omega)
          have hm2I : 0 < (m : Int) := by omega
          obtain ⟨qn, hqn, hqm⟩ : ∃ q : Nat, x1 % (m : Int) = (q : Int) ∧ q < m := ⟨(x1 % (m : Int)).toNat, by have := Int.emod_nonneg x1 (show (m : Int) ≠ 0 by omega); omega, by have := Int.emod_lt_of_pos x1 hm2I; have := Int.emod_nonneg x1 (show (m : Int) ≠ 0 by omega); omega⟩
          have HP := Lib.hid (fun W => pick_any x1 (m : Int) W hm2I (by omega))
          rw [hqn] at HP
          obtain ⟨bb, oo, f, hA, hfl, hfo, hfc⟩ := HI2.out.row.get qn (by have := HM.out; omega)
          subst hA
          obtain ⟨fk, fid, foff, fa, fb, fno, ffin, fA, fn, fc, fA2, fn2, fc2⟩ := f
          have d0 : w2.cell? ⟨bb, oo + qn * 9, none⟩ = some (.int .i64 fk) := hfc 0 _ rfl
          have d1 : w2.cell? ⟨bb, oo + qn * 9 + 1, none⟩ = some (.int .i64 fid) := hfc 1 _ rfl
          have d2 : w2.cell? ⟨bb, oo + qn * 9 + 2, none⟩ = some (.int .i64 foff) := hfc 2 _ rfl
          have d3 : w2.cell? ⟨bb, oo + qn * 9 + 3, none⟩ = some (.int .i64 fa) := hfc 3 _ rfl
          have d4 : w2.cell? ⟨bb, oo + qn * 9 + 4, none⟩ = some (.int .i64 fb) := hfc 4 _ rfl
          have d5 : w2.cell? ⟨bb, oo + qn * 9 + 5, none⟩ = some (.int .i64 fno) := hfc 5 _ rfl
          have d6 : w2.cell? ⟨bb, oo + qn * 9 + 6, none⟩ = some (.bool ffin) := hfc 6 _ rfl
          have d7 : w2.cell? ⟨bb, oo + qn * 9 + 7, none⟩ = some (.slice fA fn fc) := hfc 7 _ rfl
          have d8 : w2.cell? ⟨bb, oo + qn * 9 + 8, none⟩ = some (.slice fA2 fn2 fc2) := hfc 8 _ rfl
          have hqI : (qn : Int) < (m : Int) := by omega
          have HFO := Lib.hid hfo
          clear hqn hfc hfl hfo hm0
          go_wp2_with fail
          refine (HP.out _).mono ?_; rintro e w' ⟨rfl, hw'⟩; subst hw'
          go_wp2_with fail
          refine (lost_st HI2.out.st HI2.out.ok fk fid foff fa fb fno ffin fA fn fc fA2 fn2 fc2 HFO.out.1 HFO.out.2).mono ?_
          rintro e w3 ⟨rfl, hs3⟩
          obtain ⟨F3, b3, b4, b5, hI3⟩ := HI2.out.step hs3 (HI2.out.ok.lose _) HI2.out.fd HI2.out.rs rfl
          have HI3 := Lib.hid hI3
          clear hs3 hI3 d0 d1 d2 d3 d4 d5 d6 d7 d8 g0 g1 g2
          obtain ⟨lz, hd0, hlz⟩ : ∃ lz, w3.cell? ⟨p, 0, none⟩ = some (.int .i64 lz) ∧ s.u ≤ lz := ⟨_, HI3.out.st.cells.1, HI3.out.ok.u.2.1⟩
          have hd1 : w3.cell? ⟨p, 1, none⟩ = some (.int .i64 (s.u)) := HI3.out.st.cells.2.1
          have hun : s.u ≤ (n : Int) := by have h1 : s.u ≤ _ := HI3.out.ok.u.2.2; have h2 := HI3.out.n; have h3 : _ = ((n : Nat) : Int) := congrArg Int.ofNat h2; exact Int.le_trans h1 (Int.le_of_eq h3)
          have e1 : decide (s.u < s.u) = false := decide_eq_false (by omega)
          have e2 : decide (lz < s.u) = false := decide_eq_false (by omega)
          have e3 : decide ((n : Int) < s.u) = false := decide_eq_false (by omega)
          clear hlz hun
          go_wp2_with fail
          go_quiet (fail)
          have HI4 := Lib.hid (HI3.out.below (below_dn (Below.refl _ _) nq)).succ
          go_wp2_with fail
          go_roundw
          case rel => exact ⟨j + 1, by omega, by go_num, _, _, _, _, _, _, HI4.out⟩
          case measure => simp [intOf]; omega
      · have hk0b : (k == 0) = false := by simpa using hk0
        have hk1b : (k == 1) = false := by simpa using hk1
        clear hk0 hk1 hp6 HP6
        have HPB := Lib.hid (fun W => pick_any x2 90 W (by decide) (by decide))
        obtain ⟨most, hmo⟩ : ∃ k, x2 % 90 = k := ⟨_, rfl⟩
        have hmo0 : 0 ≤ most ∧ most < 90 := by omega
        rw [hmo] at HPB
        have HPA := Lib.hid (fun W => pick_any x1 160 W (by decide) (by decide))
        obtain ⟨room, hro⟩ : ∃ k, x1 % 160 = k := ⟨_, rfl⟩
        have hro0 : room < 160 := by omega
        rw [hro] at HPA
        clear hmo hro
        go_wp2_with fail
        refine (HPB.out _).mono ?_; rintro e w' ⟨rfl, hw'⟩; subst hw'
        go_wp2_with fail
        refine (HPA.out _).mono ?_; rintro e w' ⟨rfl, hw'⟩; subst hw'
        go_wp2_with fail
        refine (next_st HI2.out.st HI2.out.ok room most (by omega)).mono ?_
        rintro e w3 (⟨hno, rfl, hs3⟩ | ⟨ai, ni, fin, fresh, Ad, cd, F3, b3, b4, b5, hNI, rfl, hst3, hk3, hn3, ho3, hf3⟩)
        · obtain ⟨F3, b3, b4, b5, hI3⟩ := HI2.out.step hs3 HI2.out.ok HI2.out.fd HI2.out.rs rfl
          have HI3 := Lib.hid hI3
          clear hno hs3 hI3 g0 g1 g2
          go_upto_region 15 with (fail)
          obtain ⟨w4, hw4⟩ : ∃ x, w3.alloc (.cells #[.int .i64 0, .int .i64 0, .int .i64 0, .int .i64 0, .int .i64 0, .int .i64 0, .bool false, .slice none 0 0, .slice none 0 0] 30) = x := ⟨_, rfl⟩
          have HI4 : Hid (FreshI w w4 p n (j + 1) (.slice Av m cv) F3 b3 b4 b5 s l) := by rw [← hw4]; exact (HI3.out.below ((Below.refl _ _).alloc (Nat.le_refl _) _)).succ
          rw [hw4]
          clear hw4
          have hc1 : w4.cell? ⟨p, 1, none⟩ = some (.int .i64 s.u) := HI4.out.st.cells.2.1
          go_wp2_with fail
          go_roundw
          case rel => exact ⟨j + 1, by omega, by go_num, _, _, _, _, _, _, HI4.out⟩
          case measure => simp [intOf]; omega
        · obtain ⟨e1, e2, e3, e4, e5, e6, e7, e8, e9, e10⟩ := hNI.facts HI2.out.ok
          have hfd : fin = false := by rw [hNI.ef]; unfold finS; rw [HI2.out.fd]; rfl
          subst hfd
          have hni0 : ni ≠ 0 := fun h0 => hNI.some' ⟨by rw [h0]; rfl, by simp⟩
          have hmost : fresh ≤ most := by
            rcases hNI.where' HI2.out.ok with ⟨_, k1, k2, _, k3, k4, _⟩ | ⟨_, k1, k2, k3⟩
            · omega
            · have k5 := hNI.ea
              unfold leftS at k3
              omega
          have hI3 : FreshI w w3 p n j (.slice Av m cv) F3 b3 b4 b5 (putS s ai ni false fresh) l :=
            ⟨hst3, HI2.out.ok.put hNI, HI2.out.fd, HI2.out.rs, HI2.out.n, HI2.out.row.kept hk3 hn3, HI2.out.len, HI2.out.low.trans (hk3.below HI2.out.low.size HI2.out.lo), fun k hk => (hn3 k hk).elim (HI2.out.lo k) (fun h => Nat.le_trans HI2.out.low.size h)⟩
          have HI3 := Lib.hid hI3
          have hai : (ai : Int) ≤ 4000 := by have := HI2.out.ok.u; have := HI2.out.ok.n; omega
          have hni : (ni : Int) ≤ 120 := e3
          have hlf : fresh ≤ lf := by rw [HLS.out]; exact e7
          have hniI : ((ni : Int) == 0) = false := by simp; exact hni0
          have h8 : (s.u + fresh != max s.u ((ai : Int) + (ni : Int))) = false := by rw [e8]; simp
          have hcase : (0 < fresh ∧ (((ai : Int) != s.u) = false)) ∨ ¬ 0 < fresh := by
            by_cases h0 : 0 < fresh
            · exact .inl ⟨h0, by rw [e9 h0]; simp⟩
            · exact .inr h0
          have HE8 := Lib.hid e8
          have hsu : s.u + fresh ≤ 4000 := by have h1 : s.u + fresh ≤ (s.bs.length : Int) := hI3.ok.u.2.2; have := HI2.out.ok.n; omega
          clear hst3 hk3 hn3 ho3 hf3 hI3 e1 e2 e3 e4 e5 e7 e8 e9 e10 hNI g0 g1 g2 HX2 hni0
          go_upto_region 15 with (fail)
          obtain ⟨w4, hw4⟩ : ∃ x, w3.alloc (.cells #[.int .i64 3, .int .i64 s.id, .int .i64 (ai : Int), .int .i64 0, .int .i64 0, .int .i64 0, .bool false, .slice Ad ni cd, .slice none 0 0] 30) = x := ⟨_, rfl⟩
          obtain ⟨g4, hg4⟩ : ∃ g, w3.heap.size = g := ⟨_, rfl⟩
          have HI4 : Hid (FreshI w w4 p n j (.slice Av m cv) F3 b3 b4 b5 (putS s ai ni false fresh) l) := by rw [← hw4]; exact HI3.out.below ((Below.refl _ _).alloc (Nat.le_refl _) _)
          have HG4 : Hid (w4.heap[g4]? = some (.cells #[.int .i64 3, .int .i64 s.id, .int .i64 (ai : Int), .int .i64 0, .int .i64 0, .int .i64 0, .bool false, .slice Ad ni cd, .slice none 0 0] 30 (0, 0))) := by rw [← hw4, ← hg4]; exact heap_alloc_new w3 _
          have HGN : Hid (g4 ∉ fp (.slice Av m cv) ∧ g4 < w4.heap.size) := ⟨fun hm => by have := (HI3.out.row.1.lt g4 (fp_own.1 hm)).2; omega, lt_of_block HG4.out⟩
          rw [hw4, hg4]
          clear hw4 hg4
          have z0 := cell_slot (o := 0) HG4.out rfl
          have z1 := cell_slot (o := 1) HG4.out rfl
          have z2 := cell_slot (o := 2) HG4.out rfl
          have z3 := cell_slot (o := 3) HG4.out rfl
          have z4 := cell_slot (o := 4) HG4.out rfl
          have z5 := cell_slot (o := 5) HG4.out rfl
          have z6 := cell_slot (o := 6) HG4.out rfl
          have z7 := cell_slot (o := 7) HG4.out rfl
          have z8 := cell_slot (o := 8) HG4.out rfl
          obtain ⟨i0, hi, hz0, hz1, hz2⟩ := info_parts infoF
          have HI0 := Lib.hid (And.intro hi (And.intro hz0 (And.intro hz1 hz2)))
          have hd1 : Hid (Rd (w4.alloc (.cells #[.int .i64 3, .int .i64 s.id, .int .i64 (ai : Int), .int .i64 0, .int .i64 0, .int .i64 0, .bool false, .slice Ad ni cd, .slice none 0 0] 30)) (w4.heap.size + 1) (some ⟨w4.heap.size, 0, none⟩) (1 * 9) (Fv.cells ⟨3, s.id, ai, 0, 0, 0, false, Ad, ni, cd, none, 0, 0⟩)) := rd_new _ _ _ _ _ _ _ rfl (by omega) rfl rfl
          have hd2 : Hid (m + 1 ≤ maxLen ∧ (m + 1) * 104 ≤ 140737488355328) := ⟨by unfold maxLen; omega, by omega⟩
          have HI5 := Lib.hid (HI4.out.below ((Below.refl _ _).alloc (Nat.le_refl _) (.cells #[.int .i64 3, .int .i64 s.id, .int .i64 (ai : Int), .int .i64 0, .int .i64 0, .int .i64 0, .bool false, .slice Ad ni cd, .slice none 0 0] 30)))
          have HO5 : Hid ((w4.alloc (.cells #[.int .i64 3, .int .i64 s.id, .int .i64 (ai : Int), .int .i64 0, .int .i64 0, .int .i64 0, .bool false, .slice Ad ni cd, .slice none 0 0] 30)).ownsRow w.heap.size 30 9 (.slice Av m cv) m (fvs l)) := by have := HI5.out.row.1; rw [HM.out] at this; exact this
          have hd4 : Hid (w.heap.size ≤ (w4.alloc (.cells #[.int .i64 3, .int .i64 s.id, .int .i64 (ai : Int), .int .i64 0, .int .i64 0, .int .i64 0, .bool false, .slice Ad ni cd, .slice none 0 0] 30)).heap.size) := HI5.out.low.size
          clear hi hz0 hz1 hz2
          go_wp2_with (at_builtin; refine wpList_app_at _ rfl (.tmp 74) (.tmp 76) 51 rfl w.heap.size 30 i0 _ 9 104 Try.underlying51 HI0.out.1 HI0.out.2.1 HI0.out.2.2.1 HI0.out.2.2.2 rfl (by decide) (.slice Av m cv) m (fvs l) rfl HO5.out (w4.heap.size + 1) (some ⟨w4.heap.size, 0, none⟩) 1 _ (Fv.cells ⟨3, s.id, ai, 0, 0, 0, false, Ad, ni, cd, none, 0, 0⟩) rfl hd1.out (ones_fv _) hd2.out.1 hd2.out.2 hd4.out ?_)
          intro v6 w6 ho6 hg6 hn6
          have hI6 := HI5.out.push (f := ⟨3, s.id, ai, 0, 0, 0, false, Ad, ni, cd, none, 0, 0⟩) hg6 (by rw [HM.out]; exact ho6) (by simpa using hn6) ⟨⟨by show (0 : Int) ≤ (ai : Int); omega, by show (ai : Int) ≤ _; omega⟩, by show ni ≤ _; omega⟩
          have HI6 := Lib.hid hI6
          have HG6 : Hid (w6.heap[g4]? = some (.cells #[.int .i64 3, .int .i64 s.id, .int .i64 (ai : Int), .int .i64 0, .int .i64 0, .int .i64 0, .bool false, .slice Ad ni cd, .slice none 0 0] 30 (0, 0))) :=
            (hg6.block g4 (by have := HGN.out.2; simp; omega) (fun e => HGN.out.1 (fp_own.2 e.symm))).trans ((Below.heap_alloc _ _ _ HGN.out.2).trans HG4.out)
          obtain ⟨A6, c6, e6', _⟩ := own_form ho6
          subst e6'
          clear ho6 hg6 hn6 hI6 z0 z1 z2 z3 z4 z5 z6 z7 z8
          have z2 := cell_slot (o := 2) HG6.out rfl
          have z7 := cell_slot (o := 7) HG6.out rfl
          have hc1 : w6.cell? ⟨p, 1, none⟩ = some (.int .i64 (s.u + fresh)) := HI6.out.st.cells.2.1
          have hcs := hcase
          clear hcase
          have hou1' : s.u ≤ 4000 := by omega
          rcases hcs with ⟨hf0, hau⟩ | hf0
          · clear h8
            have h8 : (s.u + fresh != max s.u ((ai : Int) + (ni : Int))) = false := by rw [HE8.out]; simp
            obtain ⟨lz, hd0, hlz⟩ : ∃ lz, w6.cell? ⟨p, 0, none⟩ = some (.int .i64 lz) ∧ s.u + fresh ≤ lz := ⟨_, HI6.out.st.cells.1, HI6.out.ok.u.2.1⟩
            have hd1 : w6.cell? ⟨p, 1, none⟩ = some (.int .i64 (s.u + fresh)) := HI6.out.st.cells.2.1
            have hun : s.u + fresh ≤ (n : Int) := by have h1 : s.u + fresh ≤ _ := HI6.out.ok.u.2.2; have h2 := HI6.out.n; have h3 : _ = ((n : Nat) : Int) := congrArg Int.ofNat h2; exact Int.le_trans h1 (Int.le_of_eq h3)
            have e1 : decide (s.u + fresh < s.u) = false := decide_eq_false (by omega)
            have e2 : decide (lz < s.u + fresh) = false := decide_eq_false (by omega)
            have e3 : decide ((n : Int) < s.u + fresh) = false := decide_eq_false (by omega)
            clear hlz hun
            go_wp2_with fail
            go_quiet (fail)
            have HI4 := Lib.hid (HI6.out.below (below_dn (Below.refl _ _) nq))
            go_wp2_with fail
            go_roundw
            case rel => exact ⟨j + 1, by omega, by go_num, _, _, _, _, _, _, HI4.out⟩
            case measure => simp [intOf]; omega
          · have h8 : (s.u + fresh != max s.u ((ai : Int) + (ni : Int))) = false := by rw [HE8.out]; simp
            obtain ⟨lz, hd0, hlz⟩ : ∃ lz, w6.cell? ⟨p, 0, none⟩ = some (.int .i64 lz) ∧ s.u + fresh ≤ lz := ⟨_, HI6.out.st.cells.1, HI6.out.ok.u.2.1⟩
            have hd1 : w6.cell? ⟨p, 1, none⟩ = some (.int .i64 (s.u + fresh)) := HI6.out.st.cells.2.1
            have hun : s.u + fresh ≤ (n : Int) := by have h1 : s.u + fresh ≤ _ := HI6.out.ok.u.2.2; have h2 := HI6.out.n; have h3 : _ = ((n : Nat) : Int) := congrArg Int.ofNat h2; exact Int.le_trans h1 (Int.le_of_eq h3)
            have e1 : decide (s.u + fresh < s.u) = false := decide_eq_false (by omega)
            have e2 : decide (lz < s.u + fresh) = false := decide_eq_false (by omega)
            have e3 : decide ((n : Int) < s.u + fresh) = false := decide_eq_false (by omega)
            clear hlz hun
            go_wp2_with fail
            go_quiet (fail)
            have HI4 := Lib.hid (HI6.out.below (below_dn (Below.refl _ _) nq))
            go_wp2_with fail
            go_roundw
            case rel => exact ⟨j + 1, by omega, by go_num, _, _, _, _, _, _, HI4.out⟩
            case measure => simp [intOf]; omega
end Go.Proofs.Ytppbhjjkccogkaa.Se
