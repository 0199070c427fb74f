/- SendSure: the walk (printed by gen/sendn.py). Conditions: the fates' row is an argument's. -/
import Derived.Test.YtppbhjjkccogkaaJWl
import Derived.Test.YtppbhjjkccogkaaJSnKn
import Derived.Test.YtppbhjjkccogkaaJOp
set_option linter.unusedSimpArgs false
set_option linter.unusedVariables false

namespace Go.Proofs.Ytppbhjjkccogkaa.Se
open Go Go.RowKit Go.Proofs.Ytppbhjjkccogkaa Go.Proofs.Ytppbhjjkccogkaa.Sp Go.Proofs.Ytppbhjjkccogkaa.Sp.Ref

theorem StTo.rest2 {W W' : World} {p lo : Nat} {F : List Nat} {s' : St} (ht : StTo W W' p F s') (hF : ∀ k ∈ F, lo ≤ k) (hlo : lo ≤ W.heap.size) : ∃ F' a b c, StIn W' p F' a b c s' ∧ (∀ k ∈ F', lo ≤ k) ∧ Below lo W W' := by
  obtain ⟨F', a, b, c, h1, h2, h3⟩ := ht
  exact ⟨F', a, b, c, h1, fun k hk => (h3 k hk).elim (hF k) (fun h => Nat.le_trans hlo h), h2.below hlo hF⟩
/-- The stream somewhere, all of it new memory. -/
def Here (w wr : World) (p : Nat) (s : St) : Prop := ∃ F a b c, StIn wr p F a b c s ∧ (∀ k ∈ F, w.heap.size ≤ k) ∧ Below w.heap.size w wr
theorem Here.below {w wr w' : World} {p : Nat} {s : St} (h : Here w wr p s) (hb : Below wr.heap.size wr w') : Here w w' p s := by
  obtain ⟨F, a, b, c, h1, h2, h3⟩ := h
  exact ⟨F, a, b, c, h1.below hb, h2, h3.trans (hb.mono h3.size)⟩
theorem Here.to {w wr w' : World} {p : Nat} {s s' : St} {F : List Nat} {a b c : Value} (h1 : StIn wr p F a b c s) (h2 : ∀ k ∈ F, w.heap.size ≤ k) (h3 : Below w.heap.size w wr) (ht : StTo wr w' p F s') : Here w w' p s' := by
  obtain ⟨F', a', b', c', g1, g2, g3⟩ := ht.rest2 h2 h3.size
  exact ⟨F', a', b', c', g1, g2, h3.trans g3⟩
theorem below_dm {B : Nat} {w w1 : World} (h : Below B w w1) (m : Nat) : Below B w (w1.drewN m) := ⟨h.os, h.tape, h.output, h.size, h.block⟩
def RS (s : St) (E : Int) : St := ⟨s.l, s.u, s.id, s.bs, s.lost, s.came, s.fd, s.fin, true, 5, E, 0⟩
theorem Pr.RS {s : St} (h : Pr s) (E : Int) (hE : 0 ≤ E ∧ E ≤ (s.bs.length : Int)) : Pr (RS s E) :=
  ⟨⟨h.ok.id, h.ok.l, h.ok.u, h.ok.n, h.ok.by', h.ok.lost, h.ok.lostU, h.ok.came, h.ok.cameU, h.ok.fin, by show (0 : Int) ≤ 0 ∧ (0 : Int) ≤ 3; decide, hE, by show (0 : Int) ≤ 5 ∧ (5 : Int) ≤ 4611686018427387903; decide⟩, h.dis, h.cov⟩
theorem RS_lost (s : St) (E : Int) (a : Int) (n : Nat) : lostS (Se.RS s E) ⟨3, s.id, a, 0, false, n⟩ = Se.RS (lostS s ⟨3, s.id, a, 0, false, n⟩) E := by
  have e2 : newsS (Se.RS s E) ⟨3, s.id, a, 0, false, n⟩ = 0 := by
    unfold newsS
    rw [if_neg (by show ¬ (s.id ≠ s.id); simp), if_neg (by show ¬ (_ ∧ false = true ∧ _); simp), if_neg (by show ¬ ((3 : Int) = 4 ∧ _); simp)]
  have e3 : newsS s ⟨3, s.id, a, 0, false, n⟩ = 0 := by
    unfold newsS
    rw [if_neg (by show ¬ (s.id ≠ s.id); simp), if_neg (by show ¬ (_ ∧ false = true ∧ _); simp), if_neg (by show ¬ ((3 : Int) = 4 ∧ _); simp)]
  unfold lostS
  rw [e2, e3]
  rfl
def st0 (out : List Nat) : St := ⟨400, 0, 2, out, [], [], false, 0, false, 0, 0, 0⟩
theorem Pr.st0 (out : List Nat) (h : out.length ≤ 4000) (h2 : ∀ c ∈ out, c < 256) : Pr (Se.st0 out) := by
  have hok := (newS_ok 2 (by decide)).write out h2
  have e : (writeS (newS 2) out).2 = Se.st0 out := by
    unfold writeS
    rw [if_neg (by simp [newS]), if_neg (by show ¬ 4000 < 0 + out.length; omega)]
    rfl
  rw [e] at hok
  exact ⟨hok, (fun x hx => by simp [Se.st0, mem, up, oddB] at hx), fun x h0 h1 => by have : x < 0 := h1; omega⟩
theorem reset_ok {s : St} (h1 : s.fd = false) (h2 : s.rs = false) {E : Int} (hE : 0 ≤ E ∧ E ≤ (s.bs.length : Int)) : resetS s 5 E = (0, RS s E) := by
  have hd : doneS s = false := by unfold doneS; rw [h1, h2]; rfl
  unfold resetS
  rw [if_neg (by omega), if_neg (by rw [hd, h2]; simp), h2]
  rfl
theorem turn_nil {u t : Int} (h0 : 0 ≤ u) (hut : u < t) (hT : t ≤ 4611686018427387904) : turn [] u t true = [u, t] :=
  ok_eq (ok_turn _ _ _ _ ok_nil) (ok_two h0 hut hT) fun n => by
    rw [mem_turn _ _ _ _ ok_nil, clamp_id h0 (by omega), clamp_id (by omega) hT, mem_pair u t [] n (ok_two h0 hut hT).1]
    rw [show mem [] n = false from rfl]
    by_cases hc : u ≤ n ∧ n < t
    · rw [if_pos hc]; simp [hc.1, hc.2]
    · rw [if_neg hc]; simp; omega
/-- How little is left ahead of the first turn. -/
theorem wt_first {s : St} (h : s.lost = [] ∨ ∃ f t, s.lost = [f, t] ∧ t ≤ f + 120) (E : Int) : wt E s.lost ≤ 170 := by
  rcases h with h | ⟨f, t, h, ht⟩
  · rw [h]; show (0 : Int) ≤ 170; decide
  · rw [h]
    show (if f < E then 50 + (min t E - f) else 0) + 0 ≤ 170
    split <;> omega
/-- Ahead of the loop: what is lost already was sent. -/
def Ahead (out : List Nat) (E top : Int) (s : St) : Prop := Pr s ∧ s.rs = true ∧ s.fd = false ∧ s.id = 2 ∧ s.code = 5 ∧ s.sure = E ∧ s.bs = out ∧ s.br = 0 ∧ s.u = top ∧ (s.lost = [] ∨ ∃ f t, s.lost = [f, t] ∧ t ≤ f + 120)
theorem Ahead.sure {out : List Nat} {E top : Int} {s : St} (h : Ahead out E top s) (hl : out.length ≤ 499) (n : Int) : SureP E top 0 false (raiseS s n) := by
  obtain ⟨h1, h2, h3, h4, h5, h6, h7, h8, h9, h10⟩ := h
  have hp : Pr (raiseS s n) := ⟨h1.ok.raise n, h1.dis, h1.cov⟩
  have hu := h1.ok.u
  have hs := h1.ok.sure
  rw [h7] at hu hs
  refine ⟨hp, h2, h3, h4, h5, h6, by show s.bs.length ≤ 499; rw [h7]; exact hl, .inl ⟨rfl, h8⟩, ⟨by show top ≤ s.u; omega, by show s.u ≤ max top E; omega⟩, ?_⟩
  have hw := wt_first h10 E
  have hE : endS (raiseS s n) = E := by unfold endS; rw [if_pos (show (raiseS s n).rs = true from h2)]; exact h6
  have : phi (raiseS s n) ≤ 170 + 499 + 50 := by
    unfold phi
    rw [hE]
    show wt E s.lost + max 0 (min E _ - s.u) + _ ≤ _
    split <;> omega
  show phi (raiseS s n) + _ + 50 * 0 ≤ 3000 + 100 * min 0 60
  split <;> omega

set_option maxRecDepth 100000 in
set_option maxHeartbeats 16000000 in
theorem sure_walk (a0 a1 a2 a3 : Int) (A : Option Addr) (cap : Nat) (fs : List Int) (w : World) (h0 : -9223372036854775808 ≤ a0) (h0' : a0 ≤ 9223372036854775807) (h1 : -9223372036854775808 ≤ a1) (h1' : a1 ≤ 9223372036854775807) (h2 : -9223372036854775808 ≤ a2) (h2' : a2 ≤ 9223372036854775807) (h3 : -9223372036854775808 ≤ a3) (h3' : a3 ≤ 9223372036854775807) (hr : IsInts w A cap fs) :
    Calls Try.prog 6 #[.int .i64 a0, .int .i64 a1, .int .i64 a2, .int .i64 a3, .slice A fs.length cap] w fun e w' => e = .returned (.bool true) ∧ Below w.heap.size w w' := by
  have HR := Lib.hid hr
  have hncI : (fs.length : Int) ≤ (cap : Int) := by have := hr.cap; omega
  have hnI : (fs.length : Int) ≤ 17592186044416 := by have := hr.reach; omega
  clear hr
  obtain ⟨n, hn, hn5⟩ : ∃ x : Nat, a0 % 500 = (x : Int) ∧ x < 500 := ⟨(a0 % 500).toNat, by omega, by omega⟩
  have HP0 := Lib.hid (fun W => pick_any a0 500 W (by decide) (by decide))
  rw [hn] at HP0
  obtain ⟨mo, hmo⟩ : ∃ x, a1 % 120 = x := ⟨_, rfl⟩
  have HP1 := Lib.hid (fun W => pick_any a1 120 W (by decide) (by decide))
  rw [hmo] at HP1
  have hE1 : (0 : Int) < (n : Int) + 1 := by omega
  obtain ⟨E, hE, hE0, hE2⟩ : ∃ x : Int, a2 % ((n : Int) + 1) = x ∧ 0 ≤ x ∧ x ≤ n := ⟨_, rfl, Int.emod_nonneg _ (by omega), by have := Int.emod_lt_of_pos a2 hE1; omega⟩
  have HP2 := Lib.hid (fun W => pick_any a2 ((n : Int) + 1) W hE1 (by omega))
  rw [hE] at HP2
  obtain ⟨lz, hlz⟩ : ∃ x : Int, a3 % 200 = x := ⟨_, rfl⟩
  have hlz2 : 0 ≤ lz ∧ lz < 200 := by omega
  obtain ⟨hlz3, hlz4⟩ := hlz2
  have HP3 : Hid (∀ W, Calls Try.prog 19 #[.int .i64 a3, .int .i64 200] W fun e w' => e = .returned (.int .i64 lz) ∧ w' = W) := fun W => by
    have := pick_any a3 200 W (by decide) (by decide)
    rw [hlz] at this
    exact this.mono fun _ _ h => ⟨h.1, h.2.symm⟩
  clear hn hmo hE hlz
  have HNEW := Lib.hid (fun W => new_st W 2)
  have HKN := Lib.hid SnKn.known_any
  have HTX := Lib.hid (fun W => text_any [] none 0 n W (Rd.nil _ _ _) (by omega) (Nat.le_refl _) (by simp))
  go_enter Try.func6, Try.ntmps6
  go_wp2_with fail
  refine (HNEW.out _).mono ?_
  rintro e w1 ⟨p, F1, x1, y1, c1, rfl, hs1, hF1, hb1⟩
  have HS1 : Hid (Here w w1 p (newS 2)) := ⟨_, _, _, _, hs1, hF1, hb1⟩
  clear hs1 hb1 hF1
  go_wp2_with fail
  refine (HKN.out w1).mono ?_
  rintro e w2 ⟨rfl, hb2⟩
  have HS2 := Lib.hid (HS1.out.below hb2)
  clear hb2 HS1
  go_wp2_with fail
  refine (HP0.out _).mono ?_; rintro e w' ⟨rfl, hw'⟩; subst hw'
  go_wp2_with fail
  refine (HTX.out _).mono ?_
  rintro e w3 ⟨A3, c3, rfl, out, ho1, ho2, ho3, ho4⟩
  have HS3 := Lib.hid (HS2.out.below ho4)
  obtain ⟨_, _, e3, _, _, _, hrd3⟩ := own_form ho3
  simp only [Value.slice.injEq] at e3
  obtain ⟨rfl, _, rfl⟩ := e3
  rw [Nat.mul_one] at hrd3
  subst ho1
  have HO3 := Lib.hid hrd3
  have HLT := Lib.hid ho2
  clear ho2 ho3 ho4 hrd3 HS2
  obtain ⟨F3, x3, y3, z3, hs3, hF3, hb3⟩ := HS3.out
  have HSI := Lib.hid hs3
  have HFI := Lib.hid hF3
  have HBI := Lib.hid hb3
  clear hs3 hF3 hb3
  go_wp2_with fail
  refine (write_st HSI.out (by show (0 : Nat) ≤ 4000; omega) out w3.heap.size _ _ HO3.out (by omega)).mono ?_
  rintro e w4 ⟨rfl, hs4⟩
  have he4 : (writeS (newS 2) out) = (0, st0 out) := by
    unfold writeS
    rw [if_neg (by simp [newS]), if_neg (by show ¬ 4000 < 0 + out.length; omega)]
    rfl
  rw [he4] at hs4 ⊢
  have HS4 : Hid (Here w w4 p (st0 out)) := Here.to HSI.out HFI.out HBI.out hs4
  have HPR := Lib.hid (Pr.st0 out (by omega) HLT.out)
  clear hs4 HSI HFI HBI HS3 HO3 HLT he4
  obtain ⟨n, hno⟩ : ∃ n, out.length = n := ⟨_, rfl⟩
  have HNO := Lib.hid hno
  rw [hno] at hn5 HP2 hE1 hE2 ⊢
  clear hno
  go_wp2_with fail
  refine (HP1.out _).mono ?_; rintro e w' ⟨rfl, hw'⟩; subst hw'
  obtain ⟨F4, x4, y4, z4, hs4, hF4, hb4⟩ := HS4.out
  have HNX := Lib.hid (next_st hs4 HPR.out.ok 200 mo (by decide))
  have HFI := Lib.hid hF4
  have HBI := Lib.hid hb4
  have HST := Lib.hid hs4
  clear hs4 hF4 hb4 HS4
  go_wp2_with fail
  refine HNX.out.mono ?_
  rintro e w5 hq5
  obtain ⟨kk, kid, ka, kn, kfin, ok, kfr, kA, kc, F5, x5, y5, z5, s5, rfl, hst5, hk5, hn5', hno5, hye5⟩ := next_one hq5
  have HH5 : Hid (Here w w5 p s5) := Here.to HST.out HFI.out HBI.out ⟨F5, x5, y5, z5, hst5, hk5, hn5'⟩
  have H5 : Hid (StOk s5 ∧ s5.fd = false ∧ s5.rs = false ∧ s5.bs = out ∧ s5.id = 2) := by
    cases ok
    · rw [(hno5 rfl).2]; exact ⟨HPR.out.ok, rfl, rfl, rfl, rfl⟩
    · obtain ⟨g1, g2, _⟩ := hye5 rfl
      rw [g2]; exact ⟨HPR.out.ok.put g1, rfl, rfl, rfl, rfl⟩
  have HOK : Hid ((ok = false → s5 = st0 out) ∧ (ok = true → kk = 3 ∧ kid = 2 ∧ kfin = false ∧ NextI (st0 out) 200 mo ka kn kfin kfr ∧ s5 = putS (st0 out) ka kn kfin kfr)) := by
    refine ⟨fun h => (hno5 h).2, fun h => ?_⟩
    obtain ⟨g1, g2, g3, g4, _⟩ := hye5 h
    exact ⟨g3, g4, g1.ef, g1, g2⟩
  clear hq5 hst5 hk5 hn5' hno5 hye5 HFI HBI HST HNX
  go_upto_region 7 with (fail)
  obtain ⟨w6, hw6⟩ : ∃ x, w5.alloc (.cells #[.int .i64 kk, .int .i64 kid, .int .i64 (ka : Int), .int .i64 0, .int .i64 0, .int .i64 0, .bool kfin, .slice kA kn kc, .slice none 0 0] 30) = x := ⟨_, rfl⟩
  obtain ⟨g6, hg6⟩ : ∃ g, w5.heap.size = g := ⟨_, rfl⟩
  obtain ⟨F6, x6, y6, z6, hs6, hF6, hb6⟩ := HH5.out
  have hs6' : StIn w6 p F6 x6 y6 z6 s5 := by rw [← hw6]; exact hs6.below ((Below.refl _ _).alloc (Nat.le_refl _) _)
  have hb6' : Below w.heap.size w w6 := by rw [← hw6]; exact hb6.alloc hb6.size _
  have hG6 : FrB w6 g6 kk kid ka 0 0 0 kfin kA kn kc none 0 0 := by rw [← hw6, ← hg6]; exact heap_alloc_new w5 _
  have HGF : Hid (g6 ∉ F6) := fun hm => by have := hs6.hF g6 hm; omega
  have HS6 := Lib.hid hs6'
  have HB6 := Lib.hid hb6'
  have HF6 := Lib.hid hF6
  have HG6 := Lib.hid hG6
  rw [hw6, hg6]
  obtain ⟨_, hc1, _⟩ := hs6'.cells
  clear hw6 hg6 hs6 hF6 hb6 hs6' hb6' hG6 HH5
  have HRS := Lib.hid (reset_st HS6.out (by have := (edges_len H5.out.1).2; omega) 5 E)
  rw [reset_ok H5.out.2.1 H5.out.2.2.1 ⟨hE0, by rw [H5.out.2.2.2.1, HNO.out]; exact hE2⟩] at HRS
  obtain ⟨top, htop⟩ : ∃ x, s5.u = x := ⟨_, rfl⟩
  rw [htop] at hc1
  have HTOP := Lib.hid htop
  clear htop
  go_wp2_with fail
  refine (HP2.out _).mono ?_; rintro e w' ⟨rfl, hw'⟩; subst hw'
  go_wp2_with fail
  refine HRS.out.mono ?_
  rintro e w7 ⟨rfl, hs7⟩
  obtain ⟨F7, x7, y7, z7, hs7', hk7, hn7⟩ := hs7
  have HS7 := Lib.hid hs7'
  have HF7 : Hid (∀ k ∈ F7, w.heap.size ≤ k) := fun k hk => (hn7 k hk).elim (HF6.out k) (fun h => Nat.le_trans HB6.out.size h)
  have HB7 := Lib.hid (HB6.out.trans (hk7.below HB6.out.size HF6.out))
  have HG7 : Hid (FrB w7 g6 kk kid ka 0 0 0 kfin kA kn kc none 0 0) := (hk7.block g6 (lt_of_block HG6.out) HGF.out).trans HG6.out
  clear hs7' hk7 hn7 hc1 HRS HS6 HB6 HF6 HG6
  go_upto_if 59 with (fail)
  go_cut [] (fun wx => ∃ s, Hid (Here w wx p s ∧ Ahead out E top s))
  case first =>
    cases ok
    · have HA : Hid (Here w w7 p (RS s5 E) ∧ Ahead out E top (RS s5 E)) := by
        refine ⟨⟨_, _, _, _, HS7.out, HF7.out, HB7.out⟩, ?_⟩
        have e := HOK.out.1 rfl
        refine ⟨Pr.RS (by rw [e]; exact HPR.out) E ⟨hE0, by rw [H5.out.2.2.2.1, HNO.out]; exact hE2⟩, rfl, H5.out.2.1, H5.out.2.2.2.2, rfl, rfl, H5.out.2.2.2.1, rfl, HTOP.out, .inl ?_⟩
        show s5.lost = []
        rw [e]; rfl
      go_wp2_with fail
      go_meet
      case rel => exact ⟨_, HA⟩
    · obtain ⟨d0, d1, d2, d3, d4, d5, d6, d7, d8⟩ := HG7.out.cells
      obtain ⟨rfl, rfl, rfl, g4, g5⟩ := HOK.out.2 rfl
      have hfa := g4.facts HPR.out.ok
      have hko : 0 ≤ (ka : Int) ∧ (ka : Int) ≤ 4611686018427387903 := by
        have : (ka : Int) + kn ≤ ((st0 out).bs.length : Int) := hfa.2.2.2.2.1
        have e : (st0 out).bs.length = n := HNO.out
        omega
      have hkn : kn ≤ 1099511627776 := by have := hfa.2.2.1; omega
      have hpr7 : StOk (RS s5 E) := by
        have hz := H5.out.1
        exact ⟨hz.id, hz.l, hz.u, hz.n, hz.by', hz.lost, hz.lostU, hz.came, hz.cameU, hz.fin, by show (0 : Int) ≤ 0 ∧ (0 : Int) ≤ 3; decide, ⟨hE0, by show E ≤ (s5.bs.length : Int); rw [H5.out.2.2.2.1, HNO.out]; exact hE2⟩, by show (0 : Int) ≤ 5 ∧ (5 : Int) ≤ 4611686018427387903; decide⟩
      have HLO := Lib.hid (lost_st HS7.out hpr7 3 2 ka 0 0 0 false kA kn kc none 0 0 hko hkn)
      have HEQ : Hid (lostS (RS s5 E) ⟨3, 2, ka, 0, false, kn⟩ = RS (lostS (putS (st0 out) ka kn false kfr) (fkOf (st0 out) ka kn false)) E) := by
        rw [g5]
        exact RS_lost (putS (st0 out) ka kn false kfr) E ka kn
      have HAH : Hid (Ahead out E top (RS (lostS (putS (st0 out) ka kn false kfr) (fkOf (st0 out) ka kn false)) E)) := by
        have hn0 : 0 < kn := by
          rcases Nat.eq_zero_or_pos kn with h0 | h0
          · exact absurd ⟨by rw [h0]; rfl, by simp⟩ g4.some'
          · exact h0
        refine ⟨Pr.RS (HPR.out.lose g4) E ⟨hE0, by show E ≤ (out.length : Int); rw [HNO.out]; exact hE2⟩, rfl, rfl, rfl, rfl, rfl, rfl, rfl, ?_, .inr ⟨ka, ka + kn, ?_, by have := hfa.2.2.1; omega⟩⟩
        · have := HTOP.out
          rw [g5] at this
          exact this
        · exact ((HPR.out.settle g4).2.2.1).trans (turn_nil (by omega) (by omega) (by have := hfa.2.2.2.2.1; have e : (st0 out).bs.length = n := HNO.out; omega))
      clear g4 g5 hfa hko hkn hpr7
      go_wp2_with fail
      refine HLO.out.mono ?_
      rintro e w8 ⟨rfl, hs8⟩
      have HA : Hid (Here w w8 p (RS (lostS (putS (st0 out) ka kn false kfr) (fkOf (st0 out) ka kn false)) E) ∧ Ahead out E top (RS (lostS (putS (st0 out) ka kn false kfr) (fkOf (st0 out) ka kn false)) E)) := by
        rw [HEQ.out] at hs8
        exact ⟨Here.to HS7.out HF7.out HB7.out hs8, HAH.out⟩
      clear hs8
      go_wp2_with fail
      go_meet
      case rel => exact ⟨_, HA⟩
  case rest =>
    obtain ⟨s8, HA8⟩ := hcut
    clear HS7 HF7 HB7 HG7 HOK H5 HPR HTOP
    go_upto_region 13 with (fail)
    obtain ⟨w8, hw8⟩ : ∃ x, wc = x := ⟨_, rfl⟩
    rw [hw8] at HA8 ⊢
    clear hw8
    refine still_tail 6 (by kernel_rfl) (by kernel_rfl) ?_
    intro wz hwz
    have HAZ : Hid (Here w wz p s8) := by rw [hwz]; exact HA8.out.1.below ((Below.refl _ _).drew)
    clear hwz
    simp only [List.take_succ_cons, List.take_zero, List.drop_succ_cons, List.drop_zero]
    iterate 4 still_step
    still_call (HP3.out _)
    still_step
    refine wpStill_nil ?_
    obtain ⟨F8, x8, y8, z8, hs8, hF8, hb8⟩ := HAZ.out
    have HS8 := Lib.hid hs8
    have HF8 := Lib.hid hF8
    have HB8 := Lib.hid hb8
    clear hs8 hF8 hb8
    go_wp2_with fail
    refine (Cr.raise_any HS8.out.cred (400 + lz)).mono ?_
    rintro e w9 ⟨rfl, hcr⟩
    have hs9 := HS8.out.toCred hcr
    have hrs : (⟨if Cr.raiseB s8.l (400 + lz) = true then (400 + lz) else s8.l, s8.u, s8.id, s8.bs, s8.lost, s8.came, s8.fd, s8.fin, s8.rs, s8.code, s8.sure, s8.br⟩ : St) = raiseS s8 (400 + lz) := by unfold raiseS Cr.raiseB; simp only [decide_eq_true_eq]
    rw [hrs] at hs9
    have HL0 : Hid (∃ s, Here w w9 p s ∧ SureP E top 0 false s) := ⟨_, Here.to HS8.out HF8.out HB8.out hs9, HA8.out.2.sure (by rw [HNO.out]; omega) (400 + lz)⟩
    clear hs9 hcr hrs HS8 HF8 HB8 HA8 HAZ
    go_wp2_with fail
    go_loopw [17, 18] (fun tv iv wr => ∃ (j : Nat) (t : Bool), j ≤ 200 ∧ iv = .int .i64 (j : Int) ∧ tv = .bool t ∧ Hid (∃ s, Here w wr p s ∧ SureP E top (j : Int) t s)) (fun _ iv _ => 200 - (intOf iv).toNat)
    case atStart => exact ⟨0, false, by omega, rfl, rfl, HL0⟩
    case round =>
      clear HL0
      obtain ⟨j, t, hj2, rfl, rfl, HK⟩ := hrel
      obtain ⟨s, hHs, hP⟩ := HK.out
      have hj : (j : Int) < 200 := hP.lt
      obtain ⟨F, x, y, z, hst, hF, hb⟩ := hHs
      have HS := Lib.hid hst
      have HF := Lib.hid hF
      have HB := Lib.hid hb
      have HP := Lib.hid hP
      clear hst hF hb hP HK
      have HD := Lib.hid (done_st HS.out (by have := (edges_len HP.out.pr.ok).2; omega))
      obtain ⟨d, hd⟩ : ∃ d, doneS s = d := ⟨_, rfl⟩
      rw [hd] at HD
      have HDD := Lib.hid hd
      clear hd
      go_wp2_with fail
      refine HD.out.mono ?_
      rintro e w1 ⟨rfl, q1, hw1⟩
      have HS1 : Hid (StIn w1 p F x y z s) := by rw [hw1]; exact HS.out.drewN q1
      have HB1 : Hid (Below w.heap.size w w1) := by rw [hw1]; exact below_dm HB.out _
      clear hw1 HD HS HB
      cases d
      case true =>
        obtain ⟨rfl, hue⟩ := HP.out.end' HDD.out
        have HD := Lib.hid (done_st HS1.out (by have := (edges_len HP.out.pr.ok).2; omega))
        rw [HDD.out] at HD
        have HUE := Lib.hid hue
        clear hue
        go_wp2_with fail
        refine HD.out.mono ?_
        rintro e w2 ⟨rfl, q2, hw2⟩
        have hc1 : w2.cell? ⟨p, 1, none⟩ = some (.int .i64 s.u) := by rw [hw2]; exact (HS1.out.drewN q2).cells.2.1
        have HB2 : Hid (Below w.heap.size w w2) := by rw [hw2]; exact below_dm HB1.out _
        rw [HUE.out] at hc1
        clear hw2
        go_wp2_with fail
        go_ret
        exact ⟨rfl, HB2.out⟩
      case false =>
        go_upto_region 18 with (fail)
        go_cut [19] (fun v wx => ∃ lb : Bool, v = .bool lb ∧ wx = w1 ∧ (lb = true → (j : Int) < 60))
        case first =>
          by_cases hl1 : (j : Int) < (fs.length : Int)
          · by_cases hl2 : (j : Int) < 60
            · obtain ⟨bb, oo, hA, hbn, hcs⟩ := HR.out.rd.2 (by omega)
              subst hA
              have hcell : w1.cell? ⟨bb, oo + j, none⟩ = some (.int .i64 (fs.getD j 0)) := by
                rw [HB1.out.cell (p := ⟨bb, oo + j, none⟩) hbn]
                exact hcs j _ (ints_get fs j (by omega))
              obtain ⟨fz, hfz⟩ : ∃ z, fs.getD j 0 = z := ⟨_, rfl⟩
              rw [hfz] at hcell
              clear hcs hfz
              go_wp2_with fail
              go_meet
              case rel => exact ⟨_, rfl, rfl, fun _ => hl2⟩
            · go_wp2_with fail
              go_meet
              case rel => exact ⟨_, rfl, rfl, fun h => by cases h⟩
          · go_wp2_with fail
            go_meet
            case rel => exact ⟨_, rfl, rfl, fun h => by cases h⟩
        case rest =>
          obtain ⟨lb, rfl, rfl, hlb⟩ := hcut
          have HLB := Lib.hid hlb
          clear hlb
          cases htu : turnS s with
          | some s' =>
            obtain ⟨e', hbr, hsu⟩ := turn_due htu
            have HTU := Lib.hid (turn_some_st HS1.out s' htu)
            have HP2 : Hid (∀ b, b = 2 ∧ (j : Int) < 60 ∨ b = 3 → SureP E top ((j + 1 : Nat) : Int) true (brS s b)) := fun b hb => by
              have := HP.out.turned htu b hb
              rw [Int.natCast_add]; exact this
            have hok' : StOk s' := HP.out.pr.ok.turned htu
            rw [e'] at HTU hok'
            have hE' := HP.out.sure
            have hid' := HP.out.id
            have hcode' := HP.out.code
            rw [hE', hid', hcode'] at HTU
            have HLE := Lib.hid (turn_lose s)
            have HAE := Lib.hid (turn_ack s)
            rw [hE', hid'] at HLE HAE
            have hul := HP.out.pr.ok.u
            have hu4 : 0 ≤ s.u ∧ s.u ≤ 4611686018427387904 := by have := HP.out.len; omega
            have hu5 : 0 ≤ s.u ∧ s.u ≤ 4611686018427387903 := by have := HP.out.len; omega
            have HLO : Hid (∀ (W : World) F x y z, StIn W p F x y z (brS s 1) → Calls Try.prog 12 #[.pointer (some ⟨p, 0, none⟩), .agg #[.int .i64 4, .int .i64 2, .int .i64 s.u, .int .i64 5, .int .i64 E, .int .i64 0, .bool false, .slice none 0 0, .slice none 0 0]] W fun e w' => e = .returned (.tuple #[]) ∧ StTo W w' p F (brS s 2)) := fun W F x y z h => by
              have := lost_st h hok' 4 2 s.u 5 E 0 false none 0 0 none 0 0 hu5 (by decide)
              rw [HLE.out] at this; exact this
            have HAC : Hid (∀ (W : World) F x y z, StIn W p F x y z (brS s 1) → Calls Try.prog 13 #[.pointer (some ⟨p, 0, none⟩), .agg #[.int .i64 4, .int .i64 2, .int .i64 s.u, .int .i64 5, .int .i64 E, .int .i64 0, .bool false, .slice none 0 0, .slice none 0 0]] W fun e w' => e = .returned (.tuple #[]) ∧ StTo W w' p F (brS s 3)) := fun W F x y z h => by
              have := acked_st h hok' 4 2 s.u 5 E 0 false none 0 0 none 0 0 hu5 (by decide)
              rw [HAE.out] at this; exact this
            obtain ⟨su, hsuE⟩ : ∃ x, s.u = x := ⟨_, rfl⟩
            obtain ⟨sl, hslE⟩ : ∃ x, s.l = x := ⟨_, rfl⟩
            rw [hsuE] at HTU HLO HAC
            have q1 : decide (su < E) = false := decide_eq_false (by omega)
            have q2 : decide (sl < su) = false := decide_eq_false (by omega)
            have HSU := Lib.hid hsuE
            have HSL := Lib.hid hslE
            clear e' hbr hsu hok' hE' hid' hcode' hul hu4 hu5 htu hsuE hslE HDD HLE HAE
            go_wp2_with fail
            refine HTU.out.mono ?_
            rintro e w2 ⟨rfl, hs2⟩
            obtain ⟨F2, x2, y2, z2, hst2, hF2, hb2⟩ := hs2.rest2 HF.out HB1.out.size
            go_upto_region 20 with (fail)
            obtain ⟨w3, hw3⟩ : ∃ x, w2.alloc (.cells #[.int .i64 4, .int .i64 2, .int .i64 su, .int .i64 5, .int .i64 E, .int .i64 0, .bool false, .slice none 0 0, .slice none 0 0] 30) = x := ⟨_, rfl⟩
            obtain ⟨g3, hg3⟩ : ∃ g, w2.heap.size = g := ⟨_, rfl⟩
            have HS3 : Hid (StIn w3 p F2 x2 y2 z2 (brS s 1)) := by rw [← hw3]; exact hst2.below ((Below.refl _ _).alloc (Nat.le_refl _) _)
            have HB3 : Hid (Below w.heap.size w w3) := by rw [← hw3]; exact (HB1.out.trans hb2).alloc (HB1.out.trans hb2).size _
            have HF3 := Lib.hid hF2
            have HG3 : Hid (FrB w3 g3 4 2 su 5 E 0 false none 0 0 none 0 0) := by rw [← hw3, ← hg3]; exact heap_alloc_new w2 _
            rw [hw3, hg3]
            clear hw3 hg3 hs2 hst2 hF2 hb2 HS1 HB1 HF
            obtain ⟨d0, d1, d2, d3, d4, d5, d6, d7, d8⟩ := HG3.out.cells
            have hc0 : w3.cell? ⟨p, 0, none⟩ = some (.int .i64 sl) := by rw [← HSL.out]; exact HS3.out.cells.1
            have hc1 : w3.cell? ⟨p, 1, none⟩ = some (.int .i64 su) := by rw [← HSU.out]; exact HS3.out.cells.2.1
            go_wp2_with fail
            go_quiet (fail)
            obtain ⟨w4, hw4⟩ : ∃ x, w3.drewN nq = x := ⟨_, rfl⟩
            have HS4 : Hid (StIn w4 p F2 x2 y2 z2 (brS s 1)) := by rw [← hw4]; exact HS3.out.drewN nq
            have HB4 : Hid (Below w.heap.size w w4) := by rw [← hw4]; exact below_dm HB3.out _
            have HG4 : Hid (FrB w4 g3 4 2 su 5 E 0 false none 0 0 none 0 0) := by rw [← hw4]; exact HG3.out
            rw [hw4]
            clear hw4 d0 d1 d2 d3 d4 d5 d6 d7 d8 hc0 hc1 HS3 HB3 HG3 q1 q2
            obtain ⟨d0, d1, d2, d3, d4, d5, d6, d7, d8⟩ := HG4.out.cells
            cases lb
            · go_wp2_with fail
              refine (HAC.out w4 _ _ _ _ HS4.out).mono ?_
              rintro e w5 ⟨rfl, hs5⟩
              have HN : Hid (∃ s, Here w w5 p s ∧ SureP E top ((j + 1 : Nat) : Int) true s) := ⟨_, Here.to HS4.out HF3.out HB4.out hs5, HP2.out 3 (.inr rfl)⟩
              clear hs5
              go_wp2_with fail
              go_roundw
              case rel => exact ⟨j + 1, true, by omega, by go_num, rfl, HN⟩
              case measure => simp [intOf]; omega
            · go_wp2_with fail
              refine (HLO.out w4 _ _ _ _ HS4.out).mono ?_
              rintro e w5 ⟨rfl, hs5⟩
              have HN : Hid (∃ s, Here w w5 p s ∧ SureP E top ((j + 1 : Nat) : Int) true s) := ⟨_, Here.to HS4.out HF3.out HB4.out hs5, HP2.out 2 (.inl ⟨rfl, HLB.out trivial⟩)⟩
              clear hs5
              go_wp2_with fail
              go_roundw
              case rel => exact ⟨j + 1, true, by omega, by go_num, rfl, HN⟩
              case measure => simp [intOf]; omega
          | none =>
            have HTN := Lib.hid (turn_none_st HS1.out htu)
            have HTE := Lib.hid htu
            clear htu
            go_wp2_with fail
            refine HTN.out.mono ?_
            rintro e w2 ⟨rfl, hs2⟩
            obtain ⟨F2, x2, y2, z2, hst2, hF2, hb2⟩ := hs2.rest2 HF.out HB1.out.size
            go_upto_region 20 with (fail)
            obtain ⟨w3, hw3⟩ : ∃ x, w2.alloc (.cells #[.int .i64 0, .int .i64 0, .int .i64 0, .int .i64 0, .int .i64 0, .int .i64 0, .bool false, .slice none 0 0, .slice none 0 0] 30) = x := ⟨_, rfl⟩
            have HS3 : Hid (StIn w3 p F2 x2 y2 z2 s) := by rw [← hw3]; exact hst2.below ((Below.refl _ _).alloc (Nat.le_refl _) _)
            have HB3 : Hid (Below w.heap.size w w3) := by rw [← hw3]; exact (HB1.out.trans hb2).alloc (HB1.out.trans hb2).size _
            have HF3 := Lib.hid hF2
            rw [hw3]
            clear hw3 hs2 hst2 hF2 hb2 HS1 HB1 HF
            have HNX := Lib.hid (next_st HS3.out HP.out.pr.ok 150 500 (by decide))
            go_wp2_with fail
            refine HNX.out.mono ?_
            rintro e w4 (⟨hno, rfl, hs4⟩ | ⟨ai, ni, fin, fresh, Ad, cd, F4, b3, b4, b5, hNI, rfl, hst4, hk4, hn4, _, _⟩)
            · obtain ⟨rfl, hlt, hll⟩ := HP.out.stuck HDD.out HTE.out hno
              obtain ⟨F4, x4, y4, z4, hst4, hF4, hb4⟩ := hs4.rest2 HF3.out HB3.out.size
              go_upto_region 28 with (fail)
              obtain ⟨w5, hw5⟩ : ∃ x, w4.alloc (.cells #[.int .i64 0, .int .i64 0, .int .i64 0, .int .i64 0, .int .i64 0, .int .i64 0, .bool false, .slice none 0 0, .slice none 0 0] 30) = x := ⟨_, rfl⟩
              have HS5 : Hid (StIn w5 p F4 x4 y4 z4 s) := by rw [← hw5]; exact hst4.below ((Below.refl _ _).alloc (Nat.le_refl _) _)
              have HB5 : Hid (Below w.heap.size w w5) := by rw [← hw5]; exact (HB3.out.trans hb4).alloc (HB3.out.trans hb4).size _
              rw [hw5]
              have hul := HP.out.pr.ok.u
              have hol := HP.out.pr.ok.l
              have HLF := Lib.hid (Cr.left_any HS5.out.cred ⟨by omega, by omega⟩ ⟨hul.1, by omega⟩)
              rw [show Cr.leftF s.l s.u = 0 by unfold Cr.leftF; omega] at HLF
              have hc1 : w5.cell? ⟨p, 1, none⟩ = some (.int .i64 s.u) := HS5.out.cells.2.1
              clear hw5 hs4 hst4 hF4 hb4 hno hll hul hol HNX HS3 HB3 HF3 HS5
              go_wp2_with fail
              refine HLF.out.mono ?_
              rintro e w6 ⟨rfl, q6, hw6⟩
              have HB6 : Hid (Below w.heap.size w w6) := by rw [hw6]; exact below_dm HB5.out _
              clear hw6
              go_wp2_with fail
              go_ret
              exact ⟨rfl, HB6.out⟩
            · obtain ⟨hfin, hend⟩ := HP.out.where' hNI
              subst hfin
              have hfa := hNI.facts HP.out.pr.ok
              have hln := HP.out.len
              have hokp := HP.out.pr.ok.put hNI
              have hid' := HP.out.id
              have hF4 : ∀ k ∈ F4, w.heap.size ≤ k := fun k hk => (hn4 k hk).elim (HF3.out k) (fun h => Nat.le_trans HB3.out.size h)
              have hb4 := hk4.below HB3.out.size HF3.out
              have hoff : 0 ≤ (ai : Int) ∧ (ai : Int) ≤ 4611686018427387903 := by have := hfa.2.2.2.2.1; omega
              have hnn : ni ≤ 1099511627776 := by have := hfa.2.2.1; omega
              have HL2 : Hid ((j : Int) < 60 → SureP E top ((j + 1 : Nat) : Int) t (lostS (putS s ai ni false fresh) (fkOf s ai ni false))) := fun h6 => by
                have := HP.out.lose hNI h6
                rw [Int.natCast_add]; exact this
              have HA2 : Hid (SureP E top ((j + 1 : Nat) : Int) t (ackS (putS s ai ni false fresh) (fkOf s ai ni false))) := by
                have := HP.out.ack hNI
                rw [Int.natCast_add]; exact this
              have hai4 : (ai : Int) ≤ 4000 := by have := hfa.2.2.2.2.1; omega
              have hni4 : (ni : Int) ≤ 4000 := by have := hfa.2.2.1; omega
              rw [hid'] at *
              go_upto_region 28 with (fail)
              obtain ⟨w5, hw5⟩ : ∃ x, w4.alloc (.cells #[.int .i64 3, .int .i64 2, .int .i64 (ai : Int), .int .i64 0, .int .i64 0, .int .i64 0, .bool false, .slice Ad ni cd, .slice none 0 0] 30) = x := ⟨_, rfl⟩
              obtain ⟨g5, hg5⟩ : ∃ g, w4.heap.size = g := ⟨_, rfl⟩
              have HS5 : Hid (StIn w5 p F4 b3 b4 b5 (putS s ai ni false fresh)) := by rw [← hw5]; exact hst4.below ((Below.refl _ _).alloc (Nat.le_refl _) _)
              have HB5 : Hid (Below w.heap.size w w5) := by rw [← hw5]; exact (HB3.out.trans hb4).alloc (HB3.out.trans hb4).size _
              have HF5 := Lib.hid hF4
              have HG5 : Hid (FrB w5 g5 3 2 ai 0 0 0 false Ad ni cd none 0 0) := by rw [← hw5, ← hg5]; exact heap_alloc_new w4 _
              have HLO := Lib.hid (lost_st HS5.out hokp 3 2 ai 0 0 0 false Ad ni cd none 0 0 hoff hnn)
              have HAC := Lib.hid (acked_st HS5.out hokp 3 2 ai 0 0 0 false Ad ni cd none 0 0 hoff hnn)
              have HEQ : Hid ((⟨3, 2, ai, 0, false, ni⟩ : Fk) = fkOf s ai ni false) := by unfold fkOf; rw [HP.out.id]; rfl
              rw [HEQ.out] at HLO HAC
              rw [hw5, hg5]
              obtain ⟨d0, d1, d2, d3, d4, d5, d6, d7, d8⟩ := HG5.out.cells
              have hmax : max E 0 = E := by omega
              have hend2 : (ai : Int) + (ni : Int) ≤ E := by omega
              clear hw5 hg5 hfa hln hokp hF4 hb4 hoff hnn hst4 hk4 hn4 hNI HNX HS3 HB3 HF3 hend hid' hmax
              cases lb
              · go_wp2_with fail
                refine HAC.out.mono ?_
                rintro e w6 ⟨rfl, hs6⟩
                have HN : Hid (∃ s, Here w w6 p s ∧ SureP E top ((j + 1 : Nat) : Int) t s) := ⟨_, Here.to HS5.out HF5.out HB5.out hs6, HA2.out⟩
                clear hs6
                go_wp2_with fail
                go_roundw
                case rel => exact ⟨j + 1, t, by omega, by go_num, rfl, HN⟩
                case measure => simp [intOf]; omega
              · go_wp2_with fail
                refine HLO.out.mono ?_
                rintro e w6 ⟨rfl, hs6⟩
                have HN : Hid (∃ s, Here w w6 p s ∧ SureP E top ((j + 1 : Nat) : Int) t s) := ⟨_, Here.to HS5.out HF5.out HB5.out hs6, HL2.out (HLB.out trivial)⟩
                clear hs6
                go_wp2_with fail
                go_roundw
                case rel => exact ⟨j + 1, t, by omega, by go_num, rfl, HN⟩
                case measure => simp [intOf]; omega
end Go.Proofs.Ytppbhjjkccogkaa.Se
