/- SendAll: the walk (printed by gen/sendp.py). Conditions: the rows are arguments'. -/
import Derived.Test.YtppbhjjkccogkaaJWr
import Derived.Test.YtppbhjjkccogkaaJWq
import Derived.Test.YtppbhjjkccogkaaJSnKn
import Derived.BigQuiet
set_option linter.unusedSimpArgs false
set_option linter.unusedVariables false

namespace Go.Proofs.Ytppbhjjkccogkaa.Se
open Go Go.RowKit Go.Proofs.Ytppbhjjkccogkaa Go.Proofs.Ytppbhjjkccogkaa.Sp Go.Proofs.Ytppbhjjkccogkaa.Sp.Ref

theorem StTo.rest3 {W W' : World} {p lo : Nat} {F : List Nat} {s' : St} (ht : StTo W W' p F s') (hF : ∀ k ∈ F, lo ≤ k) (hlo : lo ≤ W.heap.size) : ∃ F' a b c, StIn W' p F' a b c s' ∧ Kept F W W' ∧ (∀ k ∈ F', k ∈ F ∨ W.heap.size ≤ k) ∧ (∀ k ∈ F', lo ≤ k) ∧ Below lo W W' := by
  obtain ⟨F', a, b, c, h1, h2, h3⟩ := ht
  exact ⟨F', a, b, c, h1, h2, h3, fun k hk => (h3 k hk).elim (hF k) (fun h => Nat.le_trans hlo h), h2.below hlo hF⟩
theorem below_dp {B : Nat} {w w1 : World} (h : Below B w w1) (m : Nat) : Below B w (w1.drewN m) := ⟨h.os, h.tape, h.output, h.size, h.block⟩
def stA (bs : List Nat) : St := ⟨400, 0, 6, bs, [], [], false, 0, false, 0, 0, 0⟩
def stF (bs : List Nat) : St := ⟨400, 0, 6, bs, [], [], true, 0, false, 0, 0, 0⟩
theorem stA_ok (bs : List Nat) (h : bs.length ≤ 4000) (h2 : ∀ c ∈ bs, c < 256) : StOk (stA bs) := by
  have hok := (newS_ok 6 (by decide)).write bs h2
  have e : (writeS (newS 6) bs).2 = stA bs := by
    unfold writeS
    rw [if_neg (by simp [newS]), if_neg (by show ¬ 4000 < 0 + bs.length; omega)]
    rfl
  rw [e] at hok; exact hok
theorem stA_write (bs b : List Nat) (h : bs.length + b.length ≤ 4000) : writeS (stA bs) b = (0, stA (bs ++ b)) := by
  unfold writeS
  rw [if_neg (by simp [stA]), if_neg (by show ¬ 4000 < bs.length + b.length; omega)]
  rfl
theorem AllP.start (bs : List Nat) (h : bs.length ≤ 360) (h2 : ∀ c ∈ bs, c < 256) : AllP bs 0 false (stF bs) := by
  have hok : StOk (stF bs) := (stA_ok bs (by omega) h2).finish
  refine ⟨⟨hok, (fun x hx => by simp [stF, mem, up, oddB] at hx), fun x h0 h1 => by have : x < 0 := h1; omega⟩, rfl, rfl, rfl, rfl, rfl, h, .inl ⟨rfl, .inl rfl⟩, ?_⟩
  have hE : Se.endS (stF bs) = (bs.length : Int) := rfl
  have : phi (stF bs) ≤ 360 + 50 := by
    unfold phi
    rw [hE]
    show wt _ [] + max 0 (min (bs.length : Int) 400 - 0) + _ ≤ _
    show (0 : Int) + max 0 (min (bs.length : Int) 400 - 0) + _ ≤ _
    split <;> omega
  show phi (stF bs) + _ + 50 * 0 ≤ 3000 + 100 * min 0 60
  split <;> omega

/-- Behind j parts. -/
structure All1 (w wr : World) (p : Nat) (v : Value) (bs : List Nat) (j : Nat) (F : List Nat) (x y z : Value) : Prop where
  st : StIn wr p F x y z (stA bs)
  lo : ∀ k ∈ F, w.heap.size ≤ k
  low : Below w.heap.size w wr
  row : wr.ownsRow w.heap.size 5 1 v bs.length (bv bs)
  far : ∀ k ∈ fp v, k ∉ F
  len : bs.length ≤ 60 * j
  lt : ∀ c ∈ bs, c < 256
/-- In the second loop. -/
structure All2 (w wr : World) (p pc : Nat) (v cv : Value) (out : List Nat) (s : St) (F : List Nat) (x y z : Value) : Prop where
  st : StIn wr p F x y z s
  lo : ∀ k ∈ F, w.heap.size ≤ k
  low : Below w.heap.size w wr
  row : wr.ownsRow w.heap.size 5 1 v out.length (bv out)
  far : ∀ k ∈ fp v, k ∉ F ∧ k ≠ pc
  hpc : wr.heap[pc]? = some (.cells #[cv] 38 (0, 0))
  set : SetV wr pc cv s.came
  fpc : pc ∉ F ∧ w.heap.size ≤ pc
  fcv : ∀ k ∈ fe cv, k ∉ F
section
variable {w wr w' : World} {p pc : Nat} {v cv : Value} {out : List Nat} {s s' : St} {F : List Nat} {x y z : Value}
theorem All2.step (h : All2 w wr p pc v cv out s F x y z) (ht : StTo wr w' p F s') (hc : s'.came = s.came) : ∃ F' a b c, All2 w w' p pc v cv out s' F' a b c := by
  obtain ⟨F', a, b, c, g1, g2, g3, g4, g5⟩ := ht.rest3 h.lo h.low.size
  have hlt := lt_of_block h.hpc
  refine ⟨F', a, b, c, g1, g4, h.low.trans g5, own_kept h.row g2 fun k hk => (h.far k hk).1, fun k hk => ⟨fun hm => ?_, (h.far k hk).2⟩, (g2.block pc hlt h.fpc.1).trans h.hpc, ?_, ⟨fun hm => ?_, h.fpc.2⟩, fun k hk hm => ?_⟩
  · rcases g3 k hm with hx | hx
    · exact (h.far k hk).1 hx
    · have := (h.row.lt k (fp_own.1 hk)).2; omega
  · rw [hc]; exact h.set.kept g2 h.fcv
  · rcases g3 pc hm with hx | hx
    · exact h.fpc.1 hx
    · omega
  · rcases g3 k hm with hx | hx
    · exact h.fcv k hk hx
    · have := h.set.lt k hk; omega
theorem All2.below (h : All2 w wr p pc v cv out s F x y z) (hb : Below wr.heap.size wr w') : All2 w w' p pc v cv out s F x y z :=
  ⟨h.st.below hb, h.lo, h.low.trans (hb.mono h.low.size), own_below h.row hb, h.far, (hb.block pc (lt_of_block h.hpc)).trans h.hpc, h.set.kept (Kept.ofBelow [] hb) (fun _ _ => by simp), h.fpc, h.fcv⟩
theorem All2.drewN (h : All2 w wr p pc v cv out s F x y z) (q : Nat) : All2 w (wr.drewN q) p pc v cv out s F x y z := h.below (Below.drewN' _ _ _)
theorem All2.setIn (h : All2 w wr p pc v cv out s F x y z) : SetIn wr pc 0 38 #[cv] s.came := by
  obtain ⟨h1, A, c, e, h2⟩ := h.set
  exact ⟨h1, h.hpc, A, c, by rw [← e]; rfl, h2⟩
theorem All2.all (h : All2 w wr p pc v cv out s F x y z) (hl : s.came.length ≤ 1000000) (n : Int) :
    Calls Try.prog 38 #[.pointer (some ⟨pc, 0, none⟩), .int .i64 0, .int .i64 n] wr fun e w' => e = .returned (.bool (allF s.came 0 n)) ∧ ∃ q, w' = wr.drewN q := by
  obtain ⟨A, c, h1, _⟩ := h.setIn.at (by omega)
  exact all_any _ _ _ _ A c 0 n wr h1
/-- The frame came: here, too. -/
structure All3 (w wr : World) (p pc : Nat) (v cv : Value) (out : List Nat) (s : St) (es : List Int) (F : List Nat) (x y z : Value) : Prop where
  st : StIn wr p F x y z s
  lo : ∀ k ∈ F, w.heap.size ≤ k
  low : Below w.heap.size w wr
  row : wr.ownsRow w.heap.size 5 1 v out.length (bv out)
  far : ∀ k ∈ fp v, k ∉ F ∧ k ≠ pc
  hpc : wr.heap[pc]? = some (.cells #[cv] 38 (0, 0))
  set : SetV wr pc cv es
  fpc : pc ∉ F ∧ w.heap.size ≤ pc
  fcv : ∀ k ∈ fe cv, k ∉ F
theorem All2.step3 (h : All2 w wr p pc v cv out s F x y z) (ht : StTo wr w' p F s') : ∃ F' a b c, All3 w w' p pc v cv out s' s.came F' a b c := by
  obtain ⟨F', a, b, c, g1, g2, g3, g4, g5⟩ := ht.rest3 h.lo h.low.size
  have hlt := lt_of_block h.hpc
  refine ⟨F', a, b, c, g1, g4, h.low.trans g5, own_kept h.row g2 fun k hk => (h.far k hk).1, fun k hk => ⟨fun hm => ?_, (h.far k hk).2⟩, (g2.block pc hlt h.fpc.1).trans h.hpc, h.set.kept g2 h.fcv, ⟨fun hm => ?_, h.fpc.2⟩, fun k hk hm => ?_⟩
  · rcases g3 k hm with hx | hx
    · exact (h.far k hk).1 hx
    · have := (h.row.lt k (fp_own.1 hk)).2; omega
  · rcases g3 pc hm with hx | hx
    · exact h.fpc.1 hx
    · omega
  · rcases g3 k hm with hx | hx
    · exact h.fcv k hk hx
    · have := h.set.lt k hk; omega
theorem All3.add {es : List Int} (h : All3 w wr p pc v cv out s es F x y z) (hl : es.length ≤ 1000000) (f t : Int) (he : turn es f t true = s.came) :
    Calls Try.prog 37 #[.pointer (some ⟨pc, 0, none⟩), .int .i64 f, .int .i64 t] wr fun e w' => e = .returned (.tuple #[]) ∧ (∃ cv', All2 w w' p pc v cv' out s F x y z) ∧ Kept [pc] wr w' := by
  have hs : SetIn wr pc 0 38 #[cv] es := by
    obtain ⟨h1, A, c, e, h2⟩ := h.set
    exact ⟨h1, h.hpc, A, c, by rw [← e]; rfl, h2⟩
  refine (add_new es pc 0 _ _ f t wr hs (by omega)).mono ?_
  rintro e w2 ⟨rfl, ⟨v2, g1, g2⟩, g3⟩
  rw [he] at g1
  have hk : Kept [pc] wr w2 := Kept.ofGrown g3 (by simp)
  refine ⟨rfl, ⟨v2, ?_⟩, hk⟩
  have hv := setV_of g1 (show _ = some v2 from rfl)
  refine ⟨h.st.kept hk (fun k hk' e => h.fpc.1 (by simp at e; exact e ▸ hk')), h.lo, h.low.trans (hk.below h.low.size (fun k hk' => by simp at hk'; rw [hk']; exact h.fpc.2)), own_kept h.row hk (fun k hk' e => (h.far k hk').2 (by simpa using e)), h.far, g1.2.1, hv, h.fpc, fun k hk' hm => ?_⟩
  rcases g2 with g2 | g2
  · have := newV_fe g2 k hk'; have := h.st.hF k hm; omega
  · have e : v2 = cv := by have : some cv = some v2 := g2; simpa using this.symm
    rw [e] at hk'
    exact h.fcv k hk' hm
end

set_option maxRecDepth 100000 in
set_option maxHeartbeats 16000000 in
theorem all_walk (A0 : Option Addr) (c0 : Nat) (ps : List (List Nat)) (A1 : Option Addr) (c1 : Nat) (fs : List Int) (A2 : Option Addr) (c2 : Nat) (rs : List Int) (w : World) (hp0 : IsParts w A0 c0 ps) (hr1 : IsInts w A1 c1 fs) (hr2 : IsInts w A2 c2 rs) :
    Calls Try.prog 5 #[.slice A0 ps.length c0, .slice A1 fs.length c1, .slice A2 rs.length c2] w fun e w' => e = .returned (.bool true) ∧ Below w.heap.size w w' := by
  have HPS := Lib.hid hp0
  have HFS := Lib.hid hr1
  have HRS := Lib.hid hr2
  have k0 : (ps.length : Int) ≤ (c0 : Int) := by have := hp0.cap; omega
  have k1 : (fs.length : Int) ≤ (c1 : Int) := by have := hr1.cap; omega
  have k2 : (rs.length : Int) ≤ (c2 : Int) := by have := hr2.cap; omega
  have k3 : (ps.length : Int) ≤ 140737488355328 := by have := hp0.reach; omega
  have k4 : (fs.length : Int) ≤ 17592186044416 := by have := hr1.reach; omega
  have k5 : (rs.length : Int) ≤ 17592186044416 := by have := hr2.reach; omega
  clear hp0 hr1 hr2
  have HNEW := Lib.hid (fun W => new_st W 6)
  have HKN := Lib.hid SnKn.known_any
  obtain ⟨i0, hi, hz0, hz1, hz2⟩ := info_parts infoB
  have HI0 := Lib.hid (And.intro hi (And.intro hz0 (And.intro hz1 hz2)))
  clear hi hz0 hz1 hz2
  go_enter Try.func5, Try.ntmps5
  go_wp2_with fail
  refine (HNEW.out _).mono ?_
  rintro e w1 ⟨p, F1, x1, y1, z1, rfl, hs1, hF1, hb1⟩
  have HS1 : Hid (All1 w w1 p (.slice none 0 0) [] 0 F1 x1 y1 z1) := ⟨hs1, hF1, hb1, own_nil _ _ _ _, (fun k hk => by simp [fp] at hk), Nat.le_refl _, fun c hc => by cases hc⟩
  clear hs1 hb1 hF1
  go_wp2_with fail
  refine (HKN.out w1).mono ?_
  rintro e w2 ⟨rfl, hb2⟩
  have HS2 : Hid (∃ bs F x y z, All1 w w2 p (.slice none 0 0) bs 0 F x y z) := ⟨[], F1, x1, y1, z1, HS1.out.st.below hb2, HS1.out.lo, HS1.out.low.trans (hb2.mono HS1.out.low.size), own_below HS1.out.row hb2, HS1.out.far, HS1.out.len, HS1.out.lt⟩
  clear hb2 HS1
  go_wp2_with fail
  go_loopw [8, 9] (fun v iv wr => ∃ (j : Nat), j ≤ 6 ∧ iv = .int .i64 (j : Int) ∧ Hid (∃ bs F x y z, All1 w wr p v bs j F x y z)) (fun _ iv _ => 6 - (intOf iv).toNat)
  case atStart => exact ⟨0, by omega, rfl, HS2⟩
  case round =>
    clear HS2
    obtain ⟨j, hj, rfl, HK⟩ := hrel
    obtain ⟨bs, F, x, y, z, hI⟩ := HK.out
    obtain ⟨Av, cv, ev, _⟩ := own_form hI.row
    subst ev
    have HI := Lib.hid hI
    clear hI HK
    go_upto_region 6 with (fail)
    obtain ⟨bq, hbq⟩ : ∃ b, decide (j < ps.length ∧ j < 6) = b := ⟨_, rfl⟩
    go_cut [33] (fun v wx => v = .bool bq ∧ wx = wr)
    case first =>
      by_cases h1 : (j : Int) < (ps.length : Int)
      · by_cases h2 : (j : Int) < 6
        · obtain rfl : bq = true := by rw [← hbq]; exact decide_eq_true ⟨by omega, by omega⟩
          go_wp2_with fail
          go_meet
          case rel => exact ⟨rfl, rfl⟩
        · obtain rfl : bq = false := by rw [← hbq]; exact decide_eq_false (by omega)
          go_wp2_with fail
          go_meet
          case rel => exact ⟨rfl, rfl⟩
      · obtain rfl : bq = false := by rw [← hbq]; exact decide_eq_false (by omega)
        go_wp2_with fail
        go_meet
        case rel => exact ⟨rfl, rfl⟩
    case rest =>
      obtain ⟨rfl, rfl⟩ := hcut
      have HBQ := Lib.hid hbq
      clear hbq
      cases bq
      case true =>
        have hjj : j < ps.length ∧ j < 6 := of_decide_eq_true HBQ.out
        have hjI : (j : Int) < (ps.length : Int) := by omega
        have hj6 : (j : Int) < 6 := by omega
        obtain ⟨vs, hvr, hvp⟩ := HPS.out.parts
        obtain ⟨bb, oo, hA, hbn, hcs⟩ := hvr.2 (by omega)
        subst hA
        obtain ⟨pv, hpv, Ap, cp, epv, hprd, hpc, hpm, hplt⟩ := hvp j hjj.1
        obtain ⟨pl, hpl⟩ : ∃ l, ps.getD j [] = l := ⟨_, rfl⟩
        rw [hpl] at epv hprd hpc hpm hplt
        subst epv
        have hcell : wc.cell? ⟨bb, oo + j, none⟩ = some (.slice Ap pl.length cp) := by
          rw [HI.out.low.cell (p := ⟨bb, oo + j, none⟩) hbn]
          exact hcs j _ hpv
        have HFW := Lib.hid (few_any pl w.heap.size Ap cp 60 wc (hprd.below HI.out.low (Nat.le_refl _)) HI.out.low.size hpc hpm)
        have HPL := Lib.hid hplt
        obtain ⟨q, hq⟩ : ∃ q, pl.take 60 = q := ⟨_, rfl⟩
        have hq60 : q.length ≤ 60 := by rw [← hq, List.length_take]; omega
        have HQL : Hid (∀ c ∈ q, c < 256) := fun c hc => hplt c (List.mem_of_mem_take (hq ▸ hc))
        rw [hq] at HFW
        clear hvr hvp hcs hpv hprd hplt hpl hq hjj
        go_wp2_with fail
        refine HFW.out.mono ?_
        rintro e w3 ⟨v3, rfl, ho3, hb3⟩
        obtain ⟨A3, c3, e3, _, _, _, hrd3⟩ := own_form ho3
        subst e3
        rw [Nat.mul_one] at hrd3
        have HS3 := Lib.hid (HI.out.st.below hb3)
        have hl3 := HI.out.len
        have HWR := Lib.hid (write_st HS3.out (by show bs.length ≤ 4000; omega) q w3.heap.size A3 c3 hrd3 (by omega))
        rw [stA_write bs q (by omega)] at HWR
        have HB3 := Lib.hid (HI.out.low.trans (hb3.mono HI.out.low.size))
        have HR3 := Lib.hid (own_below HI.out.row hb3)
        have HO3 := Lib.hid ho3
        have HRD := Lib.hid hrd3
        have HSZ := Lib.hid hb3.size
        clear ho3 hb3 hrd3 hcell HFW
        go_wp2_with fail
        refine HWR.out.mono ?_
        rintro e w4 ⟨rfl, hs4⟩
        obtain ⟨F4, x4, y4, z4, g1, g2, g3, g4, g5⟩ := hs4.rest3 HI.out.lo HB3.out.size
        have HS4 := Lib.hid g1
        have HF4 := Lib.hid g4
        have HB4 := Lib.hid (HB3.out.trans g5)
        have HR4 : Hid (w4.ownsRow w.heap.size 5 1 (.slice Av bs.length cv) bs.length (bv bs)) := own_kept HR3.out g2 HI.out.far
        have HFR : Hid (∀ k ∈ fp (.slice Av bs.length cv), k ∉ F4) := fun k hk hm => by
          rcases g3 k hm with hx | hx
          · exact HI.out.far k hk hx
          · have := (HR3.out.lt k (fp_own.1 hk)).2; omega
        have HRD4 : Hid (Rd w4 w4.heap.size A3 (q.length * 1) (bv q)) := by
          rw [Nat.mul_one]
          refine rd_kept HRD.out g2 fun _ a ea hm => ?_
          have h5 := own_from HO3.out a ea
          have h6 := HI.out.st.hF _ hm
          omega
        have hd2 : Hid (bs.length + q.length ≤ maxLen ∧ (bs.length + q.length) * 1 ≤ 140737488355328) := ⟨by unfold maxLen; omega, by omega⟩
        clear hs4 g1 g2 g3 g4 g5 HWR HS3 HB3 HR3 HO3 HRD
        go_wp2_with (at_builtin; refine wpList_app_at _ rfl (.tmp 45) (.tmp 46) 27 rfl w.heap.size 5 i0 (.int .u8 0) 1 1 Try.underlying27 HI0.out.1 HI0.out.2.1 HI0.out.2.2.1 HI0.out.2.2.2 rfl (by decide) (.slice Av bs.length cv) bs.length (bv bs) rfl HR4.out w4.heap.size A3 q.length c3 (bv q) rfl HRD4.out (ones_bv _) hd2.out.1 hd2.out.2 HB4.out.size ?_)
        intro v5 w5 ho5 hg5 hn5
        have HN : Hid (∃ bs F x y z, All1 w w5 p v5 bs (j + 1) F x y z) := by
          have hk5 : Kept (fp (.slice Av bs.length cv)) w4 w5 := ⟨hg5.os, hg5.tape, hg5.output, hg5.size, fun k hk hm => hg5.block k hk fun e => hm (fp_own.2 e.symm)⟩
          refine ⟨bs ++ q, F4, x4, y4, z4, HS4.out.kept hk5 (fun k hk hm => HFR.out k hm hk), HF4.out, HB4.out.grown hg5 HB4.out.size (fun k hk => (HR4.out.lt k hk).1), ?_, fun k hk hm => ?_, ?_, fun c hc => ?_⟩
          · rw [List.length_append, bv_app]; exact ho5
          · rcases hn5 k hk with hx | hx
            · exact HFR.out k hx hm
            · have := HS4.out.hF k hm; omega
          · rw [List.length_append]; omega
          · rw [List.mem_append] at hc
            exact hc.elim (HI.out.lt c) (HQL.out c)
        obtain ⟨A5, c5, e5, _⟩ := own_form ho5
        subst e5
        clear ho5 hg5 hn5
        go_wp2_with fail
        go_roundw
        case rel => exact ⟨j + 1, by omega, by go_num, HN⟩
        case measure => simp [intOf]; omega
      case false =>
        clear HBQ
        have HLEN : Hid (bs.length ≤ 360) := by have := HI.out.len; show _ ≤ _; omega
        have HFI := Lib.hid (finish_st HI.out.st)
        rw [show finishS (stA bs) = (0, stF bs) by unfold finishS; rw [if_neg (by simp [stA])]; rfl] at HFI
        go_wp2_with fail
        refine HFI.out.mono ?_
        rintro e w4 ⟨rfl, hs4⟩
        have HB0 : Hid (∃ F x y z, All2 w (w4.alloc (.cells #[.slice none 0 0] 38)) p w4.heap.size (.slice Av bs.length cv) (.slice none 0 0) bs (stF bs) F x y z) := by
          obtain ⟨F4, x4, y4, z4, g1, g2, g3, g4, g5⟩ := hs4.rest3 HI.out.lo HI.out.low.size
          have hb : Below w4.heap.size w4 (w4.alloc (.cells #[.slice none 0 0] 38)) := (Below.refl _ _).alloc (Nat.le_refl _) _
          have hr4 := own_kept HI.out.row g2 HI.out.far
          have hsz : w.heap.size ≤ w4.heap.size := (HI.out.low.trans g5).size
          refine ⟨F4, x4, y4, z4, g1.below hb, g4, (HI.out.low.trans g5).trans (hb.mono hsz), own_below hr4 hb, fun k hk => ⟨fun hm => ?_, ?_⟩, heap_alloc_new w4 _, ⟨ok_nil, none, 0, rfl, Nat.le_refl _, fun _ => .inl ⟨rfl, rfl⟩, Rd.nil _ _ _, fun a ha => by cases ha⟩, ⟨fun hm => by have := g1.hF _ hm; omega, hsz⟩, fun k hk => by simp [fe] at hk⟩
          · rcases g3 k hm with hx | hx
            · exact HI.out.far k hk hx
            · have := (HI.out.row.lt k (fp_own.1 hk)).2; omega
          · have := (hr4.lt k (fp_own.1 hk)).2; omega
        clear hs4 HFI
        have HPS0 := Lib.hid (AllP.start bs HLEN.out HI.out.lt)
        have HLT := Lib.hid HI.out.lt
        have HCV : Hid (bs.length ≤ cv) := by
          obtain ⟨A9, c9, e9, h9, _⟩ := own_form HI.out.row
          simp only [Value.slice.injEq] at e9
          rw [e9.2.2]; exact h9
        clear HI HPS
        go_upto_region 15 with (fail)
        obtain ⟨w5, hw5⟩ : ∃ x, w4.alloc (.cells #[.slice none 0 0] 38) = x := ⟨_, rfl⟩
        obtain ⟨pc, hpc⟩ : ∃ k, w4.heap.size = k := ⟨_, rfl⟩
        rw [hw5, hpc] at HB0 ⊢
        clear hw5 hpc
        have HBL := HLEN
        obtain ⟨L, hL⟩ : ∃ n, bs.length = n := ⟨_, rfl⟩
        have HL := Lib.hid hL
        rw [hL] at HBL ⊢
        rw [hL] at HB0 HCV
        clear hL
        have HLOOP : Hid (∃ s cv2 F x y z, All2 w w5 p pc (.slice Av L cv) cv2 bs s F x y z ∧ AllP bs 0 false s) := by
          obtain ⟨F, x, y, z, h⟩ := HB0.out
          exact ⟨_, _, F, x, y, z, h, HPS0.out⟩
        clear HB0 HPS0
        go_wp2_with fail
        go_loopw [12, 13] (fun fv iv wr => ∃ (j : Nat) (f : Bool), j ≤ 400 ∧ iv = .int .i64 (j : Int) ∧ fv = .bool f ∧ Hid (∃ s cv2 F x y z, All2 w wr p pc (.slice Av L cv) cv2 bs s F x y z ∧ AllP bs (j : Int) f s)) (fun _ iv _ => 400 - (intOf iv).toNat)
        case atStart => exact ⟨0, false, by omega, rfl, rfl, HLOOP⟩
        case round =>
          clear HLOOP
          obtain ⟨j, f, hj2, rfl, rfl, HK⟩ := hrel
          obtain ⟨s, cv2, F, x, y, z, h2, hP⟩ := HK.out
          have hj : (j : Int) < 400 := hP.lt
          have H2 := Lib.hid h2
          have HP := Lib.hid hP
          clear h2 hP HK
          have HD := Lib.hid (done_st H2.out.st (by have := (edges_len HP.out.pr.ok).2; omega))
          obtain ⟨d, hd⟩ : ∃ d, doneS s = d := ⟨_, rfl⟩
          rw [hd] at HD
          have HDD := Lib.hid hd
          clear hd
          go_wp2_with fail
          refine HD.out.mono ?_
          rintro e w1 ⟨rfl, q1, hw1⟩
          have H3 : Hid (All2 w w1 p pc (.slice Av L cv) cv2 bs s F x y z) := by rw [hw1]; exact H2.out.drewN q1
          clear hw1 HD H2
          cases d
          case true =>
            obtain ⟨rfl, hall⟩ := HP.out.end' HDD.out
            have HD := Lib.hid (done_st H3.out.st (by have := (edges_len HP.out.pr.ok).2; omega))
            rw [HDD.out] at HD
            have HAL := Lib.hid (fun q => (H3.out.drewN q).all (by have := (edges_len HP.out.pr.ok).2; omega) (L : Int))
            rw [HL.out] at hall
            rw [hall] at HAL
            clear hall
            go_wp2_with fail
            refine HD.out.mono ?_
            rintro e w2 ⟨rfl, q2, hw2⟩
            subst hw2
            go_wp2_with fail
            refine (HAL.out q2).mono ?_
            rintro e w3 ⟨rfl, q3, hw3⟩
            have HB3 : Hid (Below w.heap.size w w3) := by rw [hw3]; exact below_dp (below_dp H3.out.low _) _
            clear hw3
            go_wp2_with fail
            go_ret
            exact ⟨rfl, HB3.out⟩
          case false =>
            go_upto_region 20 with (fail)
            obtain ⟨bq, hbq⟩ : ∃ b, decide (j < rs.length ∧ j < 60) = b := ⟨_, rfl⟩
            go_cut [67] (fun v wx => v = .bool bq ∧ wx = w1)
            case first =>
              by_cases h1 : (j : Int) < (rs.length : Int)
              · by_cases h2 : (j : Int) < 60
                · obtain rfl : bq = true := by rw [← hbq]; exact decide_eq_true ⟨by omega, by omega⟩
                  go_wp2_with fail
                  go_meet
                  case rel => exact ⟨rfl, rfl⟩
                · obtain rfl : bq = false := by rw [← hbq]; exact decide_eq_false (by omega)
                  go_wp2_with fail
                  go_meet
                  case rel => exact ⟨rfl, rfl⟩
              · obtain rfl : bq = false := by rw [← hbq]; exact decide_eq_false (by omega)
                go_wp2_with fail
                go_meet
                case rel => exact ⟨rfl, rfl⟩
            case rest =>
              obtain ⟨hcv, hcw⟩ := hcut
              subst hcv
              rw [hcw]
              clear hcw
              have HBQ := Lib.hid hbq
              clear hbq
              go_upto_if 67 with (fail)
              go_cut [14] (fun v wx => ∃ r : Int, v = .int .i64 r ∧ wx = w1 ∧ Hid (r = 60 ∨ (j : Int) < 60 ∧ 0 ≤ r ∧ r < 70))
              case first =>
                cases bq
                · go_wp2_with fail
                  go_meet
                  case rel => exact ⟨60, rfl, rfl, .inl rfl⟩
                · have hjj : j < rs.length ∧ j < 60 := of_decide_eq_true HBQ.out
                  have hjI : (j : Int) < (rs.length : Int) := by omega
                  obtain ⟨bb, oo, hA, hbn, hcs⟩ := HRS.out.rd.2 (by omega)
                  subst hA
                  have hcell : w1.cell? ⟨bb, oo + j, none⟩ = some (.int .i64 (rs.getD j 0)) := by
                    rw [H3.out.low.cell (p := ⟨bb, oo + j, none⟩) hbn]
                    exact hcs j _ (ints_get rs j (by omega))
                  obtain ⟨fz, hfz⟩ : ∃ z, rs.getD j 0 = z := ⟨_, rfl⟩
                  rw [hfz] at hcell
                  have HPK := Lib.hid (fun W => pick_any fz 70 W (by decide) (by decide))
                  obtain ⟨r, hr⟩ : ∃ r, fz % 70 = r := ⟨_, rfl⟩
                  have hr0 : 0 ≤ r ∧ r < 70 := by omega
                  rw [hr] at HPK
                  have HRR : Hid (r = 60 ∨ (j : Int) < 60 ∧ 0 ≤ r ∧ r < 70) := .inr ⟨by omega, hr0.1, hr0.2⟩
                  clear hcs hfz hr hr0
                  go_wp2_with fail
                  refine (HPK.out _).mono ?_; rintro e w' ⟨rfl, hw'⟩; subst hw'
                  go_wp2_with fail
                  go_meet
                  case rel => exact ⟨r, rfl, rfl, HRR⟩
              case rest =>
                obtain ⟨r, hcv, hcw, HR⟩ := hcut
                subst hcv
                rw [hcw]
                clear hcw HBQ
                have hr0 : 0 ≤ r ∧ r < 70 := by have := HR.out; omega
                obtain ⟨hr1, hr2⟩ := hr0
                have HNX := Lib.hid (next_st H3.out.st HP.out.pr.ok r 500 (by omega))
                go_wp2_with fail
                refine HNX.out.mono ?_
                rintro e w4 (⟨hno, rfl, hs4⟩ | ⟨ai, ni, fin, fresh, Ad, cd, F4, b3, b4, b5, hNI, rfl, hst4, hk4, hn4, ho4, hf4⟩)
                · have hr6 : r < 60 := by
                    by_cases h6 : r < 60
                    · exact h6
                    · exact (HP.out.stuck HDD.out (by omega) hno).elim
                  have hj6 : (j : Int) < 60 := by have := HR.out; omega
                  obtain ⟨F4, a4, b4, c4, h4⟩ := H3.out.step hs4 rfl
                  have H4 := Lib.hid h4
                  have HP4 : Hid (AllP bs ((j + 1 : Nat) : Int) f s) := by rw [Int.natCast_add]; exact HP.out.skip hj6
                  clear h4 hs4 hno HNX
                  go_upto_region 23 with (fail)
                  obtain ⟨w5, hw5⟩ : ∃ x, w4.alloc (.cells #[.int .i64 0, .int .i64 0, .int .i64 0, .int .i64 0, .int .i64 0, .int .i64 0, .bool false, .slice none 0 0, .slice none 0 0] 30) = x := ⟨_, rfl⟩
                  have HN : Hid (∃ s cv2 F x y z, All2 w w5 p pc (.slice Av L cv) cv2 bs s F x y z ∧ AllP bs ((j + 1 : Nat) : Int) f s) := by
                    rw [← hw5]
                    exact ⟨_, _, _, _, _, _, H4.out.below ((Below.refl _ _).alloc (Nat.le_refl _) _), HP4.out⟩
                  rw [hw5]
                  clear hw5 H4 HP4
                  go_wp2_with fail
                  go_roundw
                  case rel => exact ⟨j + 1, f, by omega, by go_num, rfl, HN⟩
                  case measure => simp [intOf]; omega
                · obtain ⟨hf0, hf1, hf2, hf3⟩ := HP.out.facts hNI
                  rw [HL.out] at hf1 hf3
                  have hb360 := HBL.out
                  have hid6 := HP.out.id
                  have hbs := HP.out.bs
                  have hszr := NextI.size HP.out.pr.ok hNI
                  have hokp := HP.out.pr.ok.put hNI
                  rw [hid6] at hszr ⊢
                  rw [hbs] at ho4
                  have HLOS : Hid ((j : Int) < 60 → AllP bs ((j + 1 : Nat) : Int) f (lostS (putS s ai ni fin fresh) (fkOf s ai ni fin))) := fun h6 => by
                    have := HP.out.lose hNI h6
                    rw [Int.natCast_add]; exact this
                  have HACK : Hid (AllP bs ((j + 1 : Nat) : Int) (f || fin) (ackS (putS s ai ni fin fresh) (fkOf s ai ni fin))) := by
                    have := HP.out.ack hNI (by have := HR.out; omega)
                    rw [Int.natCast_add]; exact this
                  have HST := Lib.hid (HP.out.pr.settle hNI)
                  have HFK : Hid (fkOf s ai ni fin = ⟨3, 6, ai, 0, fin, ni⟩) := by unfold fkOf; rw [hid6]; rfl
                  obtain ⟨F5, a5, b5', c5, h5⟩ := H3.out.step (s' := putS s ai ni fin fresh) ⟨F4, b3, b4, b5, hst4, hk4, hn4⟩ rfl
                  have H5 := Lib.hid h5
                  have HO4 := Lib.hid (Rd.of_own ho4)
                  have HCD : Hid (ni ≤ cd) := by
                    obtain ⟨A9, c9, e9, h9, _⟩ := own_form ho4
                    simp only [Value.slice.injEq] at e9
                    rw [e9.2.2]; exact h9
                  have HOK := Lib.hid hokp
                  clear h5 ho4 hf4 hokp hst4 hk4 hn4 hNI HNX
                  go_upto_region 23 with (fail)
                  obtain ⟨w5, hw5⟩ : ∃ x, w4.alloc (.cells #[.int .i64 3, .int .i64 6, .int .i64 (ai : Int), .int .i64 0, .int .i64 0, .int .i64 0, .bool fin, .slice Ad ni cd, .slice none 0 0] 30) = x := ⟨_, rfl⟩
                  obtain ⟨g5, hg5⟩ : ∃ g, w4.heap.size = g := ⟨_, rfl⟩
                  have H6 : Hid (All2 w w5 p pc (.slice Av L cv) cv2 bs (putS s ai ni fin fresh) F5 a5 b5' c5) := by rw [← hw5]; exact H5.out.below ((Below.refl _ _).alloc (Nat.le_refl _) _)
                  have HG5 : Hid (FrB w5 g5 3 6 ai 0 0 0 fin Ad ni cd none 0 0) := by rw [← hw5, ← hg5]; exact heap_alloc_new w4 _
                  have HRD : Hid (Rd w5 w5.heap.size Ad ni (bv ((bs.drop ai).take ni))) := by
                    have := HO4.out.below (B' := w4.heap.size) (w' := w5) (by rw [← hw5]; exact (Below.refl _ _).alloc (Nat.le_refl _) _) (Nat.le_refl _)
                    rw [Nat.mul_one] at this
                    exact this.more (by rw [← hw5]; simp)
                  have HGF : Hid (g5 ∉ F5) := fun hm => by have := H5.out.st.hF g5 hm; omega
                  have HGP : Hid (¬ g5 = pc) := fun e => by have := lt_of_block H5.out.hpc; omega
                  rw [hw5, hg5]
                  clear hw5 hg5 H5 HO4
                  obtain ⟨d0, d1, d2, d3, d4, d5, d6, d7, d8⟩ := HG5.out.cells
                  obtain ⟨en, hen⟩ : ∃ en : Nat, ai + ni = en := ⟨_, rfl⟩
                  have henI : (ai : Int) + (ni : Int) = (en : Int) := by omega
                  have HEN := Lib.hid henI
                  have hai4 : (ai : Int) ≤ 360 := by omega
                  have hni4 : (ni : Int) ≤ 360 := by omega
                  have hic : (ai : Int) ≤ (en : Int) := by omega
                  have hjn : en ≤ L := by omega
                  have hncv : L ≤ cv := HCV.out
                  have hjc : (en : Int) ≤ (cv : Int) := by omega
                  have hjl : (en : Int) ≤ (L : Int) := by omega
                  clear henI
                  go_wp2_with fail
                  go_upto_region 27 with (fail)
                  rw [HEN.out]
                  have HSZ : Hid (∀ W, Below w5.heap.size w5 W → Calls Try.prog 36 #[.agg #[.int .i64 3, .int .i64 6, .int .i64 (ai : Int), .int .i64 0, .int .i64 0, .int .i64 0, .bool fin, .slice Ad ni cd, .slice none 0 0]] W fun e w' => (∃ z : Int, e = .returned (.int .i64 z) ∧ z ≤ r) ∧ Below W.heap.size W w') := fun W hW => by
                    have hln : ((bs.drop ai).take ni).length = ni := by rw [List.length_take, List.length_drop, HL.out]; omega
                    have := size_ok_f (sfr 6 ai 0 fin ((bs.drop ai).take ni)) Ad ni cd none 0 0 W ⟨hln, HCD.out, (HRD.out.below hW (Nat.le_refl _)).more hW.size, rfl, Nat.le_refl _, Rd.nil _ _ _⟩ (sfr_ok (by decide) hf0 (by rw [hln]; exact hf2) (fun c hc => HLT.out c (List.mem_of_mem_drop (List.mem_of_mem_take hc))) (by rw [hln]; omega))
                    rw [sfr_len, hln] at this
                    exact this.mono fun e w' ⟨h1, h2⟩ => ⟨⟨_, h1, hszr⟩, h2⟩
                  have HS : Hid (∀ W, Below w5.heap.size w5 W → Below w5.heap.size w5 W ∧ W.cell? ⟨g5, 0, none⟩ = some (.int .i64 3) ∧ W.cell? ⟨g5, 1, none⟩ = some (.int .i64 6) ∧ W.cell? ⟨g5, 2, none⟩ = some (.int .i64 (ai : Int)) ∧ W.cell? ⟨g5, 3, none⟩ = some (.int .i64 0) ∧ W.cell? ⟨g5, 4, none⟩ = some (.int .i64 0) ∧ W.cell? ⟨g5, 5, none⟩ = some (.int .i64 0) ∧ W.cell? ⟨g5, 6, none⟩ = some (.bool fin) ∧ W.cell? ⟨g5, 7, none⟩ = some (.slice Ad ni cd) ∧ W.cell? ⟨g5, 8, none⟩ = some (.slice none 0 0) ∧ (convert 27 9 (.slice (if cv = ai then Av else Option.map (fun x => x.add ai) Av) (en - ai) (cv - ai))).run Try.prog W = .ok (.string (strOf ((bs.drop ai).take ni))) W ∧ (convert 27 9 (.slice Ad ni cd)).run Try.prog W = .ok (.string (strOf ((bs.drop ai).take ni))) W) := fun W hW => by
                    have hgl : g5 < w5.heap.size := lt_of_block HG5.out
                    have hrow0 := H6.out.row
                    rw [HL.out] at hrow0
                    have hrow := Rd.of_own hrow0
                    rw [Nat.mul_one] at hrow
                    have hr1 : Rd w5 w5.heap.size (tailA Av cv ai) (en - ai) (bv ((bs.drop ai).take ni)) := by
                      have hji : en - ai = ni := by omega
                      rw [hji, ← bv_take, ← bv_drop]
                      exact (hrow.tail cv ai (by omega) hncv).head ni (by omega)
                    have k : ∀ o, W.cell? ⟨g5, o, none⟩ = w5.cell? ⟨g5, o, none⟩ := fun o => hW.cell (p := ⟨g5, o, none⟩) hgl
                    exact ⟨hW, (k 0).trans d0, (k 1).trans d1, (k 2).trans d2, (k 3).trans d3, (k 4).trans d4, (k 5).trans d5, (k 6).trans d6, (k 7).trans d7, (k 8).trans d8, conv_run W 27 9 5 Try.underlying27 Try.underlying5 Try.underlying9 w5.heap.size _ _ _ _ (hr1.below hW (Nat.le_refl _)), conv_run W 27 9 5 Try.underlying27 Try.underlying5 Try.underlying9 w5.heap.size _ _ _ _ (HRD.out.below hW (Nat.le_refl _))⟩
                  obtain ⟨sx, hsx⟩ : ∃ x, strOf ((bs.drop ai).take ni) = x := ⟨_, rfl⟩
                  obtain ⟨xA, hxA⟩ : ∃ x, (if cv = ai then Av else Option.map (fun x => x.add ai) Av) = x := ⟨_, rfl⟩
                  rw [hsx, hxA] at HS
                  clear hsx
                  have HFE : Hid (fin = true → en = L) := fun h => by have := hf3 h; omega
                  clear hf3
                  go_cut [126] (fun v wx => v = .bool false ∧ Below w5.heap.size w5 wx)
                  case first =>
                    clear d0 d1 d2 d3 d4 d5 d6 d7 d8
                    have qa : decide ((ai : Int) < 0) = false := decide_eq_false (by omega)
                    have qe : decide ((L : Int) < (en : Int)) = false := decide_eq_false (by omega)
                    have qe2 : decide (L < en) = false := decide_eq_false (by omega)
                    cases fin
                    · skip
                      refine wp_region_held_drew (S := (fun W : World => Below w5.heap.size w5 W ∧ W.cell? ⟨g5, 0, none⟩ = some (.int .i64 3) ∧ W.cell? ⟨g5, 1, none⟩ = some (.int .i64 6) ∧ W.cell? ⟨g5, 2, none⟩ = some (.int .i64 (ai : Int)) ∧ W.cell? ⟨g5, 3, none⟩ = some (.int .i64 0) ∧ W.cell? ⟨g5, 4, none⟩ = some (.int .i64 0) ∧ W.cell? ⟨g5, 5, none⟩ = some (.int .i64 0) ∧ W.cell? ⟨g5, 6, none⟩ = some (.bool false) ∧ W.cell? ⟨g5, 7, none⟩ = some (.slice Ad ni cd) ∧ W.cell? ⟨g5, 8, none⟩ = some (.slice none 0 0) ∧ (convert 27 9 (.slice xA (en - ai) (cv - ai))).run Try.prog W = .ok (.string sx) W ∧ (convert 27 9 (.slice Ad ni cd)).run Try.prog W = .ok (.string sx) W)) (by kernel_rfl) ?_ (fun hHeld => ?_)
                      · exact HS.out _ (Below.refl _ _).drew
                      refine wpAnyH_take (i := 0) (v := ?_) rfl (by kernel_rfl) (by kernel_rfl) (by kernel_rfl) (fun _ _ _ h => h) (Or.inl ⟨by rfl, ?_⟩) (by assumption) ?_
                      rotate_left
                      · intro w hSw; (try dsimp only at hSw); go_simp; try with_reducible rfl
                      go_simp
                      refine wpAnyH_take (i := 2) (v := ?_) rfl (by kernel_rfl) (by kernel_rfl) (by kernel_rfl) (fun _ _ _ h => h) (Or.inl ⟨by rfl, ?_⟩) (by assumption) ?_
                      rotate_left
                      · intro w hSw; (try dsimp only at hSw); go_simp; try with_reducible rfl
                      go_simp
                      refine wpAnyH_ready (rs := [1]) (by kernel_rfl) (by simp) ?_
                      refine AllReadyH.cons rfl (fun K hK => ?_) AllReadyH.nil
                      go_simp
                      refine (HSZ.out _ (Below.refl w5.heap.size w5).drew).mono ?_
                      rintro e wz ⟨⟨z, rfl, hz⟩, hbz⟩
                      have HBZ : Below w5.heap.size w5 wz := (Below.refl w5.heap.size w5).drew.trans (hbz.mono (Below.refl w5.heap.size w5).drew.size)
                      clear hbz
                      have qz : decide (r < z) = false := decide_eq_false (by omega)
                      refine hK.out _ _ ?_ (fun hHeld => ?_)
                      · exact HS.out _ HBZ
                      clear hK K
                      go_simp
                      refine wpAnyH_take (i := 3) (v := ?_) rfl (by kernel_rfl) (by kernel_rfl) (by kernel_rfl) (fun _ _ _ h => h) (Or.inl ⟨by rfl, ?_⟩) (by assumption) ?_
                      rotate_left
                      · intro w hSw; (try dsimp only at hSw); go_simp; try with_reducible rfl
                      go_simp
                      refine wpAnyH_take (i := 4) (v := ?_) rfl (by kernel_rfl) (by kernel_rfl) (by kernel_rfl) (fun _ _ _ h => h) (Or.inl ⟨by rfl, ?_⟩) (by assumption) ?_
                      rotate_left
                      · intro w hSw; (try dsimp only at hSw); go_simp; try with_reducible rfl
                      go_simp
                      refine wpAnyH_take (i := 5) (v := ?_) rfl (by kernel_rfl) (by kernel_rfl) (by kernel_rfl) (fun _ _ _ h => h) (Or.inl ⟨by rfl, ?_⟩) (by assumption) ?_
                      rotate_left
                      · intro w hSw; (try dsimp only at hSw); go_simp; try with_reducible rfl
                      go_simp
                      refine wpAnyH_take (i := 6) (v := ?_) rfl (by kernel_rfl) (by kernel_rfl) (by kernel_rfl) (fun _ _ _ h => h) (Or.inl ⟨by rfl, ?_⟩) (by assumption) ?_
                      rotate_left
                      · intro w hSw; (try dsimp only at hSw); go_simp; try with_reducible rfl
                      go_simp
                      refine wpAnyH_take (i := 7) (v := ?_) rfl (by kernel_rfl) (by kernel_rfl) (by kernel_rfl) (fun _ _ _ h => h) (Or.inl ⟨by rfl, ?_⟩) (by assumption) ?_
                      rotate_left
                      · intro w hSw; (try dsimp only at hSw); go_simp; try with_reducible rfl
                      go_simp
                      refine wpAnyH_take (i := 8) (v := ?_) rfl (by kernel_rfl) (by kernel_rfl) (by kernel_rfl) (fun _ _ _ h => h) (Or.inl ⟨by rfl, ?_⟩) (by assumption) ?_
                      rotate_left
                      · intro w hSw; (try dsimp only at hSw); go_simp; try with_reducible rfl
                      go_simp
                      refine wpAnyH_take (i := 9) (v := ?_) rfl (by kernel_rfl) (by kernel_rfl) (by kernel_rfl) (fun _ _ _ h => h) (Or.inl ⟨by rfl, ?_⟩) (by assumption) ?_
                      rotate_left
                      · intro w hSw; (try dsimp only at hSw); go_simp; try with_reducible rfl
                      go_simp
                      refine wpAnyH_take (i := 10) (v := ?_) rfl (by kernel_rfl) (by kernel_rfl) (by kernel_rfl) (fun _ _ _ h => h) (Or.inl ⟨by rfl, ?_⟩) (by assumption) ?_
                      rotate_left
                      · intro w hSw; (try dsimp only at hSw); go_simp; try with_reducible rfl
                      go_simp
                      refine wpAnyH_take (i := 11) (v := ?_) rfl (by kernel_rfl) (by kernel_rfl) (by kernel_rfl) (fun _ _ _ h => h) (Or.inl ⟨by rfl, ?_⟩) (by assumption) ?_
                      rotate_left
                      · intro w hSw; (try dsimp only at hSw); go_simp; try with_reducible rfl
                      go_simp
                      refine wpAnyH_take (i := 12) (v := ?_) rfl (by kernel_rfl) (by kernel_rfl) (by kernel_rfl) (fun _ _ _ h => h) (Or.inl ⟨by rfl, ?_⟩) (by assumption) ?_
                      rotate_left
                      · intro w hSw; (try dsimp only at hSw); go_simp; try with_reducible rfl
                      go_simp
                      refine wpAnyH_take (i := 13) (v := ?_) rfl (by kernel_rfl) (by kernel_rfl) (by kernel_rfl) (fun _ _ _ h => h) (Or.inl ⟨by rfl, ?_⟩) (by assumption) ?_
                      rotate_left
                      · intro w hSw; (try dsimp only at hSw); go_simp; try with_reducible rfl
                      go_simp
                      refine wpAnyH_take (i := 14) (v := ?_) rfl (by kernel_rfl) (by kernel_rfl) (by kernel_rfl) (fun _ _ _ h => h) (Or.inl ⟨by rfl, ?_⟩) (by assumption) ?_
                      rotate_left
                      · intro w hSw; (try dsimp only at hSw); go_simp; try with_reducible rfl
                      go_simp
                      refine wpAnyH_take (i := 15) (v := ?_) rfl (by kernel_rfl) (by kernel_rfl) (by kernel_rfl) (fun _ _ _ h => h) (Or.inl ⟨by rfl, ?_⟩) (by assumption) ?_
                      rotate_left
                      · intro w hSw; (try dsimp only at hSw); go_simp; try with_reducible rfl
                      go_simp
                      refine wpAnyH_take (i := 16) (v := ?_) rfl (by kernel_rfl) (by kernel_rfl) (by kernel_rfl) (fun _ _ _ h => h) (Or.inl ⟨by rfl, ?_⟩) (by assumption) ?_
                      rotate_left
                      · intro w hSw; (try dsimp only at hSw); go_simp; try with_reducible rfl
                      go_simp
                      refine wpAnyH_take (i := 17) (v := ?_) rfl (by kernel_rfl) (by kernel_rfl) (by kernel_rfl) (fun _ _ _ h => h) (Or.inl ⟨by rfl, ?_⟩) (by assumption) ?_
                      rotate_left
                      · intro w hSw; (try dsimp only at hSw); go_simp; try with_reducible rfl
                      go_simp
                      refine wpAnyH_take (i := 18) (v := ?_) rfl (by kernel_rfl) (by kernel_rfl) (by kernel_rfl) (fun _ _ _ h => h) (Or.inl ⟨by rfl, ?_⟩) (by assumption) ?_
                      rotate_left
                      · intro w hSw; (try dsimp only at hSw); go_simp; try with_reducible rfl
                      go_simp
                      refine wpAnyH_take (i := 19) (v := ?_) rfl (by kernel_rfl) (by kernel_rfl) (by kernel_rfl) (fun _ _ _ h => h) (Or.inl ⟨by rfl, ?_⟩) (by assumption) ?_
                      rotate_left
                      · intro w hSw; (try dsimp only at hSw); go_simp; try with_reducible rfl
                      go_simp
                      refine wpAnyH_take (i := 20) (v := ?_) rfl (by kernel_rfl) (by kernel_rfl) (by kernel_rfl) (fun _ _ _ h => h) (Or.inl ⟨by rfl, ?_⟩) (by assumption) ?_
                      rotate_left
                      · intro w hSw; (try dsimp only at hSw); go_simp; try with_reducible rfl
                      go_simp
                      refine wpAnyH_take (i := 21) (v := ?_) rfl (by kernel_rfl) (by kernel_rfl) (by kernel_rfl) (fun _ _ _ h => h) (Or.inl ⟨by rfl, ?_⟩) (by assumption) ?_
                      rotate_left
                      · intro w hSw; (try dsimp only at hSw); go_simp; try with_reducible rfl
                      go_simp
                      refine wpAnyH_take (i := 22) (v := ?_) rfl (by kernel_rfl) (by kernel_rfl) (by kernel_rfl) (fun _ _ _ h => h) (Or.inl ⟨by rfl, ?_⟩) (by assumption) ?_
                      rotate_left
                      · intro w hSw; (try dsimp only at hSw); go_simp; try with_reducible rfl
                      go_simp
                      refine wpAnyH_take (i := 23) (v := ?_) rfl (by kernel_rfl) (by kernel_rfl) (by kernel_rfl) (fun _ _ _ h => h) (Or.inl ⟨by rfl, ?_⟩) (by assumption) ?_
                      rotate_left
                      · intro w hSw; (try dsimp only at hSw); go_simp; try with_reducible rfl
                      go_simp
                      refine wpAnyH_take (i := 24) (v := ?_) rfl (by kernel_rfl) (by kernel_rfl) (by kernel_rfl) (fun _ _ _ h => h) (Or.inl ⟨by rfl, ?_⟩) (by assumption) ?_
                      rotate_left
                      · intro w hSw; (try dsimp only at hSw); go_simp; try with_reducible rfl
                      go_simp
                      refine wpAnyH_take (i := 25) (v := ?_) rfl (by kernel_rfl) (by kernel_rfl) (by kernel_rfl) (fun _ _ _ h => h) (Or.inl ⟨by rfl, ?_⟩) (by assumption) ?_
                      rotate_left
                      · intro w hSw; (try dsimp only at hSw); go_simp; try with_reducible rfl
                      go_simp
                      refine wpAnyH_take (i := 26) (v := ?_) rfl (by kernel_rfl) (by kernel_rfl) (by kernel_rfl) (fun _ _ _ h => h) (Or.inl ⟨by rfl, ?_⟩) (by assumption) ?_
                      rotate_left
                      · intro w hSw; (try dsimp only at hSw); go_simp; try with_reducible rfl
                      go_simp
                      refine wpAnyH_take (i := 27) (v := ?_) rfl (by kernel_rfl) (by kernel_rfl) (by kernel_rfl) (fun _ _ _ h => h) (Or.inl ⟨by rfl, ?_⟩) (by assumption) ?_
                      rotate_left
                      · intro w hSw; (try dsimp only at hSw); go_simp; try with_reducible rfl
                      go_simp
                      refine wpAnyH_take (i := 28) (v := ?_) rfl (by kernel_rfl) (by kernel_rfl) (by kernel_rfl) (fun _ _ _ h => h) (Or.inl ⟨by rfl, ?_⟩) (by assumption) ?_
                      rotate_left
                      · intro w hSw; (try dsimp only at hSw); go_simp; try with_reducible rfl
                      go_simp
                      refine wpAnyH_take (i := 29) (v := ?_) rfl (by kernel_rfl) (by kernel_rfl) (by kernel_rfl) (fun _ _ _ h => h) (Or.inl ⟨by rfl, ?_⟩) (by assumption) ?_
                      rotate_left
                      · intro w hSw; (try dsimp only at hSw); go_simp; try with_reducible rfl
                      go_simp
                      refine wpAnyH_take (i := 30) (v := ?_) rfl (by kernel_rfl) (by kernel_rfl) (by kernel_rfl) (fun _ _ _ h => h) (Or.inl ⟨by rfl, ?_⟩) (by assumption) ?_
                      rotate_left
                      · intro w hSw; (try dsimp only at hSw); go_simp; try with_reducible rfl
                      go_simp
                      refine wpAnyH_take (i := 31) (v := undef) rfl (by kernel_rfl) (by kernel_rfl) (by kernel_rfl) (fun _ _ _ h => h) (Or.inr ⟨by rfl, rfl⟩) (by assumption) ?_
                      go_simp
                      refine wpAnyH_take (i := 32) (v := undef) rfl (by kernel_rfl) (by kernel_rfl) (by kernel_rfl) (fun _ _ _ h => h) (Or.inr ⟨by rfl, rfl⟩) (by assumption) ?_
                      go_simp
                      refine wpAnyH_take (i := 33) (v := undef) rfl (by kernel_rfl) (by kernel_rfl) (by kernel_rfl) (fun _ _ _ h => h) (Or.inr ⟨by rfl, rfl⟩) (by assumption) ?_
                      go_simp
                      refine wpAnyH_take (i := 34) (v := undef) rfl (by kernel_rfl) (by kernel_rfl) (by kernel_rfl) (fun _ _ _ h => h) (Or.inr ⟨by rfl, rfl⟩) (by assumption) ?_
                      go_simp
                      refine wpAnyH_take (i := 35) (v := ?_) rfl (by kernel_rfl) (by kernel_rfl) (by kernel_rfl) (fun _ _ _ h => h) (Or.inl ⟨by rfl, ?_⟩) (by assumption) ?_
                      rotate_left
                      · intro w hSw; (try dsimp only at hSw); go_simp; try with_reducible rfl
                      go_simp
                      refine wpAnyH_take (i := 36) (v := ?_) rfl (by kernel_rfl) (by kernel_rfl) (by kernel_rfl) (fun _ _ _ h => h) (Or.inl ⟨by rfl, ?_⟩) (by assumption) ?_
                      rotate_left
                      · intro w hSw; (try dsimp only at hSw); go_simp; try with_reducible rfl
                      go_simp
                      refine wpAnyH_done (by kernel_rfl) ?_ _
                      go_wp2_with fail
                      go_meet
                      case rel => exact ⟨rfl, HBZ⟩
                    obtain rfl : en = L := HFE.out rfl
                    refine wp_region_held_drew (S := (fun W : World => Below w5.heap.size w5 W ∧ W.cell? ⟨g5, 0, none⟩ = some (.int .i64 3) ∧ W.cell? ⟨g5, 1, none⟩ = some (.int .i64 6) ∧ W.cell? ⟨g5, 2, none⟩ = some (.int .i64 (ai : Int)) ∧ W.cell? ⟨g5, 3, none⟩ = some (.int .i64 0) ∧ W.cell? ⟨g5, 4, none⟩ = some (.int .i64 0) ∧ W.cell? ⟨g5, 5, none⟩ = some (.int .i64 0) ∧ W.cell? ⟨g5, 6, none⟩ = some (.bool true) ∧ W.cell? ⟨g5, 7, none⟩ = some (.slice Ad ni cd) ∧ W.cell? ⟨g5, 8, none⟩ = some (.slice none 0 0) ∧ (convert 27 9 (.slice xA (en - ai) (cv - ai))).run Try.prog W = .ok (.string sx) W ∧ (convert 27 9 (.slice Ad ni cd)).run Try.prog W = .ok (.string sx) W)) (by kernel_rfl) ?_ (fun hHeld => ?_)
                    · exact HS.out _ (Below.refl _ _).drew
                    refine wpAnyH_take (i := 0) (v := ?_) rfl (by kernel_rfl) (by kernel_rfl) (by kernel_rfl) (fun _ _ _ h => h) (Or.inl ⟨by rfl, ?_⟩) (by assumption) ?_
                    rotate_left
                    · intro w hSw; (try dsimp only at hSw); go_simp; try with_reducible rfl
                    go_simp
                    refine wpAnyH_take (i := 2) (v := ?_) rfl (by kernel_rfl) (by kernel_rfl) (by kernel_rfl) (fun _ _ _ h => h) (Or.inl ⟨by rfl, ?_⟩) (by assumption) ?_
                    rotate_left
                    · intro w hSw; (try dsimp only at hSw); go_simp; try with_reducible rfl
                    go_simp
                    refine wpAnyH_ready (rs := [1]) (by kernel_rfl) (by simp) ?_
                    refine AllReadyH.cons rfl (fun K hK => ?_) AllReadyH.nil
                    go_simp
                    refine (HSZ.out _ (Below.refl w5.heap.size w5).drew).mono ?_
                    rintro e wz ⟨⟨z, rfl, hz⟩, hbz⟩
                    have HBZ : Below w5.heap.size w5 wz := (Below.refl w5.heap.size w5).drew.trans (hbz.mono (Below.refl w5.heap.size w5).drew.size)
                    clear hbz
                    have qz : decide (r < z) = false := decide_eq_false (by omega)
                    refine hK.out _ _ ?_ (fun hHeld => ?_)
                    · exact HS.out _ HBZ
                    clear hK K
                    go_simp
                    refine wpAnyH_take (i := 3) (v := ?_) rfl (by kernel_rfl) (by kernel_rfl) (by kernel_rfl) (fun _ _ _ h => h) (Or.inl ⟨by rfl, ?_⟩) (by assumption) ?_
                    rotate_left
                    · intro w hSw; (try dsimp only at hSw); go_simp; try with_reducible rfl
                    go_simp
                    refine wpAnyH_take (i := 4) (v := ?_) rfl (by kernel_rfl) (by kernel_rfl) (by kernel_rfl) (fun _ _ _ h => h) (Or.inl ⟨by rfl, ?_⟩) (by assumption) ?_
                    rotate_left
                    · intro w hSw; (try dsimp only at hSw); go_simp; try with_reducible rfl
                    go_simp
                    refine wpAnyH_take (i := 5) (v := ?_) rfl (by kernel_rfl) (by kernel_rfl) (by kernel_rfl) (fun _ _ _ h => h) (Or.inl ⟨by rfl, ?_⟩) (by assumption) ?_
                    rotate_left
                    · intro w hSw; (try dsimp only at hSw); go_simp; try with_reducible rfl
                    go_simp
                    refine wpAnyH_take (i := 6) (v := ?_) rfl (by kernel_rfl) (by kernel_rfl) (by kernel_rfl) (fun _ _ _ h => h) (Or.inl ⟨by rfl, ?_⟩) (by assumption) ?_
                    rotate_left
                    · intro w hSw; (try dsimp only at hSw); go_simp; try with_reducible rfl
                    go_simp
                    refine wpAnyH_take (i := 7) (v := ?_) rfl (by kernel_rfl) (by kernel_rfl) (by kernel_rfl) (fun _ _ _ h => h) (Or.inl ⟨by rfl, ?_⟩) (by assumption) ?_
                    rotate_left
                    · intro w hSw; (try dsimp only at hSw); go_simp; try with_reducible rfl
                    go_simp
                    refine wpAnyH_take (i := 8) (v := ?_) rfl (by kernel_rfl) (by kernel_rfl) (by kernel_rfl) (fun _ _ _ h => h) (Or.inl ⟨by rfl, ?_⟩) (by assumption) ?_
                    rotate_left
                    · intro w hSw; (try dsimp only at hSw); go_simp; try with_reducible rfl
                    go_simp
                    refine wpAnyH_take (i := 9) (v := ?_) rfl (by kernel_rfl) (by kernel_rfl) (by kernel_rfl) (fun _ _ _ h => h) (Or.inl ⟨by rfl, ?_⟩) (by assumption) ?_
                    rotate_left
                    · intro w hSw; (try dsimp only at hSw); go_simp; try with_reducible rfl
                    go_simp
                    refine wpAnyH_take (i := 10) (v := ?_) rfl (by kernel_rfl) (by kernel_rfl) (by kernel_rfl) (fun _ _ _ h => h) (Or.inl ⟨by rfl, ?_⟩) (by assumption) ?_
                    rotate_left
                    · intro w hSw; (try dsimp only at hSw); go_simp; try with_reducible rfl
                    go_simp
                    refine wpAnyH_take (i := 11) (v := ?_) rfl (by kernel_rfl) (by kernel_rfl) (by kernel_rfl) (fun _ _ _ h => h) (Or.inl ⟨by rfl, ?_⟩) (by assumption) ?_
                    rotate_left
                    · intro w hSw; (try dsimp only at hSw); go_simp; try with_reducible rfl
                    go_simp
                    refine wpAnyH_take (i := 12) (v := ?_) rfl (by kernel_rfl) (by kernel_rfl) (by kernel_rfl) (fun _ _ _ h => h) (Or.inl ⟨by rfl, ?_⟩) (by assumption) ?_
                    rotate_left
                    · intro w hSw; (try dsimp only at hSw); go_simp; try with_reducible rfl
                    go_simp
                    refine wpAnyH_take (i := 13) (v := ?_) rfl (by kernel_rfl) (by kernel_rfl) (by kernel_rfl) (fun _ _ _ h => h) (Or.inl ⟨by rfl, ?_⟩) (by assumption) ?_
                    rotate_left
                    · intro w hSw; (try dsimp only at hSw); go_simp; try with_reducible rfl
                    go_simp
                    refine wpAnyH_take (i := 14) (v := ?_) rfl (by kernel_rfl) (by kernel_rfl) (by kernel_rfl) (fun _ _ _ h => h) (Or.inl ⟨by rfl, ?_⟩) (by assumption) ?_
                    rotate_left
                    · intro w hSw; (try dsimp only at hSw); go_simp; try with_reducible rfl
                    go_simp
                    refine wpAnyH_take (i := 15) (v := ?_) rfl (by kernel_rfl) (by kernel_rfl) (by kernel_rfl) (fun _ _ _ h => h) (Or.inl ⟨by rfl, ?_⟩) (by assumption) ?_
                    rotate_left
                    · intro w hSw; (try dsimp only at hSw); go_simp; try with_reducible rfl
                    go_simp
                    refine wpAnyH_take (i := 16) (v := ?_) rfl (by kernel_rfl) (by kernel_rfl) (by kernel_rfl) (fun _ _ _ h => h) (Or.inl ⟨by rfl, ?_⟩) (by assumption) ?_
                    rotate_left
                    · intro w hSw; (try dsimp only at hSw); go_simp; try with_reducible rfl
                    go_simp
                    refine wpAnyH_take (i := 17) (v := ?_) rfl (by kernel_rfl) (by kernel_rfl) (by kernel_rfl) (fun _ _ _ h => h) (Or.inl ⟨by rfl, ?_⟩) (by assumption) ?_
                    rotate_left
                    · intro w hSw; (try dsimp only at hSw); go_simp; try with_reducible rfl
                    go_simp
                    refine wpAnyH_take (i := 18) (v := ?_) rfl (by kernel_rfl) (by kernel_rfl) (by kernel_rfl) (fun _ _ _ h => h) (Or.inl ⟨by rfl, ?_⟩) (by assumption) ?_
                    rotate_left
                    · intro w hSw; (try dsimp only at hSw); go_simp; try with_reducible rfl
                    go_simp
                    refine wpAnyH_take (i := 19) (v := ?_) rfl (by kernel_rfl) (by kernel_rfl) (by kernel_rfl) (fun _ _ _ h => h) (Or.inl ⟨by rfl, ?_⟩) (by assumption) ?_
                    rotate_left
                    · intro w hSw; (try dsimp only at hSw); go_simp; try with_reducible rfl
                    go_simp
                    refine wpAnyH_take (i := 20) (v := ?_) rfl (by kernel_rfl) (by kernel_rfl) (by kernel_rfl) (fun _ _ _ h => h) (Or.inl ⟨by rfl, ?_⟩) (by assumption) ?_
                    rotate_left
                    · intro w hSw; (try dsimp only at hSw); go_simp; try with_reducible rfl
                    go_simp
                    refine wpAnyH_take (i := 21) (v := ?_) rfl (by kernel_rfl) (by kernel_rfl) (by kernel_rfl) (fun _ _ _ h => h) (Or.inl ⟨by rfl, ?_⟩) (by assumption) ?_
                    rotate_left
                    · intro w hSw; (try dsimp only at hSw); go_simp; try with_reducible rfl
                    go_simp
                    refine wpAnyH_take (i := 22) (v := ?_) rfl (by kernel_rfl) (by kernel_rfl) (by kernel_rfl) (fun _ _ _ h => h) (Or.inl ⟨by rfl, ?_⟩) (by assumption) ?_
                    rotate_left
                    · intro w hSw; (try dsimp only at hSw); go_simp; try with_reducible rfl
                    go_simp
                    refine wpAnyH_take (i := 23) (v := ?_) rfl (by kernel_rfl) (by kernel_rfl) (by kernel_rfl) (fun _ _ _ h => h) (Or.inl ⟨by rfl, ?_⟩) (by assumption) ?_
                    rotate_left
                    · intro w hSw; (try dsimp only at hSw); go_simp; try with_reducible rfl
                    go_simp
                    refine wpAnyH_take (i := 24) (v := ?_) rfl (by kernel_rfl) (by kernel_rfl) (by kernel_rfl) (fun _ _ _ h => h) (Or.inl ⟨by rfl, ?_⟩) (by assumption) ?_
                    rotate_left
                    · intro w hSw; (try dsimp only at hSw); go_simp; try with_reducible rfl
                    go_simp
                    refine wpAnyH_take (i := 25) (v := ?_) rfl (by kernel_rfl) (by kernel_rfl) (by kernel_rfl) (fun _ _ _ h => h) (Or.inl ⟨by rfl, ?_⟩) (by assumption) ?_
                    rotate_left
                    · intro w hSw; (try dsimp only at hSw); go_simp; try with_reducible rfl
                    go_simp
                    refine wpAnyH_take (i := 26) (v := ?_) rfl (by kernel_rfl) (by kernel_rfl) (by kernel_rfl) (fun _ _ _ h => h) (Or.inl ⟨by rfl, ?_⟩) (by assumption) ?_
                    rotate_left
                    · intro w hSw; (try dsimp only at hSw); go_simp; try with_reducible rfl
                    go_simp
                    refine wpAnyH_take (i := 27) (v := ?_) rfl (by kernel_rfl) (by kernel_rfl) (by kernel_rfl) (fun _ _ _ h => h) (Or.inl ⟨by rfl, ?_⟩) (by assumption) ?_
                    rotate_left
                    · intro w hSw; (try dsimp only at hSw); go_simp; try with_reducible rfl
                    go_simp
                    refine wpAnyH_take (i := 28) (v := ?_) rfl (by kernel_rfl) (by kernel_rfl) (by kernel_rfl) (fun _ _ _ h => h) (Or.inl ⟨by rfl, ?_⟩) (by assumption) ?_
                    rotate_left
                    · intro w hSw; (try dsimp only at hSw); go_simp; try with_reducible rfl
                    go_simp
                    refine wpAnyH_take (i := 29) (v := ?_) rfl (by kernel_rfl) (by kernel_rfl) (by kernel_rfl) (fun _ _ _ h => h) (Or.inl ⟨by rfl, ?_⟩) (by assumption) ?_
                    rotate_left
                    · intro w hSw; (try dsimp only at hSw); go_simp; try with_reducible rfl
                    go_simp
                    refine wpAnyH_take (i := 30) (v := ?_) rfl (by kernel_rfl) (by kernel_rfl) (by kernel_rfl) (fun _ _ _ h => h) (Or.inl ⟨by rfl, ?_⟩) (by assumption) ?_
                    rotate_left
                    · intro w hSw; (try dsimp only at hSw); go_simp; try with_reducible rfl
                    go_simp
                    refine wpAnyH_take (i := 31) (v := ?_) rfl (by kernel_rfl) (by kernel_rfl) (by kernel_rfl) (fun _ _ _ h => h) (Or.inl ⟨by rfl, ?_⟩) (by assumption) ?_
                    rotate_left
                    · intro w hSw; (try dsimp only at hSw); go_simp; try with_reducible rfl
                    go_simp
                    refine wpAnyH_take (i := 32) (v := ?_) rfl (by kernel_rfl) (by kernel_rfl) (by kernel_rfl) (fun _ _ _ h => h) (Or.inl ⟨by rfl, ?_⟩) (by assumption) ?_
                    rotate_left
                    · intro w hSw; (try dsimp only at hSw); go_simp; try with_reducible rfl
                    go_simp
                    refine wpAnyH_take (i := 33) (v := ?_) rfl (by kernel_rfl) (by kernel_rfl) (by kernel_rfl) (fun _ _ _ h => h) (Or.inl ⟨by rfl, ?_⟩) (by assumption) ?_
                    rotate_left
                    · intro w hSw; (try dsimp only at hSw); go_simp; try with_reducible rfl
                    go_simp
                    refine wpAnyH_take (i := 34) (v := ?_) rfl (by kernel_rfl) (by kernel_rfl) (by kernel_rfl) (fun _ _ _ h => h) (Or.inl ⟨by rfl, ?_⟩) (by assumption) ?_
                    rotate_left
                    · intro w hSw; (try dsimp only at hSw); go_simp; try with_reducible rfl
                    go_simp
                    refine wpAnyH_take (i := 35) (v := ?_) rfl (by kernel_rfl) (by kernel_rfl) (by kernel_rfl) (fun _ _ _ h => h) (Or.inl ⟨by rfl, ?_⟩) (by assumption) ?_
                    rotate_left
                    · intro w hSw; (try dsimp only at hSw); go_simp; try with_reducible rfl
                    go_simp
                    refine wpAnyH_take (i := 36) (v := ?_) rfl (by kernel_rfl) (by kernel_rfl) (by kernel_rfl) (fun _ _ _ h => h) (Or.inl ⟨by rfl, ?_⟩) (by assumption) ?_
                    rotate_left
                    · intro w hSw; (try dsimp only at hSw); go_simp; try with_reducible rfl
                    go_simp
                    refine wpAnyH_done (by kernel_rfl) ?_ _
                    go_wp2_with fail
                    go_meet
                    case rel => exact ⟨rfl, HBZ⟩
                  case rest =>
                    obtain ⟨hcv, hcb⟩ := hcut
                    subst hcv
                    have H7 : Hid (All2 w wc p pc (.slice Av L cv) cv2 bs (putS s ai ni fin fresh) F5 a5 b5' c5) := H6.out.below hcb
                    have HG7 : Hid (FrB wc g5 3 6 ai 0 0 0 fin Ad ni cd none 0 0) := (hcb.block g5 (lt_of_block HG5.out)).trans HG5.out
                    clear hcb HG5 H6 HRD HS HSZ HFE d0 d1 d2 d3 d4 d5 d6 d7 d8 hxA
                    obtain ⟨w7, hw7⟩ : ∃ x, wc = x := ⟨_, rfl⟩
                    rw [hw7] at H7 HG7 ⊢
                    clear hw7
                    go_upto_region 29 with (fail)
                    go_cut [142] (fun v wx => ∃ lb : Bool, v = .bool lb ∧ wx = w7 ∧ (lb = true → (j : Int) < 60))
                    case first =>
                      by_cases hl1 : (j : Int) < (fs.length : Int)
                      · by_cases hl2 : (j : Int) < 60
                        · obtain ⟨bb, oo, hA, hbn, hcs⟩ := HFS.out.rd.2 (by omega)
                          subst hA
                          have hcell : w7.cell? ⟨bb, oo + j, none⟩ = some (.int .i64 (fs.getD j 0)) := by
                            rw [H7.out.low.cell (p := ⟨bb, oo + j, none⟩) hbn]
                            exact hcs j _ (ints_get fs j (by omega))
                          obtain ⟨fz, hfz⟩ : ∃ z, fs.getD j 0 = z := ⟨_, rfl⟩
                          rw [hfz] at hcell
                          clear hcs hfz
                          go_wp2_with fail
                          go_meet
                          case rel => exact ⟨_, rfl, rfl, fun _ => hl2⟩
                        · go_wp2_with fail
                          go_meet
                          case rel => exact ⟨_, rfl, rfl, fun h => by cases h⟩
                      · go_wp2_with fail
                        go_meet
                        case rel => exact ⟨_, rfl, rfl, fun h => by cases h⟩
                    case rest =>
                      obtain ⟨lb, hcv, hcw, hlb⟩ := hcut
                      subst hcv
                      rw [hcw]
                      clear hcw
                      have HLB := Lib.hid hlb
                      clear hlb
                      obtain ⟨d0, d1, d2, d3, d4, d5, d6, d7, d8⟩ := HG7.out.cells
                      have HLO := Lib.hid (lost_st H7.out.st HOK.out 3 6 ai 0 0 0 fin Ad ni cd none 0 0 ⟨hf0, by omega⟩ (by omega))
                      have HAC := Lib.hid (acked_st H7.out.st HOK.out 3 6 ai 0 0 0 fin Ad ni cd none 0 0 ⟨hf0, by omega⟩ (by omega))
                      have HEQ : Hid ((⟨3, 6, ai, 0, fin, ni⟩ : Fk) = fkOf s ai ni fin) := HFK.out.symm
                      rw [HEQ.out] at HLO HAC
                      cases lb
                      · clear HLO HLOS HLB
                        have HCL : Hid (s.came.length ≤ 1000000) := by have := (edges_len HP.out.pr.ok).2; show _ ≤ _; omega
                        go_wp2_with fail
                        refine HAC.out.mono ?_
                        rintro e w8 ⟨rfl, hs8⟩
                        obtain ⟨F8, x8, y8, z8, h8⟩ := H7.out.step3 hs8
                        have HAD := Lib.hid (h8.add HCL.out ai en (by rw [← HEN.out]; exact HST.out.2.1.symm))
                        have HG8 : Hid (FrB w8 g5 3 6 ai 0 0 0 fin Ad ni cd none 0 0) := by
                          obtain ⟨_, _, _, _, _, hk, _⟩ := hs8
                          exact (hk.block g5 (lt_of_block HG7.out) HGF.out).trans HG7.out
                        clear h8 hs8 d0 d1 d2 d3 d4 d5 d6 d7 d8 HAC H7 HG7
                        have d2 := cell_slot (o := 2) HG8.out rfl
                        go_wp2_with fail
                        refine HAD.out.mono ?_
                        rintro e w9 ⟨rfl, ⟨cv9, h9⟩, hk9⟩
                        have H9 := Lib.hid h9
                        have HG9 : Hid (FrB w9 g5 3 6 ai 0 0 0 fin Ad ni cd none 0 0) := (hk9.block g5 (lt_of_block HG8.out) (by simp; exact HGP.out)).trans HG8.out
                        clear h9 hk9 d2 HAD HG8
                        obtain ⟨s9, hs9⟩ : ∃ x, ackS (putS s ai ni fin fresh) (fkOf s ai ni fin) = x := ⟨_, rfl⟩
                        rw [hs9] at H9 HACK
                        clear hs9 HST HCL HOK HEQ HFK HP HDD
                        have d6 := cell_slot (o := 6) HG9.out rfl
                        obtain ⟨b2, hb2⟩ : ∃ b, (f || fin) = b := ⟨_, rfl⟩
                        rw [hb2] at HACK
                        have HB2 := Lib.hid hb2
                        clear hb2
                        go_upto_region 33 with (fail)
                        go_cut [12] (fun v wx => v = .bool b2 ∧ wx = w9)
                        case first =>
                          cases f
                          · obtain rfl : fin = b2 := HB2.out
                            go_wp2_with fail
                            go_meet
                            case rel => exact ⟨rfl, rfl⟩
                          · obtain rfl : b2 = true := by rw [← HB2.out]; rfl
                            go_wp2_with fail
                            go_meet
                            case rel => exact ⟨rfl, rfl⟩
                        case rest =>
                          obtain ⟨hcv, hcw⟩ := hcut
                          subst hcv
                          rw [hcw]
                          clear hcw d6
                          have HD := Lib.hid (done_st H9.out.st (by have := (edges_len HACK.out.pr.ok).2; omega))
                          obtain ⟨d, hd⟩ : ∃ d, doneS s9 = d := ⟨_, rfl⟩
                          rw [hd] at HD
                          cases d
                          · clear hd
                            go_wp2_with fail
                            refine HD.out.mono ?_
                            rintro e wa ⟨rfl, qa, hwa⟩
                            have HN : Hid (∃ s cv2 F x y z, All2 w wa p pc (.slice Av L cv) cv2 bs s F x y z ∧ AllP bs ((j + 1 : Nat) : Int) b2 s) := ⟨_, _, _, _, _, _, by rw [hwa]; exact H9.out.drewN qa, HACK.out⟩
                            clear hwa
                            go_wp2_with fail
                            go_roundw
                            case rel => exact ⟨j + 1, b2, by omega, by go_num, rfl, HN⟩
                            case measure => simp [intOf]; omega
                          · obtain ⟨hbt, hall⟩ := HACK.out.end' hd
                            subst hbt
                            have HAL := Lib.hid (fun q => (H9.out.drewN q).all (by have := (edges_len HACK.out.pr.ok).2; omega) (L : Int))
                            rw [HL.out] at hall
                            rw [hall] at HAL
                            clear hall hd
                            go_wp2_with fail
                            refine HD.out.mono ?_
                            rintro e wa ⟨rfl, qa, hwa⟩
                            subst hwa
                            go_wp2_with fail
                            refine (HAL.out qa).mono ?_
                            rintro e wb ⟨rfl, qb, hwb⟩
                            have HN : Hid (∃ s cv2 F x y z, All2 w wb p pc (.slice Av L cv) cv2 bs s F x y z ∧ AllP bs ((j + 1 : Nat) : Int) true s) := ⟨_, _, _, _, _, _, by rw [hwb]; exact (H9.out.drewN qa).drewN qb, HACK.out⟩
                            clear hwb
                            go_wp2_with fail
                            go_roundw
                            case rel => exact ⟨j + 1, true, by omega, by go_num, rfl, HN⟩
                            case measure => simp [intOf]; omega
                      · go_wp2_with fail
                        refine HLO.out.mono ?_
                        rintro e w8 ⟨rfl, hs8⟩
                        have HN : Hid (∃ s cv2 F x y z, All2 w w8 p pc (.slice Av L cv) cv2 bs s F x y z ∧ AllP bs ((j + 1 : Nat) : Int) f s) := by
                          obtain ⟨F8, x8, y8, z8, h8⟩ := H7.out.step hs8 HST.out.2.2.2
                          exact ⟨_, _, F8, x8, y8, z8, h8, HLOS.out (HLB.out trivial)⟩
                        clear hs8
                        go_wp2_with fail
                        go_roundw
                        case rel => exact ⟨j + 1, f, by omega, by go_num, rfl, HN⟩
                        case measure => simp [intOf]; omega
end Go.Proofs.Ytppbhjjkccogkaa.Se
