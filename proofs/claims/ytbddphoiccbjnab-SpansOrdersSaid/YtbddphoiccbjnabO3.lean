/- SpansOrders: the walk. Conditions: the calls' row is an argument's. -/
import Derived.Test.YtbddphoiccbjnabO2
namespace Go.Proofs.Ytbddphoiccbjnab.Orders
open Go Go.RowKit

set_option maxRecDepth 100000 in
set_option maxHeartbeats 16000000 in
theorem walk (A : Option Addr) (n cap : Nat) (zs : List Int) (turn_ from_ to_ : Int) (w : World) (hr : IsRows w A cap n 3 zs) :
    Calls Try.prog 7 #[.slice A n cap, .int .i64 turn_, .int .i64 from_, .int .i64 to_] w fun e w' => e = .returned (.bool true) ∧ Below w.heap.size w w' := by
  have HR := Lib.hid hr
  have hncap := hr.cap
  have hnI : (n : Int) ≤ 17592186044416 := by have := hr.reach; omega
  have hncI : (n : Int) ≤ (cap : Int) := by omega
  clear hr
  obtain ⟨k, hk⟩ : ∃ k : Nat, Hid (turn_ % ((n : Int) + 1) = (k : Int)) := ⟨(turn_ % ((n : Int) + 1)).toNat, by
    have := Int.emod_nonneg turn_ (show (n : Int) + 1 ≠ 0 by omega)
    show _ = _
    omega⟩
  have hkn : k ≤ n := by
    have := Int.emod_lt_of_pos turn_ (show (0 : Int) < (n : Int) + 1 by omega)
    rw [hk.out] at this
    omega
  have hknI : (k : Int) ≤ (n : Int) := by omega
  have P0 : Hid (∀ W, Calls Try.prog 23 #[.int .i64 turn_, .int .i64 ((n : Int) + 1)] W fun e w' => e = .returned (.int .i64 (k : Int)) ∧ W = w') := fun W => by
    have := pick_any turn_ ((n : Int) + 1) W (by omega) (by omega)
    rwa [hk.out] at this
  go_enter Try.func7, Try.ntmps7
  go_wp2_with (go_at_call 23; refine (P0.out _).mono ?_; rintro e w' ⟨rfl, rfl⟩)
  obtain ⟨w0, hw0⟩ : ∃ w0, (((w.alloc (.cells #[.slice none 0 0] 24)).alloc (.cells #[.slice none 0 0] 24)).alloc (.cells #[.slice none 0 0] 24)).alloc (.cells #[.slice none 0 0] 24) = w0 := ⟨_, rfl⟩
  have HI0 : Hid (Inv zs n k w.heap.size (w.heap.size + 1) (w.heap.size + 1 + 1) (w.heap.size + 1 + 1 + 1) w w0 0) := by
    have s0 := set_new w
    have s1 := set_new (w.alloc (.cells #[.slice none 0 0] 24))
    have s2 := set_new ((w.alloc (.cells #[.slice none 0 0] 24)).alloc (.cells #[.slice none 0 0] 24))
    have s3 := set_new (((w.alloc (.cells #[.slice none 0 0] 24)).alloc (.cells #[.slice none 0 0] 24)).alloc (.cells #[.slice none 0 0] 24))
    have al := fun (W : World) => (Below.refl W.heap.size W).alloc (Nat.le_refl _) (.cells #[.slice none 0 0] 24)
    rw [← hw0]
    refine ⟨[], [], [], [], ⟨((s0.below (al _)).below (al _)).below (al _), ?_, ?_, ?_⟩, ⟨Sm.nil _, Sm.nil _, Sm.nil _, Sm.nil _⟩, fun x => rfl, fun x => rfl, fun x => rfl, fun x => rfl, ?_⟩
    · have := (s1.below (al _)).below (al _); simpa using this
    · have := s2.below (al _); simpa using this
    · simpa using s3
    · exact (((al w).alloc (by simp) _).alloc (by simp; omega) _).alloc (by simp; omega) _
  rw [hw0]
  clear hw0
  obtain ⟨p1, hp1⟩ : ∃ p, Hid (w.heap.size + 1 = p) := ⟨_, rfl⟩
  rw [hp1.out] at HI0 ⊢
  obtain ⟨p2, hp2⟩ : ∃ p, Hid (p1 + 1 = p) := ⟨_, rfl⟩
  rw [hp2.out] at HI0 ⊢
  obtain ⟨p3, hp3⟩ : ∃ p, Hid (p2 + 1 = p) := ⟨_, rfl⟩
  rw [hp3.out] at HI0 ⊢
  obtain ⟨p0, hp0⟩ : ∃ p, Hid (w.heap.size = p) := ⟨_, rfl⟩
  rw [hp0.out] at HI0 ⊢
  have hlt : p0 < p1 ∧ p1 < p2 ∧ p2 < p3 := by have := hp0.out; have := hp1.out; have := hp2.out; have := hp3.out; omega
  go_loopw [32] (fun i wr => ∃ j : Nat, j ≤ n ∧ i = .int .i64 j ∧ Hid (Inv zs n k p0 p1 p2 p3 w wr j)) (fun i _ => n - (intOf i).toNat)
  case atStart => exact ⟨0, Nat.zero_le _, rfl, HI0⟩
  case round =>
    clear HI0
    obtain ⟨j, hj, rfl, HK⟩ := hrel
    by_cases hjn : j < n
    · have hjnI : (j : Int) < (n : Int) := by omega
      obtain ⟨ea, eb, ec, ed, ⟨sa, sb, sc, sd⟩, hsm, hma, hmb, hmc, hmd, hbe⟩ := HK.out
      have HSm := Lib.hid hsm
      have HM := Lib.hid (And.intro hma (And.intro hmb (And.intro hmc hmd)))
      have HSs := Lib.hid (And.intro sa (And.intro sb (And.intro sc sd)))
      have HBe := Lib.hid hbe
      clear sa sb sc sd hsm hma hmb hmc hmd hbe HK
      obtain ⟨b, off, hA, hbn, hcs⟩ := HR.out.rd.2 (by omega)
      subst hA
      have hzl := HR.out.len
      obtain ⟨r, hr⟩ : ∃ r, Hid ((j + k) % n = r) := ⟨_, rfl⟩
      have hrn : r < n := by rw [← hr.out]; exact Nat.mod_lt _ (by omega)
      have hrnI : (r : Int) < (n : Int) := by omega
      have hmod : ((j : Int) + (k : Int)) % (n : Int) = (r : Int) := by rw [← hr.out]; simp
      have hrd : ∀ q v, q < n * 3 → zs.getD q 0 = v → wr.cell? ⟨b, off + q, none⟩ = some (.int .i64 v) := fun q v hq hv => by
        rw [HBe.out.cell (p := ⟨b, off + q, none⟩) (show b < p0 by have := hp0.out; omega), hcs q _ (ints_get zs q (by omega)), hv]
      obtain ⟨x0, hx0⟩ : ∃ v, Hid (zs.getD (j * 3) 0 = v) := ⟨_, rfl⟩
      obtain ⟨x1, hx1⟩ : ∃ v, Hid (zs.getD (j * 3 + 1) 0 = v) := ⟨_, rfl⟩
      obtain ⟨x2, hx2⟩ : ∃ v, Hid (zs.getD (j * 3 + 2) 0 = v) := ⟨_, rfl⟩
      obtain ⟨y0, hy0⟩ : ∃ v, Hid (zs.getD (r * 3) 0 = v) := ⟨_, rfl⟩
      obtain ⟨y1, hy1⟩ : ∃ v, Hid (zs.getD (r * 3 + 1) 0 = v) := ⟨_, rfl⟩
      obtain ⟨y2, hy2⟩ : ∃ v, Hid (zs.getD (r * 3 + 2) 0 = v) := ⟨_, rfl⟩
      have cx0 := hrd (j * 3) x0 (by omega) hx0.out
      have cx1 : wr.cell? ⟨b, off + j * 3 + 1, none⟩ = some (.int .i64 x1) := hrd (j * 3 + 1) x1 (by omega) hx1.out
      have cx2 : wr.cell? ⟨b, off + j * 3 + 2, none⟩ = some (.int .i64 x2) := hrd (j * 3 + 2) x2 (by omega) hx2.out
      have cy0 := hrd (r * 3) y0 (by omega) hy0.out
      have cy1 : wr.cell? ⟨b, off + r * 3 + 1, none⟩ = some (.int .i64 y1) := hrd (r * 3 + 1) y1 (by omega) hy1.out
      have cy2 : wr.cell? ⟨b, off + r * 3 + 2, none⟩ = some (.int .i64 y2) := hrd (r * 3 + 2) y2 (by omega) hy2.out
      have nb := World.new_ne wr _ cx0
      have hbw : b < wr.heap.size := World.block_lt_of_cell? wr _ cx0
      have hwsz : Hid (p3 < wr.heap.size) := HSs.out.2.2.2.lt
      obtain ⟨xf, hxf⟩ : ∃ v, Hid (x1 % 80 = v) := ⟨_, rfl⟩
      obtain ⟨xt, hxt⟩ : ∃ v, Hid (x2 % 90 = v) := ⟨_, rfl⟩
      obtain ⟨yf, hyf⟩ : ∃ v, Hid (y1 % 80 = v) := ⟨_, rfl⟩
      obtain ⟨yt, hyt⟩ : ∃ v, Hid (y2 % 90 = v) := ⟨_, rfl⟩
      have xf0 : 0 ≤ xf := by have := hxf.out; omega
      have xf1 : xf ≤ ((90 : Nat) : Int) := by have := hxf.out; omega
      have xt0 : 0 ≤ xt := by have := hxt.out; omega
      have xt1 : xt ≤ ((90 : Nat) : Int) := by have := hxt.out; omega
      have yf0 : 0 ≤ yf := by have := hyf.out; omega
      have yf1 : yf ≤ ((90 : Nat) : Int) := by have := hyf.out; omega
      have yt0 : 0 ≤ yt := by have := hyt.out; omega
      have yt1 : yt ≤ ((90 : Nat) : Int) := by have := hyt.out; omega
      have hXr : Hid ((xf, xt) = runAt zs 80 90 j) := by show _ = _; unfold runAt; rw [hx1.out, hx2.out, hxf.out, hxt.out]
      have hYr : Hid ((yf, yt) = runAt zs 80 90 ((j + k) % n)) := by show _ = _; unfold runAt; rw [hr.out, hy1.out, hy2.out, hyf.out, hyt.out]
      have Px1 : Hid (∀ W, Calls Try.prog 23 #[.int .i64 x1, .int .i64 80] W fun e w' => e = .returned (.int .i64 xf) ∧ w' = W) := fun W => by
        refine (pick_any x1 80 W (by decide) (by decide)).mono ?_; rintro e w' ⟨rfl, rfl⟩; exact ⟨by rw [hxf.out], rfl⟩
      have Px2 : Hid (∀ W, Calls Try.prog 23 #[.int .i64 x2, .int .i64 90] W fun e w' => e = .returned (.int .i64 xt) ∧ w' = W) := fun W => by
        refine (pick_any x2 90 W (by decide) (by decide)).mono ?_; rintro e w' ⟨rfl, rfl⟩; exact ⟨by rw [hxt.out], rfl⟩
      have Py1 : Hid (∀ W, Calls Try.prog 23 #[.int .i64 y1, .int .i64 80] W fun e w' => e = .returned (.int .i64 yf) ∧ w' = W) := fun W => by
        refine (pick_any y1 80 W (by decide) (by decide)).mono ?_; rintro e w' ⟨rfl, rfl⟩; exact ⟨by rw [hyf.out], rfl⟩
      have Py2 : Hid (∀ W, Calls Try.prog 23 #[.int .i64 y2, .int .i64 90] W fun e w' => e = .returned (.int .i64 yt) ∧ w' = W) := fun W => by
        refine (pick_any y2 90 W (by decide) (by decide)).mono ?_; rintro e w' ⟨rfl, rfl⟩; exact ⟨by rw [hyt.out], rfl⟩
      clear hcs hrd
      go_wp2_with fail
      obtain ⟨wv, hwv⟩ : ∃ wv, (wr.alloc (.cells #[.int .i64 x0, .int .i64 x1, .int .i64 x2] 45)).alloc (.cells #[.int .i64 y0, .int .i64 y1, .int .i64 y2] 45) = wv := ⟨_, rfl⟩
      have HV : Hid (Hold p0 p1 p2 p3 wr.heap.size (wr.heap.size + 1) x1 x2 y1 y2 w wv ea eb ec ed) := by
        have hb2 := ((Below.refl wr.heap.size wr).alloc (Nat.le_refl _) (.cells #[.int .i64 x0, .int .i64 x1, .int .i64 x2] 45)).alloc (by simp) (.cells #[.int .i64 y0, .int .i64 y1, .int .i64 y2] 45)
        have hs3 := HSs.out.2.2.2.lt
        rw [← hwv]
        refine ⟨HSs.out.1.below hb2, HSs.out.2.1.below hb2, HSs.out.2.2.1.below hb2, HSs.out.2.2.2.below hb2, ?_, ?_, ?_, ?_, HBe.out.trans (hb2.mono (by omega)), ⟨hlt.1, hlt.2.1, hlt.2.2, hs3, by omega, by simp⟩, HSm.out⟩
        · rw [World.cell?_alloc_past _ _ _ (by simp)]; exact World.cell?_alloc_at _ _ _ _ rfl
        · rw [World.cell?_alloc_past _ _ _ (by simp)]; exact World.cell?_alloc_at _ _ _ _ rfl
        · exact World.cell?_alloc_at _ _ _ _ (by simp)
        · exact World.cell?_alloc_at _ _ _ _ (by simp)
      rw [hwv]
      obtain ⟨px, hpx⟩ : ∃ p, Hid (wr.heap.size = p) := ⟨_, rfl⟩
      rw [hpx.out] at HV ⊢
      obtain ⟨py, hpy⟩ : ∃ p, Hid (px + 1 = p) := ⟨_, rfl⟩
      rw [hpy.out] at HV ⊢
      clear hwv cx0 cx1 cx2 cy0 cy1 cy2 nb hbw hmod
      refine still_tail 6 (by kernel_rfl) (by kernel_rfl) ?_
      intro wz hwz
      have HZ0 := HV.out.drew
      rw [← hwz] at HZ0
      have HZ := Lib.hid HZ0
      have k1 : wz.cell? ⟨px, 1, none⟩ = some (.int .i64 x1) := HZ.out.x1
      have k2 : wz.cell? ⟨px, 2, none⟩ = some (.int .i64 x2) := HZ.out.x2
      clear hwz HV HZ0
      simp only [List.take_succ_cons, List.take_zero, List.drop_succ_cons, List.drop_zero]
      still_step
      still_step
      still_call (Px1.out _)
      still_step
      still_step
      still_call (Px2.out _)
      refine wpStill_nil ?_
      go_wp2_with fail
      refine (add_any _ p0 xf xt wz HZ.out.a (by have := HZ.out.sm.1.len; omega)).mono ?_
      rintro e wy ⟨rfl, h1, h2⟩
      have HV := Lib.hid (HZ.out.putA h1 h2 (HZ.out.sm.1.turn _ _ _ (xf1) (xt1)))
      clear h1 h2 k1 k2 HZ
      go_wp2_with fail
      refine still_tail 6 (by kernel_rfl) (by kernel_rfl) ?_
      intro wz hwz
      have HZ0 := HV.out.drew
      rw [← hwz] at HZ0
      have HZ := Lib.hid HZ0
      have k1 : wz.cell? ⟨py, 1, none⟩ = some (.int .i64 y1) := HZ.out.y1
      have k2 : wz.cell? ⟨py, 2, none⟩ = some (.int .i64 y2) := HZ.out.y2
      clear hwz HV HZ0
      simp only [List.take_succ_cons, List.take_zero, List.drop_succ_cons, List.drop_zero]
      still_step
      still_step
      still_call (Py1.out _)
      still_step
      still_step
      still_call (Py2.out _)
      refine wpStill_nil ?_
      go_wp2_with fail
      refine (add_any _ p1 yf yt wz HZ.out.b (by have := HZ.out.sm.2.1.len; omega)).mono ?_
      rintro e wy ⟨rfl, h1, h2⟩
      have HV := Lib.hid (HZ.out.putB h1 h2 (HZ.out.sm.2.1.turn _ _ _ (yf1) (yt1)))
      clear h1 h2 k1 k2 HZ
      obtain ⟨we, hwe⟩ : ∃ we, wy = we := ⟨_, rfl⟩
      subst hwe
      by_cases hjk : j < k
      · have hjkI : (j : Int) < (k : Int) := by omega
        go_wp2_with fail
        refine still_tail 6 (by kernel_rfl) (by kernel_rfl) ?_
        intro wz hwz
        have HZ0 := HV.out.drew
        rw [← hwz] at HZ0
        have HZ := Lib.hid HZ0
        have k1 : wz.cell? ⟨px, 1, none⟩ = some (.int .i64 x1) := HZ.out.x1
        have k2 : wz.cell? ⟨px, 2, none⟩ = some (.int .i64 x2) := HZ.out.x2
        clear hwz HV HZ0
        simp only [List.take_succ_cons, List.take_zero, List.drop_succ_cons, List.drop_zero]
        still_step
        still_step
        still_call (Px1.out _)
        still_step
        still_step
        still_call (Px2.out _)
        refine wpStill_nil ?_
        go_wp2_with fail
        refine (add_any _ p2 xf xt wz HZ.out.c (by have := HZ.out.sm.2.2.1.len; omega)).mono ?_
        rintro e wy ⟨rfl, h1, h2⟩
        have HV := Lib.hid (HZ.out.putC h1 h2 (HZ.out.sm.2.2.1.turn _ _ _ (xf1) (xt1)))
        clear h1 h2 k1 k2 HZ
        have HN : Hid (Inv zs n k p0 p1 p2 p3 w wy (j + 1)) := by
          have hT : decide (j < k) = true := decide_eq_true hjk
          refine ⟨_, _, _, _, ⟨HV.out.a, HV.out.b, HV.out.c, HV.out.d⟩, HV.out.sm, fun z => ?_, fun z => ?_, fun z => ?_, fun z => ?_, HV.out.be⟩
          · rw [mem_add HSm.out.1.1 _ _ ⟨xf0, by omega⟩ ⟨xt0, by omega⟩, HM.out.1, any_succ, ← hXr.out]
          · rw [mem_add HSm.out.2.1.1 _ _ ⟨yf0, by omega⟩ ⟨yt0, by omega⟩, HM.out.2.1, any_succ, ← hYr.out]
          · rw [mem_add HSm.out.2.2.1.1 _ _ ⟨xf0, by omega⟩ ⟨xt0, by omega⟩, HM.out.2.2.1, any_succ, ← hXr.out, hT, Bool.true_and]
          · rw [HM.out.2.2.2, any_succ, hT]; simp
        clear HV
        go_wp2_with fail
        go_roundw
        case rel => exact ⟨j + 1, by omega, by go_num, HN⟩
        case measure => simp [intOf]; omega
      · have hjkI : ¬ (j : Int) < (k : Int) := by omega
        go_wp2_with fail
        refine still_tail 6 (by kernel_rfl) (by kernel_rfl) ?_
        intro wz hwz
        have HZ0 := HV.out.drew
        rw [← hwz] at HZ0
        have HZ := Lib.hid HZ0
        have k1 : wz.cell? ⟨px, 1, none⟩ = some (.int .i64 x1) := HZ.out.x1
        have k2 : wz.cell? ⟨px, 2, none⟩ = some (.int .i64 x2) := HZ.out.x2
        clear hwz HV HZ0
        simp only [List.take_succ_cons, List.take_zero, List.drop_succ_cons, List.drop_zero]
        still_step
        still_step
        still_call (Px1.out _)
        still_step
        still_step
        still_call (Px2.out _)
        refine wpStill_nil ?_
        go_wp2_with fail
        refine (add_any _ p3 xf xt wz HZ.out.d (by have := HZ.out.sm.2.2.2.len; omega)).mono ?_
        rintro e wy ⟨rfl, h1, h2⟩
        have HV := Lib.hid (HZ.out.putD h1 h2 (HZ.out.sm.2.2.2.turn _ _ _ (xf1) (xt1)))
        clear h1 h2 k1 k2 HZ
        have HN : Hid (Inv zs n k p0 p1 p2 p3 w wy (j + 1)) := by
          have hT : decide (j < k) = false := decide_eq_false hjk
          refine ⟨_, _, _, _, ⟨HV.out.a, HV.out.b, HV.out.c, HV.out.d⟩, HV.out.sm, fun z => ?_, fun z => ?_, fun z => ?_, fun z => ?_, HV.out.be⟩
          · rw [mem_add HSm.out.1.1 _ _ ⟨xf0, by omega⟩ ⟨xt0, by omega⟩, HM.out.1, any_succ, ← hXr.out]
          · rw [mem_add HSm.out.2.1.1 _ _ ⟨yf0, by omega⟩ ⟨yt0, by omega⟩, HM.out.2.1, any_succ, ← hYr.out]
          · rw [HM.out.2.2.1, any_succ, hT]; simp
          · rw [mem_add HSm.out.2.2.2.1 _ _ ⟨xf0, by omega⟩ ⟨xt0, by omega⟩, HM.out.2.2.2, any_succ, ← hXr.out, hT, Bool.not_false, Bool.true_and]
        clear HV
        go_wp2_with fail
        go_roundw
        case rel => exact ⟨j + 1, by omega, by go_num, HN⟩
        case measure => simp [intOf]; omega
    · have hjnI : ¬ (j : Int) < (n : Int) := by omega
      obtain rfl : j = n := by omega
      obtain ⟨ea, eb, ec, ed, ⟨sa, sb, sc, sd⟩, hsm, hma, hmb, hmc, hmd, hbe⟩ := HK.out
      have eab : eb = ea := ok_eq hsm.2.1.1 hsm.1.1 fun x => by rw [hmb, hma]; exact rot_any j k hkn fun i => inRun x (runAt zs 80 90 i)
      subst eab
      have HMu : Hid (∀ x, (mem ec x || mem ed x) = mem eb x) := fun x => by rw [hmc, hmd, hma]; exact split_any j k _
      have HSm := Lib.hid hsm
      have HSs := Lib.hid (And.intro sa sb)
      have HBe := Lib.hid hbe
      obtain ⟨Aa, ca, hata, hha⟩ := sa.at (by have := hsm.1.len; omega)
      obtain ⟨Ac, cc, hatc, hhc⟩ := sc.at (by have := hsm.2.2.1.len; omega)
      obtain ⟨Ad, cd, hatd, hhd⟩ := sd.at (by have := hsm.2.2.2.len; omega)
      have hcc := cell_of_one hhc
      have hcd := cell_of_one hhd
      have HAtc := Lib.hid hatc
      have HAtd := Lib.hid hatd
      have HAta := Lib.hid hata
      have HHa := Lib.hid hha
      have hp3l := sd.lt
      clear sa sb sc sd hsm hma hmb hmc hmd hbe HK hata hatc hatd hha hhc hhd
      have HUn := Lib.hid (union_any [(ec, Ac, cc), (ed, Ad, cd)] (wr.heap.size + 1) (some ⟨wr.heap.size, 0, none⟩) 2 (wr.alloc (.cells #[.slice Ac ec.length cc, .slice Ad ed.length cd] 24)) (rd_new _ _ _ _ _ _ _ rfl (by omega) rfl rfl) (by simp) (by simp) (by simp) (by
        intro s hs
        have hb0 := (Below.refl wr.heap.size wr).alloc (Nat.le_refl _) (.cells #[.slice Ac ec.length cc, .slice Ad ed.length cd] 24)
        simp only [List.mem_cons, List.not_mem_nil, or_false] at hs
        rcases hs with rfl | rfl
        · exact ⟨HAtc.out.1, HAtc.out.2.2.1, HAtc.out.2.1, (HAtc.out.2.2.2.2.1.below hb0 (Nat.le_refl _)).more (by omega)⟩
        · exact ⟨HAtd.out.1, HAtd.out.2.2.1, HAtd.out.2.1, (HAtd.out.2.2.2.2.1.below hb0 (Nat.le_refl _)).more (by omega)⟩) (by
        have e1 := prs_len ec HSm.out.2.2.1.1.2.1
        have e2 := prs_len ed HSm.out.2.2.2.1.2.1
        have := HSm.out.2.2.1.len; have := HSm.out.2.2.2.len
        simp [allRuns, e1, e2]; omega))
      go_wp2_with fail
      refine HUn.out.mono ?_
      rintro e w4 ⟨eu, Au, cu, rfl, hsv, hmem, _, hb⟩
      have hue : eu = eb := ok_eq hsv.1 HSm.out.1.1 fun x => by rw [hmem, ← HMu.out x]; simp
      subst hue
      have HB4 : Hid (Below wr.heap.size wr w4) := ((Below.refl _ _).alloc (Nat.le_refl _) _).trans (hb.mono (by simp))
      have HVu := Lib.hid hsv
      clear hsv hmem hb HUn hcc hcd HAtc HAtd HMu
      have HHa4 : Hid (w4.heap[p0]? = some (.cells #[.slice Aa eu.length ca] 24 (0, 0))) := (HB4.out.block p0 (by omega)).trans HHa.out
      have hca : w4.cell? ⟨p0, 0, none⟩ = some (.slice Aa eu.length ca) := cell_of_one HHa4.out
      have hp04 : p0 < w4.heap.size := lt_of_block HHa4.out
      have hpn : w4.heap.size ≠ p0 := by omega
      have P1 : Hid (∀ W, Calls Try.prog 23 #[.int .i64 from_, .int .i64 90] W fun e w' => e = .returned (.int .i64 (from_ % 90)) ∧ W = w') := fun W => pick_any from_ 90 W (by decide) (by decide)
      have P2 : Hid (∀ W, Calls Try.prog 23 #[.int .i64 to_, .int .i64 95] W fun e w' => e = .returned (.int .i64 (to_ % 95)) ∧ W = w') := fun W => pick_any to_ 95 W (by decide) (by decide)
      obtain ⟨l, hl⟩ : ∃ l, Hid (from_ % 90 = l) := ⟨_, rfl⟩
      obtain ⟨h, hh⟩ : ∃ h, Hid (to_ % 95 = h) := ⟨_, rfl⟩
      rw [hl.out] at P1
      rw [hh.out] at P2
      have l0 : 0 ≤ l := by have := hl.out; omega
      have l1 : l ≤ ((95 : Nat) : Int) := by have := hl.out; omega
      have h0 : 0 ≤ h := by have := hh.out; omega
      have h1 : h ≤ ((95 : Nat) : Int) := by have := hh.out; omega
      go_wp2_with fail
      refine (P1.out _).mono ?_; rintro e w' ⟨rfl, rfl⟩
      go_wp2_with fail
      refine (P2.out _).mono ?_; rintro e w' ⟨rfl, rfl⟩
      go_wp2_with fail
      obtain ⟨pu, hpu⟩ : ∃ p, Hid (w4.heap.size = p) := ⟨_, rfl⟩
      rw [hpu.out]
      obtain ⟨pe, hpe⟩ : ∃ p, Hid (pu + 1 = p) := ⟨_, rfl⟩
      try rw [hpe.out]
      obtain ⟨w6, hw6⟩ : ∃ w6, (w4.alloc (.cells #[.slice Au eu.length cu] 24)).alloc (.cells #[.slice Aa eu.length ca] 24) = w6 := ⟨_, rfl⟩
      have HF : Hid (Four p0 p1 pu pe w6 eu eu eu eu) := by
        have b1 := (Below.refl w4.heap.size w4).alloc (Nat.le_refl _) (.cells #[.slice Au eu.length cu] 24)
        have s0 := HSs.out.1.below HB4.out
        have s1 := HSs.out.2.below HB4.out
        have b2 := (Below.refl (w4.alloc (.cells #[.slice Au eu.length cu] 24)).heap.size (w4.alloc (.cells #[.slice Au eu.length cu] 24))).alloc (Nat.le_refl _) (.cells #[.slice Aa eu.length ca] 24)
        have su := HVu.out.put.below b2
        have sv : SetVal (w4.alloc (.cells #[.slice Au eu.length cu] 24)) eu Aa ca := ⟨HSm.out.1.1, HAta.out.2.2.1, HAta.out.2.2.2.1, ((HAta.out.2.2.2.2.1.below HB4.out (Nat.le_refl _)).more HB4.out.size).below b1 (Nat.le_refl _) |>.more (by simp)⟩
        have se := sv.put
        have e1 := hpu.out
        have e2 := hpe.out
        rw [← hw6]
        refine ⟨(s0.below b1).below b2, (s1.below b1).below b2, ?_, ?_, ⟨hlt.1, ?_, ?_⟩⟩
        · rw [← e1]; exact su
        · rw [← e2, ← e1]; simpa using se
        · have := HSs.out.2.lt; have := HB4.out.size; omega
        · omega
      have HB6 : Hid (Below p0 w w6) := by
        rw [← hw6]
        have hz := HB4.out.size
        exact (((HBe.out.trans (HB4.out.mono (by omega))).alloc (by omega) _).alloc (by simp; omega) _)
      rw [hw6]
      clear hw6 hca hp04 hpn HHa4
      have hlen : eu.length ≤ 91 := HSm.out.1.len
      refine (gaps_any eu p0 l h w6 HF.out.s0 (by omega)).mono ?_
      rintro e w7 ⟨v7, rfl, ho, hb⟩
      obtain ⟨Ag, cg, eg, hcg, _, _, hrd⟩ := own_form ho
      subst eg
      have HGs := Lib.hid (HSm.out.1.1)
      obtain ⟨gs, hgs⟩ : ∃ gs, Hid (gapsF eu l h = gs) := ⟨_, rfl⟩
      have HGm : Hid (Ok gs ∧ ∀ x, mem gs x = (decide (clamp l ≤ x ∧ x < clamp h) && !mem eu x)) := by rw [← hgs.out]; exact ⟨ok_gaps HGs.out l h, mem_gaps HGs.out l h⟩
      have HGsm : Hid (Sm 95 gs) := by
        rw [← hgs.out]
        exact Sm.gaps ⟨HGs.out, fun e he => by have := HSm.out.1.2 e he; omega⟩ l h l1 h1
      rw [hgs.out] at hrd ho hcg ⊢
      obtain ⟨G, hG⟩ : ∃ G, Hid (gs.length / 2 = G) := ⟨_, rfl⟩
      rw [hG.out] at hrd hcg ⊢
      have HF7 := Lib.hid (HF.out.below hb)
      have HB7 : Hid (Below p0 w w7) := HB6.out.trans (hb.mono (by have := HF.out.s0.lt; omega))
      have HGR := Lib.hid hrd
      clear ho hb hrd HF HB6
      go_wp2_with fail
      refine (add_any eu pe l h w7 HF7.out.s3 (by omega)).mono ?_
      rintro e w8 ⟨rfl, q1, q2⟩
      have HF8 := Lib.hid (HF7.out.put3 q1 q2)
      have HGR8 : Hid (Rd w8 w8.heap.size Ag (G * 2) (ints gs)) := by
        obtain ⟨_, A0, c0, hh0, _⟩ := HF7.out.s3
        exact (HGR.out.but (Nat.le_refl _) q2 hh0).more q2.size
      have HB8 : Hid (Below p0 w w8) := HB7.out.trans (grown_below q2 (Nat.le_of_lt HF7.out.s0.lt) (by have := HF7.out.lt; omega))
      clear q1 q2 HF7 HB7 HGR
      obtain ⟨e0, he0⟩ : ∃ e0, Hid (turn eu l h true = e0) := ⟨_, rfl⟩
      have HE0 : Hid (Sm 95 e0 ∧ ∀ x, mem e0 x = (mem eu x || inRun x (l, h))) := by
        rw [← he0.out]
        exact ⟨Sm.turn ⟨HGs.out, fun e he => by have := HSm.out.1.2 e he; omega⟩ l h true l1 h1, mem_add HGs.out l h ⟨l0, by omega⟩ ⟨h0, by omega⟩⟩
      rw [he0.out] at HF8
      have hall : allF e0 l h = true := by
        rw [all_iff HE0.out.1.1]
        intro m q1 q2
        rw [HE0.out.2, clamp_small l l0 (by omega)] at *
        rw [clamp_small h h0 (by omega)] at q2
        unfold inRun
        simp [q1, q2]
      go_wp2_with fail
      have CA := all_in e0 pe l h w8 HF8.out.s3 (by have := HE0.out.1.len; omega)
      rw [hall] at CA
      refine CA.mono ?_
      rintro e w9 ⟨rfl, hb⟩
      have HF9 := Lib.hid (HF8.out.below hb)
      have HGR9 : Hid (Rd w9 w9.heap.size Ag (G * 2) (ints gs)) := (HGR8.out.below hb (Nat.le_refl _)).more hb.size
      have HB9 : Hid (Below p0 w w9) := HB8.out.trans (hb.mono (by have := HF8.out.s0.lt; omega))
      clear hb CA HF8 HGR8 HB8 hall
      go_wp2_with fail
      have hGb : G ≤ 48 := by have := HGsm.out.len; have := hG.out; omega
      have hGbI : (G : Int) ≤ 48 := by omega
      have hGcI : (G : Int) ≤ (cg : Int) := by omega
      go_loopw [98] (fun i wx => ∃ m : Nat, m ≤ G ∧ i = .int .i64 m ∧ Hid (∃ ee, Four p0 p1 pu pe wx eu eu eu ee ∧ Sm 95 ee ∧ (∀ x, mem ee x = (mem e0 x && !((prs gs).take m).any (inRun x))) ∧ Rd wx wx.heap.size Ag (G * 2) (ints gs) ∧ Below p0 w wx)) (fun i _ => G - (intOf i).toNat)
      case atStart => exact ⟨0, Nat.zero_le _, rfl, e0, HF9.out, HE0.out.1, fun x => by simp, HGR9.out, HB9.out⟩
      case round =>
        obtain ⟨m, hm, rfl, HM2⟩ := hrel
        clear HF9 HGR9 HB9
        obtain ⟨ee, hf4, hsme, hme, hgr, hbe2⟩ := HM2.out
        have HF4 := Lib.hid hf4
        have HSe := Lib.hid hsme
        have HMe := Lib.hid hme
        have HRg := Lib.hid hgr
        have HBg := Lib.hid hbe2
        clear hf4 hsme hme hgr hbe2 HM2
        have hgl : Hid (gs.length = 2 * G) := by have h1 := hG.out; have h2 := HGm.out.1.2.1; show _ = _; omega
        by_cases hmG : m < G
        · have hmGI : (m : Int) < (G : Int) := by omega
          obtain ⟨bg, og, hAg, hbg, hcs⟩ := HRg.out.2 (by omega)
          subst hAg
          have hpl : pl (prs gs) = gs := pl_prs gs HGm.out.1.2.1
          have hpn : (prs gs).length = G := by rw [prs_len gs HGm.out.1.2.1]; exact hG.out
          rcases hrv : (prs gs)[m]'(by omega) with ⟨x, y⟩
          have hg2 := pl_get0 (prs gs) m (x, y) (by rw [List.getElem?_eq_getElem (by omega), hrv])
          rw [hpl] at hg2
          have cg0 : wr.cell? ⟨bg, og + m * 2, none⟩ = some (.int .i64 x) := by
            rw [show og + m * 2 = og + 2 * m by omega, hcs (2 * m) _ (ints_get _ _ (by have := hgl.out; omega)), hg2.1]
          have cg1 : wr.cell? ⟨bg, og + m * 2 + 1, none⟩ = some (.int .i64 y) := by
            rw [show og + m * 2 + 1 = og + (2 * m + 1) by omega, hcs (2 * m + 1) _ (ints_get _ _ (by have := hgl.out; omega)), hg2.2]
          have hxr := get_in HGm.out.1 (2 * m) (by have := hgl.out; omega)
          have hyr := get_in HGm.out.1 (2 * m + 1) (by have := hgl.out; omega)
          rw [hg2.1] at hxr
          rw [hg2.2] at hyr
          have hx95 : x ≤ ((95 : Nat) : Int) := by
            have := HGsm.out.get (2 * m) (by have := hgl.out; omega)
            rw [hg2.1] at this
            exact this
          have hy95 : y ≤ ((95 : Nat) : Int) := by
            have := HGsm.out.get (2 * m + 1) (by have := hgl.out; omega)
            rw [hg2.2] at this
            exact this
          have HTk : Hid (∀ z, ((prs gs).take (m + 1)).any (inRun z) = (((prs gs).take m).any (inRun z) || inRun z (x, y))) := fun z => by
            rw [List.take_succ_eq_append_getElem (by omega), hrv, List.any_append]; simp
          have nb2 := World.new_ne wr _ cg0
          clear hcs hpl hpn hrv hg2
          go_wp2_with fail
          have hbA := (Below.refl wr.heap.size wr).alloc (Nat.le_refl _) (.cells #[.int .i64 x, .int .i64 y] 32)
          have HFa := Lib.hid (HF4.out.below hbA)
          have HRa : Hid (Rd (wr.alloc (.cells #[.int .i64 x, .int .i64 y] 32)) (wr.alloc (.cells #[.int .i64 x, .int .i64 y] 32)).heap.size (some ⟨bg, og, none⟩) (G * 2) (ints gs)) := (HRg.out.below hbA (Nat.le_refl _)).more hbA.size
          have HBa : Hid (Below p0 w (wr.alloc (.cells #[.int .i64 x, .int .i64 y] 32))) := HBg.out.alloc (Nat.le_of_lt HF4.out.s0.lt) _
          clear hbA
          refine (drop_any ee pe x y _ HFa.out.s3 (by have := HSe.out.len; omega)).mono ?_
          rintro e wy ⟨rfl, q1, q2⟩
          have HN : Hid (∃ ee, Four p0 p1 pu pe wy eu eu eu ee ∧ Sm 95 ee ∧ (∀ z, mem ee z = (mem e0 z && !((prs gs).take (m + 1)).any (inRun z))) ∧ Rd wy wy.heap.size (some ⟨bg, og, none⟩) (G * 2) (ints gs) ∧ Below p0 w wy) := by
            refine ⟨_, HFa.out.put3 q1 q2, HSe.out.turn x y false hx95 hy95, fun z => ?_, ?_, ?_⟩
            · rw [mem_drop HSe.out.1 x y ⟨hxr.1, by omega⟩ ⟨hyr.1, by omega⟩, HMe.out, HTk.out, Bool.not_or, Bool.and_assoc]
            · obtain ⟨_, A0, c0, hh0, _⟩ := HFa.out.s3
              exact (HRa.out.but (Nat.le_refl _) q2 hh0).more q2.size
            · exact HBa.out.trans (grown_below q2 (by have := HFa.out.s0.lt; omega) (by have := HFa.out.lt; omega))
          clear q1 q2 cg0 cg1 nb2
          go_wp2_with fail
          go_roundw
          case rel => exact ⟨m + 1, by omega, by go_num, HN⟩
          case measure => simp [intOf]; omega
        · have hmGI : ¬ (m : Int) < (G : Int) := by omega
          obtain rfl : m = G := by omega
          have hee : ee = eu := ok_eq HSe.out.1 HGs.out fun z => by
            have hpn : (prs gs).length = m := by rw [prs_len gs HGm.out.1.2.1]; exact hG.out
            rw [HMe.out, List.take_of_length_le (by omega), ← mem_prs gs HGm.out.1.1 HGm.out.1.2.1, HGm.out.2, HE0.out.2, clamp_small l l0 (by omega), clamp_small h h0 (by omega)]
            unfold inRun
            by_cases q1 : l ≤ z <;> by_cases q2 : z < h <;> cases mem eu z <;> simp [q1, q2]
          subst hee
          have hl91 : Hid (ee.length * 8 ≤ 140737488355328) := by show _ ≤ _; omega
          have hl92 : Hid (ee.length / 2 ≤ 17592186044416) := by show _ ≤ _; omega
          clear HSe HMe HRg HGm HGsm HE0 hmG
          go_wp2_with fail
          refine (Known.known_any _).mono ?_
          rintro e wa ⟨rfl, hb⟩
          have F1 := Lib.hid (HF4.out.below hb)
          have B1 : Hid (Below p0 w wa) := HBg.out.trans (hb.mono (Nat.le_of_lt HF4.out.s0.lt))
          clear hb HF4 HBg
          go_wp2_with fail
          obtain ⟨N, hN⟩ : ∃ N, Hid (ee.length / 2 = N) := ⟨_, rfl⟩
          have hNb : Hid (N ≤ 17592186044416) := by rw [← hN.out]; exact hl92.out
          have SPN : Hid (∀ P W, SetIn W P ee → Calls Try.prog 15 #[.pointer (some ⟨P, 0, none⟩)] W fun e w' => ∃ A c, e = .returned (.slice A N c) ∧ N ≤ c ∧ Rd w' w'.heap.size A (N * 2) (ints ee) ∧ Below W.heap.size W w') := fun P W hS => by
            have := spans_in ee P W hS hl91.out
            rw [hN.out] at this
            refine this.mono ?_
            rintro e w' ⟨A, c, rfl, q1, _, q2, q3⟩
            exact ⟨A, c, rfl, q1, q2, q3⟩
          refine (SPN.out p0 _ F1.out.s0).mono ?_
          rintro e wb ⟨A1, c1, rfl, hc1, hr1, hb⟩
          have F2 := Lib.hid (F1.out.below hb)
          have B2 : Hid (Below p0 w wb) := B1.out.trans (hb.mono (Nat.le_of_lt F1.out.s0.lt))
          have R1 := Lib.hid hr1
          clear hb hr1 F1 B1
          go_wp2_with fail
          refine (SPN.out p1 _ F2.out.s1).mono ?_
          rintro e wc ⟨A2, c2, rfl, hc2, hr2, hb⟩
          have F3 := Lib.hid (F2.out.below hb)
          have B3 : Hid (Below p0 w wc) := B2.out.trans (hb.mono (Nat.le_of_lt F2.out.s0.lt))
          have R2 : Hid (Rd wc wc.heap.size A1 (N * 2) (ints ee)) := (R1.out.below hb (Nat.le_refl _)).more hb.size
          have R3 := Lib.hid hr2
          clear hb hr2 F2 B2 R1
          go_wp2_with fail
          refine (same_any ee ee wc.heap.size A1 A2 c1 c2 N N wc R2.out R3.out (Nat.le_refl _) hNb.out hNb.out hc1 hc2 true (by simp)).mono ?_
          rintro e wd ⟨rfl, hb⟩
          have F4 := Lib.hid (F3.out.below hb)
          have B4 : Hid (Below p0 w wd) := B3.out.trans (hb.mono (Nat.le_of_lt F3.out.s0.lt))
          clear hb F3 B3 R2 R3 hc1 hc2
          go_wp2_with fail
          refine (SPN.out p0 _ F4.out.s0).mono ?_
          rintro e wb ⟨A1, c1, rfl, hc1, hr1, hb⟩
          have F5 := Lib.hid (F4.out.below hb)
          have B5 : Hid (Below p0 w wb) := B4.out.trans (hb.mono (Nat.le_of_lt F4.out.s0.lt))
          have R1 := Lib.hid hr1
          clear hb hr1 F4 B4
          go_wp2_with fail
          refine (SPN.out pu _ F5.out.s2).mono ?_
          rintro e wc ⟨A2, c2, rfl, hc2, hr2, hb⟩
          have F6 := Lib.hid (F5.out.below hb)
          have B6 : Hid (Below p0 w wc) := B5.out.trans (hb.mono (Nat.le_of_lt F5.out.s0.lt))
          have R2 : Hid (Rd wc wc.heap.size A1 (N * 2) (ints ee)) := (R1.out.below hb (Nat.le_refl _)).more hb.size
          have R3 := Lib.hid hr2
          clear hb hr2 F5 B5 R1
          go_wp2_with fail
          refine (same_any ee ee wc.heap.size A1 A2 c1 c2 N N wc R2.out R3.out (Nat.le_refl _) hNb.out hNb.out hc1 hc2 true (by simp)).mono ?_
          rintro e wd ⟨rfl, hb⟩
          have F7 := Lib.hid (F6.out.below hb)
          have B7 : Hid (Below p0 w wd) := B6.out.trans (hb.mono (Nat.le_of_lt F6.out.s0.lt))
          clear hb F6 B6 R2 R3 hc1 hc2
          go_wp2_with fail
          refine (SPN.out pe _ F7.out.s3).mono ?_
          rintro e wb ⟨A1, c1, rfl, hc1, hr1, hb⟩
          have F8 := Lib.hid (F7.out.below hb)
          have B8 : Hid (Below p0 w wb) := B7.out.trans (hb.mono (Nat.le_of_lt F7.out.s0.lt))
          have R1 := Lib.hid hr1
          clear hb hr1 F7 B7
          go_wp2_with fail
          refine (SPN.out p0 _ F8.out.s0).mono ?_
          rintro e wc ⟨A2, c2, rfl, hc2, hr2, hb⟩
          have F9 := Lib.hid (F8.out.below hb)
          have B9 : Hid (Below p0 w wc) := B8.out.trans (hb.mono (Nat.le_of_lt F8.out.s0.lt))
          have R2 : Hid (Rd wc wc.heap.size A1 (N * 2) (ints ee)) := (R1.out.below hb (Nat.le_refl _)).more hb.size
          have R3 := Lib.hid hr2
          clear hb hr2 F8 B8 R1
          go_wp2_with fail
          refine (same_any ee ee wc.heap.size A1 A2 c1 c2 N N wc R2.out R3.out (Nat.le_refl _) hNb.out hNb.out hc1 hc2 true (by simp)).mono ?_
          rintro e wd ⟨rfl, hb⟩
          have F10 := Lib.hid (F9.out.below hb)
          have B10 : Hid (Below p0 w wd) := B9.out.trans (hb.mono (Nat.le_of_lt F9.out.s0.lt))
          clear hb F9 B9 R2 R3 hc1 hc2
          go_wp2_with fail
          go_ret
          exact ⟨rfl, by have := B10.out; rwa [← hp0.out] at this⟩
end Go.Proofs.Ytbddphoiccbjnab.Orders
