/- The reference's Close: a contract; Open of too few bytes. Conditions: as each theorem lists them. -/
import Derived.Test.YtegfaecbealnhabR2
import Derived.Deep.QuietTactic
import Derived.BigQuiet
namespace Go.Proofs.Ytegfaecbealnhab
open Go Go.RowKit

theorem rmask_part (key : Nat) (num : Int) (l : List Nat) (B : Nat) (v : Value) (w : World) (hk : key < 2 ^ 64) (h : IsPart w B v l) (hB : B ≤ w.heap.size) :
    Calls Try.prog 45 #[.int .u64 (key : Int), .int .i64 num, v] w fun e w' => ∃ v', e = .returned v' ∧ w'.ownsRow w.heap.size 5 1 v' l.length (bv (maskN (stpN key (unN num)) l)) ∧ Below w.heap.size w w' := by
  obtain ⟨A, c, rfl, h1, h2, h3, h4⟩ := h
  exact rmask_any key num l B A c w hk h1 hB h4 h2 h3

theorem rtag_at (key : Nat) (ps : List (List Nat)) (B g n : Nat) (w : World) {x : Nat} (hk : key < 2 ^ 64) (hp : Parts w B (some ⟨x, 0, none⟩) ps) (hg : g = x) (hn : ps.length = n) (hm : ps.length ≤ 140737488355328) :
    Calls Try.prog 44 #[.int .u64 (key : Int), .slice (some ⟨g, 0, none⟩) n n] w fun e w' => e = .returned (.int .u64 (tagN key ps : Int)) ∧ w = w' := by
  subst hg; subst hn
  exact rtag_any key ps B _ _ w hk hp (Nat.le_refl _) hm

set_option maxRecDepth 100000 in
set_option maxHeartbeats 400000 in
theorem rclose_any (key : Nat) (num : Int) (head body : List Nat) (vh vb : Value) (B : Nat) (w : World) (hk : key < 2 ^ 64) (hh : IsPart w B vh head) (hb : IsPart w B vb body) (hB : B ≤ w.heap.size) (hm : body.length ≤ 140737488355320) :
    Calls Try.prog 46 #[.int .u64 (key : Int), .int .i64 num, vh, vb] w fun e w' => ∃ v', e = .returned v' ∧ w'.ownsRow w.heap.size 5 1 v' (body.length + 8) (bv (closeF key num head body)) ∧ Below w.heap.size w w' := by
  have HH := Lib.hid hh
  have HBw := Lib.hid hB
  obtain ⟨Ah, ch, rfl, _, _, _, _⟩ := hh
  have hlb := hb.choose_spec.choose_spec.2.2.2.2
  have M := Lib.hid (rmask_part key num body B vb w hk hb hB)
  obtain ⟨Ab, cb, rfl, _, _, _, _⟩ := hb
  have N : ∀ W, Calls Try.prog 43 #[.int .u64 (key : Int), .int .u64 (IntKind.u64.wrap num)] W fun e w' => e = .returned (.int .u64 (stpN key (unN num) : Int)) ∧ W = w' := fun W => by
    have := rstep_any key (unN num) W hk (unN_lt num)
    rwa [← unN_wrap] at this
  have N := Lib.hid N
  have hh2 := stpN_lt key (unN num)
  unfold closeF
  obtain ⟨h, hhh⟩ : ∃ h, Hid (stpN key (unN num) = h) := ⟨_, rfl⟩
  rw [hhh.out] at M hh2 ⊢
  have N' : Hid (∀ W, Calls Try.prog 43 #[.int .u64 (key : Int), .int .u64 (IntKind.u64.wrap num)] W fun e w' => e = .returned (.int .u64 (h : Int)) ∧ W = w') := by rw [← hhh.out]; exact N.out
  have HM := Lib.hid (maskN_lt h body hlb)
  have HML := Lib.hid (maskN_len h body)
  obtain ⟨m, hmm⟩ : ∃ m, Hid (maskN h body = m) := ⟨_, rfl⟩
  rw [hmm.out] at M HM HML ⊢
  have hT := tagN_lt [head, m] h hh2
  have T := Lib.hid (fun (W : World) (B' : Nat) (v : Value) (g : Nat) (h1 : IsPart W B' (.slice Ah head.length ch) head) (h2 : IsPart W B' v m) (hB' : B' ≤ W.heap.size) (hg : g = W.heap.size) => rtag_at h [head, m] _ g 2 _ hh2 (parts_two 53 h1 h2 hB') hg rfl (by simp))
  obtain ⟨t, htt⟩ : ∃ t, Hid (tagN h [head, m] = t) := ⟨_, rfl⟩
  rw [htt.out] at hT T ⊢
  have E := Lib.hid (fun W => eight_any t W hT)
  obtain ⟨i0, hi, hz0, hz1, hz2⟩ := info_parts infoB
  have HI := Lib.hid (And.intro hi (And.intro hz0 (And.intro hz1 hz2)))
  clear hk hB hlb hh2 hT N hi hz0 hz1 hz2
  go_enter Try.func46, Try.ntmps46
  go_wp2_with fail
  refine M.out.mono ?_; rintro e w1 ⟨v1, rfl, ho1, hb1⟩
  have HP1 := Lib.hid (IsPart.of_own ho1 (by rw [HML.out]; omega) HM.out)
  obtain ⟨A1, c1, e1, _⟩ := own_form ho1
  subst e1
  have HB1 := Lib.hid hb1
  have HR1 := Rd.of_own ho1
  have HBA : Hid (Below w1.heap.size w1 (w1.alloc (.cells #[] 5))) := (Below.refl _ _).alloc (Nat.le_refl _) _
  have HR1' := Lib.hid (HR1.below HBA.out (Nat.le_refl _))
  clear ho1 hb1 HR1
  go_wp2_with (at_builtin; refine wpList_app _ rfl (.tmp 14) (.tmp 15) 53 rfl w1.heap.size 5 i0 (.int .u8 0) 1 1 Try.underlying53 HI.out.1 HI.out.2.1 HI.out.2.2.1 HI.out.2.2.2 rfl (by decide) (.slice (some ⟨w1.heap.size, 0, none⟩) 0 0) 0 [] rfl (own_new w1 #[] 5 1 0 _ _ rfl rfl (by unfold maxLen; omega) (Nat.le_refl _)) w1.heap.size A1 body.length c1 (bv m) rfl HR1'.out (ones_bv _) (by unfold maxLen; omega) (by omega) (by simp) ?_)
  intro v2 w2 ho2 hg2
  try simp only [Nat.zero_add, List.nil_append] at ho2
  have HB12 : Hid (Below w1.heap.size w1 w2) := HBA.out.grown hg2 (by simp) (fun j hj => by simp [Value.ownBlock] at hj; omega)
  have HO2 := Lib.hid ho2
  obtain ⟨A2, c2, e2, _⟩ := own_form ho2
  subst e2
  clear ho2 hg2
  go_wp2_with fail
  refine (N'.out _).mono ?_; rintro e w' ⟨rfl, rfl⟩
  have HB2 : Hid (Below w.heap.size w w2) := HB1.out.trans (HB12.out.mono HB1.out.size)
  go_wp2_with fail
  refine (T.out w2 w2.heap.size (.slice A1 body.length c1) _ ((HH.out.below HB2.out HBw.out).more (Nat.le_trans HBw.out HB2.out.size)) ((HP1.out.below HB12.out (Nat.le_refl _)).more HB12.out.size) (Nat.le_refl _) rfl).mono ?_; rintro e w' ⟨rfl, rfl⟩
  go_wp2_with fail
  refine (E.out _).mono ?_; rintro e w3 ⟨v3, rfl, ho3, hb3⟩
  have HB23 : Hid (Below w2.heap.size w2 w3) := ((Below.refl _ _).alloc (Nat.le_refl _) _).trans (hb3.mono (by simp))
  have HO2' := Lib.hid (own_below HO2.out HB23.out)
  obtain ⟨A3, c3, e3, _⟩ := own_form ho3
  subst e3
  have HR3 : Hid (Rd w3 w3.heap.size A3 (8 * 1) (bv (eightN t))) := Rd.of_own ho3
  have HS3 : Hid (w1.heap.size ≤ w3.heap.size) := Nat.le_trans HB12.out.size HB23.out.size
  clear ho3 hb3
  go_wp2_with (at_builtin; refine wpList_app _ rfl (.tmp 16) (.tmp 25) 53 rfl w1.heap.size 5 i0 (.int .u8 0) 1 1 Try.underlying53 HI.out.1 HI.out.2.1 HI.out.2.2.1 HI.out.2.2.2 rfl (by decide) (.slice A2 body.length c2) body.length (bv m) rfl HO2'.out w3.heap.size A3 8 c3 (bv (eightN t)) rfl HR3.out (ones_bv _) (by unfold maxLen; omega) (by omega) HS3.out ?_)
  intro v4 w4 ho4 hg4
  have HB4 : Hid (Below w.heap.size w w4) := (HB2.out.trans (HB23.out.mono HB2.out.size)).grown hg4 (Nat.le_trans HB1.out.size HS3.out) (fun j hj => Nat.le_trans HB1.out.size (HO2'.out.lt j hj).1)
  rw [← bv_app] at ho4
  have HO4 := Lib.hid (own_base ho4 HB1.out.size)
  clear ho4 hg4
  go_wp2
  go_ret
  exact ⟨_, rfl, HO4.out, HB4.out⟩
end Go.Proofs.Ytegfaecbealnhab
