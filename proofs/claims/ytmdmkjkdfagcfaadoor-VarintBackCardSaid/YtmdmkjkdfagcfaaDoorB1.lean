/- VarintBack: the walk. Conditions: the two listed tables of math/bits read as listed. -/
import Derived.Test.YtmdmkjkdfagcfaaDoorV3
import Derived.Test.YtmdmkjkdfagcfaaDoorN1
import Derived.Deep.DeepCutAuto
import Derived.Deep.RegionWith
import Derived.Deep.QuietTactic
import Derived.BigQuiet
namespace Go.Proofs.YtmdmkjkdfagcfaaDoor.Back
open Go Go.RowKit
open None_ (mays mays_snoc mays_len mays_all)

/-- x[p:] of a slice, as the walk writes its address. -/
def tailA (A : Option Addr) (c p : Nat) : Option Addr := if c = p then A else A.map (·.add p)
theorem tail_rd {w : World} {B n : Nat} {A : Option Addr} {xs : List Value} (h : Rd w B A n xs) (c p : Nat) (hp : p ≤ n) (hn : n ≤ c) : Rd w B (tailA A c p) (n - p) (xs.drop p) := by
  refine ⟨by rw [List.length_drop, h.1], fun h0 => ?_⟩
  obtain ⟨b, off, rfl, hlt, hc⟩ := h.2 (by omega)
  have e : tailA (some ⟨b, off, none⟩) c p = some ⟨b, off + p, none⟩ := by
    unfold tailA; rw [if_neg (by omega)]; simp [Addr.add_lit]
  refine ⟨b, off + p, e, hlt, fun j u hu => ?_⟩
  rw [List.getElem?_drop] at hu
  rw [Nat.add_assoc]
  exact hc (p + j) u hu
theorem tail_ok {A : Option Addr} {n c : Nat} (h : okA A n c) (hA : n ≠ 0 → ∃ b off, A = some ⟨b, off, none⟩) (p : Nat) (hp : p ≤ n) (hn : n ≤ c) : okA (tailA A c p) (n - p) (c - p) := by
  intro h0
  by_cases hn0 : n = 0
  · have hp0 : p = 0 := by omega
    subst hp0
    rcases h hn0 with ⟨h1, rfl⟩ | ⟨b, off, rfl⟩
    · exact .inl ⟨by omega, by unfold tailA; split <;> rfl⟩
    · exact .inr (by unfold tailA; split; exact ⟨b, _, rfl⟩; exact ⟨b, off + 0, by simp [Addr.add_lit]⟩)
  · obtain ⟨b, off, rfl⟩ := hA hn0
    exact .inr (by unfold tailA; split; exact ⟨b, _, rfl⟩; exact ⟨b, off + p, by simp [Addr.add_lit]⟩)

theorem hid_mk {p : Prop} (h : p) : Hid p := h
theorem rd_drewN {w : World} {B n : Nat} {A : Option Addr} {xs : List Value} (h : Rd w B A n xs) (m : Nat) : Rd (w.drewN m) B A n xs := h

set_option maxRecDepth 100000 in
set_option maxHeartbeats 16000000 in
theorem walk (l : List Int) (A : Option Addr) (cap : Nat) (cut : Int) (fb : List Nat) (A2 : Option Addr) (cap2 : Nat) (bb : List Nat) (A3 : Option Addr) (cap3 : Nat) (w : World) (hL : laidMetH Tryd.prog laids w) (hl : IsInts w A cap l) (hf : IsBytes w A2 cap2 fb) (hb : IsBytes w A3 cap3 bb) :
    Calls Tryd.prog 5 #[.slice A l.length cap, .int .i64 cut, .slice A2 fb.length cap2, .slice A3 bb.length cap3] w fun e w' => e = .returned (.bool true) ∧ Below w.heap.size w w' := by
  have HLd := Lib.hid hL
  have HI := Lib.hid hl
  have HF := Lib.hid hf
  have HBb := Lib.hid hb
  have hreach := hl.reach
  obtain ⟨i0, hi, hz0, hz1, hz2⟩ := info_parts info3
  have HI3 := Lib.hid (And.intro hi (And.intro hz0 (And.intro hz1 hz2)))
  have hll : (l.length : Int) ≤ 17592186044416 := by omega
  clear hi hz0 hz1 hz2 hL hl hf hb
  go_enter Tryd.func5, Tryd.ntmps5
  go_wp2_with fail
  go_loopw [9, 26] (fun v i wr => ∃ k : Nat, k ≤ l.length ∧ i = .int .i64 k ∧ (∃ Al cl, v = .slice Al k cl) ∧ Hid (wr.ownsRow w.heap.size 3 1 v k (ints (mays l k)) ∧ Below w.heap.size w wr)) (fun _ i _ => l.length - (intOf i).toNat)
  case atStart => exact ⟨0, by omega, rfl, ⟨_, _, rfl⟩, ⟨rfl, .inl ⟨rfl, rfl⟩⟩, Below.refl _ _⟩
  case round =>
    obtain ⟨k, hk, rfl, ⟨Al, cl, rfl⟩, HK⟩ := hrel
    by_cases hlt : k < l.length
    · have hltd : decide (k < l.length) = true := by simpa using hlt
      have hlti : (k : Int) < (l.length : Int) := by omega
      obtain ⟨b, off, hA, hbn, hcs⟩ := HI.out.rd.2 (by omega)
      subst hA
      obtain ⟨x, hx⟩ : ∃ x, Hid (l[k] = x) := ⟨l[k], rfl⟩
      have hcell : wr.cell? ⟨b, off + k, none⟩ = some (.int .i64 x) := by
        rw [HK.out.2.cell (p := ⟨b, off + k, none⟩) hbn, hcs k _ (ints_get l k hlt)]
        simp [List.getD, hlt, hx.out]
      have hxb := HI.out.lt _ (List.getElem_mem hlt)
      rw [hx.out] at hxb
      obtain ⟨hx1, hx2⟩ := hxb
      obtain ⟨y, hy⟩ : ∃ y, Hid (mayF x = y) := ⟨_, rfl⟩
      have HM : Hid (∀ W, Calls Tryd.prog 18 #[.int .i64 x] W fun e w' => e = .returned (.int .i64 y) ∧ W = w') := fun W => by
        have := hmay_any x W hx1 hx2
        rwa [hy.out] at this
      have hsn := Lib.hid (mays_snoc l k hlt x y hx.out hy.out)
      clear hcs
      go_wp2_with fail
      refine (HM.out _).mono ?_; rintro e w' ⟨rfl, rfl⟩
      go_wp2_with (at_builtin; refine wpList_append_own _ rfl _ _ 24 rfl w.heap.size 3 i0 (.int .i64 0) 1 8 Tryd.underlying24 HI3.out.1 HI3.out.2.1 HI3.out.2.2.1 HI3.out.2.2.2 rfl (by decide) (.slice Al k cl) k (ints (mays l k)) rfl (HK.out.1.alloc _) ⟨wr.heap.size, 0, none⟩ 1 1 [.int .i64 y] rfl rfl ?c1 ?c2 ?c3 ?c4 ?c5 ?_)
      case c1 => exact cell_one_new _ _ _
      case c2 => simp [Value.oneCell']
      case c3 => unfold maxLen; omega
      case c4 => omega
      case c5 => have := HK.out.2.size; simp only [World.size_alloc]; omega
      intro v1 w1 hown1 hgrow1 _
      have HN : Hid (w1.ownsRow w.heap.size 3 1 v1 (k + 1) (ints (mays l (k + 1))) ∧ Below w.heap.size w w1) := by
        refine ⟨?_, (HK.out.2.alloc HK.out.2.size _).grown hgrow1 (by have := HK.out.2.size; simp only [World.size_alloc]; omega) (fun g hg => (HK.out.1.lt g hg).1)⟩
        rw [hsn.out]; exact hown1
      clear hown1 hgrow1
      obtain ⟨A1, c1, e1, _⟩ := own_form HN.out.1
      subst e1
      go_wp2
      go_roundw
      case rel => exact ⟨k + 1, by omega, by go_num, ⟨_, _, rfl⟩, HN⟩
      case measure => simp [intOf]; omega
    · obtain rfl : k = l.length := by omega
      obtain ⟨N, hN⟩ : ∃ N, Hid (mays l l.length = N) := ⟨_, rfl⟩
      have hNl : Hid (N.length = l.length) := by show _ = _; rw [← hN.out]; exact mays_len l _ (Nat.le_refl _)
      have hNa : Hid (allMay N) := by rw [← hN.out]; exact mays_all l _
      rw [hN.out] at HK
      obtain ⟨n, hn⟩ : ∃ n, Hid (l.length = n) := ⟨_, rfl⟩
      rw [hn.out] at hreach hll HK ⊢
      have HNl : Hid (N.length = n) := hNl.out.trans hn.out
      clear hNl hk hlt
      have hsw : sumW N ≤ 8 * n := by have := sumW_le N; rwa [HNl.out] at this
      have HN0 : Hid (n ≤ cl ∧ okA Al n cl ∧ Rd wr wr.heap.size Al n (ints N)) := by
        obtain ⟨An, cn, en, h1, _, h2, h3⟩ := own_form HK.out.1
        simp only [Value.slice.injEq] at en
        obtain ⟨rfl, _, rfl⟩ := en
        exact ⟨h1, h2, h3⟩
      have hncl := HN0.out.1
      have HFw := Lib.hid (few_any fb w.heap.size A2 cap2 20 wr (HF.out.rd.below HK.out.2 (Nat.le_refl _)) HK.out.2.size HF.out.cap (by have := HF.out.reach; omega))
      go_wp2_with fail
      refine HFw.out.mono ?_; rintro e w1 ⟨v1, rfl, ho1, hb1⟩
      obtain ⟨f, hf⟩ : ∃ f, Hid (fb.take 20 = f) := ⟨_, rfl⟩
      rw [hf.out] at ho1
      have hf20 : f.length ≤ 20 := by rw [← hf.out, List.length_take]; omega
      obtain ⟨A12, c12, rfl, h11, h12, h13, h14⟩ := own_form ho1
      have H1 := Lib.hid (And.intro h11 (And.intro h12 (And.intro h13 (And.intro h14 hb1))))
      clear ho1 hb1 h11 h12 h13 h14
      have HW1 : Hid (Below w.heap.size w w1) := HK.out.2.trans (H1.out.2.2.2.2.mono HK.out.2.size)
      have HT1 : Hid (Tabs w1) := (tabs_of HLd.out).below HW1.out (tabs_of HLd.out).lt
      have HNw1 : Hid (Rd w1 wr.heap.size Al n (ints N)) := HN0.out.2.2.below H1.out.2.2.2.2 (Nat.le_refl _)
      have HP := put_ok A12 f.length c12 (bv f) w1.heap.size N wr.heap.size Al cl w1 HT1.out H1.out.2.2.2.1 (Nat.le_refl _) (ones_bv _) (by rw [HNl.out]; exact HNw1.out) H1.out.2.2.2.2.size (by rw [HNl.out]; exact HN0.out.2.1) (by rw [HNl.out]; omega) hNa.out (by omega)
      rw [HNl.out] at HP
      have HP := Lib.hid HP
      go_wp2_with fail
      refine HP.out.mono ?_; rintro e w2 ⟨v2, rfl, ho2, hb2⟩
      obtain ⟨X, hX⟩ : ∃ X, Hid (f ++ encsB N = X) := ⟨_, rfl⟩
      obtain ⟨L, hLn⟩ : ∃ L, Hid (f.length + sumW N = L) := ⟨_, rfl⟩
      have hXl : Hid (X.length = L) := by show _ = _; rw [← hX.out, ← hLn.out, List.length_append, encsB_len]
      have hL20 : L ≤ 20 + 8 * n := by rw [← hLn.out]; omega
      have hfL : f.length ≤ L := by rw [← hLn.out]; omega
      have eX : ∀ M : List Int, bv f ++ encs M = bv (f ++ encsB M) := fun M => by rw [encs_bv]; simp [bv]
      rw [eX, hX.out, hLn.out] at ho2
      obtain ⟨A13, c13, rfl, h21, h22, h23, h24⟩ := own_form ho2
      have H2 := Lib.hid (And.intro h21 (And.intro h22 (And.intro h23 (And.intro h24 hb2))))
      have hLc : L ≤ c13 := h21
      have hc13 : Hid (c13 ≤ maxLen) := h22
      have EX := Lib.hid eX
      clear ho2 hb2 h21 h22 h23 h24 eX
      have HBase : Hid (∀ W, Below w2.heap.size w2 W → Below w1.heap.size w1 W ∧ Below wr.heap.size wr W ∧ Below w.heap.size w W ∧ Tabs W) := fun W hW => by
        have b1 : Below w1.heap.size w1 W := H2.out.2.2.2.2.trans (hW.mono H2.out.2.2.2.2.size)
        have b0 : Below wr.heap.size wr W := H1.out.2.2.2.2.trans (b1.mono H1.out.2.2.2.2.size)
        have bw : Below w.heap.size w W := HK.out.2.trans (b0.mono HK.out.2.size)
        exact ⟨b1, b0, bw, (tabs_of HLd.out).below bw (tabs_of HLd.out).lt⟩
      obtain ⟨p, hp⟩ : ∃ p : Nat, Hid (cut % ((n : Int) + 1) = (p : Int)) := ⟨(cut % ((n : Int) + 1)).toNat, by
        have := Int.emod_nonneg cut (show (n : Int) + 1 ≠ 0 by omega)
        show _ = _
        omega⟩
      have hpn : p ≤ n := by
        have := Int.emod_lt_of_pos cut (show (0 : Int) < (n : Int) + 1 by omega)
        rw [hp.out] at this
        omega
      have HPk : Hid (∀ W, Calls Tryd.prog 19 #[.int .i64 cut, .int .i64 ((n : Int) + 1)] W fun e w' => e = .returned (.int .i64 (p : Int)) ∧ W = w') := fun W => by
        have := pick_any cut ((n : Int) + 1) W (by omega) (by omega)
        rwa [hp.out] at this
      have hsplit : sumW (N.take p) + sumW (N.drop p) = sumW N := by rw [← sumW_app, List.take_append_drop]
      have hLn' : f.length + sumW (N.take p) + sumW (N.drop p) = L := by rw [← hLn.out]; omega
      have HLn2 := Lib.hid hLn'
      have lt : (N.take p).length = p := by rw [List.length_take, HNl.out]; omega
      have ld : (N.drop p).length = n - p := by rw [List.length_drop, HNl.out]
      have hpa : okA Al p cl := fun h => by
        rcases Nat.eq_zero_or_pos n with h0 | h0
        · exact HN0.out.2.1 h0
        · obtain ⟨b, off, e, _⟩ := HN0.out.2.2.2 h0
          exact .inr ⟨b, off, e⟩
      have HPa : Hid (∀ W, Below w2.heap.size w2 W → Calls Tryd.prog 9 #[.slice A12 f.length c12, .slice Al p cl] W fun e w' => ∃ v', e = .returned v' ∧ w'.ownsRow W.heap.size 5 1 v' (f.length + sumW (N.take p)) (bv (f ++ encsB (N.take p))) ∧ Below W.heap.size W w') := fun W hW => by
        obtain ⟨b1, b0, bw, bt⟩ := HBase.out W hW
        have hh := (HN0.out.2.2.head p hpn).below b0 (Nat.le_refl _)
        rw [ints_take] at hh
        have := put_ok A12 f.length c12 (bv f) w1.heap.size (N.take p) wr.heap.size Al cl W bt (H1.out.2.2.2.1.below b1 (Nat.le_refl _)) b1.size (ones_bv _) (by rw [lt]; exact hh) b0.size (by rw [lt]; exact hpa) (by rw [lt]; omega) (fun x hx => hNa.out x (List.mem_of_mem_take hx)) (by omega)
        rwa [lt, EX.out] at this
      have HPb : Hid (∀ W A50 c50, Below w2.heap.size w2 W → Rd W W.heap.size A50 (f.length + sumW (N.take p)) (bv (f ++ encsB (N.take p))) → Calls Tryd.prog 9 #[.slice A50 (f.length + sumW (N.take p)) c50, .slice (if cl = p then Al else Option.map (fun x => x.add p) Al) (n - p) (cl - p)] W fun e w' => ∃ v', e = .returned v' ∧ w'.ownsRow W.heap.size 5 1 v' L (bv X) ∧ Below W.heap.size W w') := fun W A50 c50 hW hR => by
        obtain ⟨b1, b0, bw, bt⟩ := HBase.out W hW
        have hh := tail_rd (HN0.out.2.2.below b0 (Nat.le_refl _)) cl p hpn HN0.out.1
        rw [ints_drop] at hh
        have ho := tail_ok HN0.out.2.1 (fun h => by obtain ⟨b, off, e, _⟩ := HN0.out.2.2.2 (by omega); exact ⟨b, off, e⟩) p hpn HN0.out.1
        have := put_ok A50 (f.length + sumW (N.take p)) c50 (bv (f ++ encsB (N.take p))) W.heap.size (N.drop p) wr.heap.size (tailA Al cl p) (cl - p) W bt hR (Nat.le_refl _) (ones_bv _) (by rw [ld]; exact hh) b0.size (by rw [ld]; exact ho) (by rw [ld]; omega) (fun x hx => hNa.out x (List.mem_of_mem_drop hx)) (by omega)
        rw [ld, hLn', encs_bv] at this
        have e : bv (f ++ encsB (N.take p)) ++ bv (encsB (N.drop p)) = bv X := by
          rw [← hX.out]
          have : encsB N = encsB (N.take p) ++ encsB (N.drop p) := by
            unfold encsB
            rw [← List.flatMap_append, List.take_append_drop]
          rw [this]; simp [bv]
        rw [e] at this
        exact this
      clear hsplit hLn' lt ld hpa
      have hpi1 : (p : Int) ≤ (cl : Int) := by omega
      have hpi2 : (p : Int) ≤ (n : Int) := by omega
      have hpc : p ≤ cl := by omega
      go_upto_region 10 with (go_at_call 19; refine (HPk.out _).mono ?_; rintro e w' ⟨rfl, rfl⟩)
      go_cut [15] (fun v wx => ∃ A15 c15, v = .slice A15 L c15 ∧ Hid (Rd wx wx.heap.size A15 L (bv X) ∧ Below w2.heap.size w2 wx))
      case first =>
        by_cases hclp : cl = p
        · obtain rfl : p = n := by omega
          obtain rfl : cl = p := hclp
          have HPb2 : Hid (∀ W A50 c50, Below w2.heap.size w2 W → Rd W W.heap.size A50 (f.length + sumW (N.take cl)) (bv (f ++ encsB (N.take cl))) → Calls Tryd.prog 9 #[.slice A50 (f.length + sumW (N.take cl)) c50, .slice Al 0 0] W fun e w' => ∃ v', e = .returned v' ∧ w'.ownsRow W.heap.size 5 1 v' L (bv X) ∧ Below W.heap.size W w') := fun W A50 c50 hW hR => by
            have := HPb.out W A50 c50 hW hR
            rw [if_pos rfl, Nat.sub_self] at this
            exact this
          clear hpi1 hpi2
          go_region_with (first
            | (go_at_call 9; (with_reducible refine (HPa.out _ (Below.refl _ _).drew).mono ?_); rintro e w3 ⟨v3, rfl, ho3, hb3⟩; obtain ⟨A50, c50, rfl, _, _, _, h34⟩ := own_form ho3; have H3 := Lib.hid (And.intro h34 hb3); clear ho3 hb3 h34)
            | (go_at_call 9; (refine (HPb2.out _ _ _ ((Below.refl _ _).drew.trans (H3.out.2.mono (Nat.le_refl _))) H3.out.1).mono ?_); rintro e w4 ⟨v4, rfl, ho4, hb4⟩; obtain ⟨A15, c15, rfl, _, _, _, h44⟩ := own_form ho4; have H4 := Lib.hid (And.intro h44 hb4); clear ho4 hb4 h44))
          all_goals
            go_wp2_with fail
            go_meet
            case rel => exact ⟨_, _, rfl, H4.out.1, (Below.refl _ _).drew.trans (H3.out.2.trans (H4.out.2.mono H3.out.2.size))⟩
        · have HPb2 : Hid (∀ W A50 c50, Below w2.heap.size w2 W → Rd W W.heap.size A50 (f.length + sumW (N.take p)) (bv (f ++ encsB (N.take p))) → Calls Tryd.prog 9 #[.slice A50 (f.length + sumW (N.take p)) c50, .slice (Option.map (fun x => x.add p) Al) (n - p) (cl - p)] W fun e w' => ∃ v', e = .returned v' ∧ w'.ownsRow W.heap.size 5 1 v' L (bv X) ∧ Below W.heap.size W w') := fun W A50 c50 hW hR => by
            have := HPb.out W A50 c50 hW hR
            rw [if_neg hclp] at this
            exact this
          go_region_with (first
            | (go_at_call 9; (with_reducible refine (HPa.out _ (Below.refl _ _).drew).mono ?_); rintro e w3 ⟨v3, rfl, ho3, hb3⟩; obtain ⟨A50, c50, rfl, _, _, _, h34⟩ := own_form ho3; have H3 := Lib.hid (And.intro h34 hb3); clear ho3 hb3 h34)
            | (go_at_call 9; (refine (HPb2.out _ _ _ ((Below.refl _ _).drew.trans (H3.out.2.mono (Nat.le_refl _))) H3.out.1).mono ?_); rintro e w4 ⟨v4, rfl, ho4, hb4⟩; obtain ⟨A15, c15, rfl, _, _, _, h44⟩ := own_form ho4; have H4 := Lib.hid (And.intro h44 hb4); clear ho4 hb4 h44))
          all_goals
            go_wp2_with fail
            go_meet
            case rel => exact ⟨_, _, rfl, H4.out.1, (Below.refl _ _).drew.trans (H3.out.2.trans (H4.out.2.mono H3.out.2.size))⟩
      case rest =>
        obtain ⟨A15, c15, rfl, H15⟩ := hcut
        obtain ⟨b1, b0, bw, bt⟩ := HBase.out wc H15.out.2
        have HSz : Hid (∀ m : Nat, Calls Tryd.prog 13 #[.slice Al n cl] (wc.drewN m) fun e w' => e = .returned (.int .i64 ((sumW N : Nat) : Int)) ∧ w' = wc.drewN m) := fun m => by
          have := size_any N wr.heap.size Al cl (wc.drewN m) (by rw [HNl.out]; exact HN0.out.2.1) (by rw [HNl.out]; exact rd_drewN (HN0.out.2.2.below b0 (Nat.le_refl _)) m) (by rw [HNl.out]; omega)
          rw [if_pos hNa.out, HNl.out] at this
          exact this.mono fun e w' h => ⟨h.1, h.2.symm⟩
        have k15 := fun m : Nat => conv_run (P := Tryd.prog) (wc.drewN m) 22 9 5 Tryd.underlying22 Tryd.underlying5 Tryd.underlying9 wc.heap.size A15 L c15 X (rd_drewN (H15.out.1) m)
        have k13 := fun m : Nat => conv_run (P := Tryd.prog) (wc.drewN m) 22 9 5 Tryd.underlying22 Tryd.underlying5 Tryd.underlying9 w2.heap.size A13 L c13 X (rd_drewN (H2.out.2.2.2.1.below H15.out.2 (Nat.le_refl _)) m)
        have k12 := fun m : Nat => conv_run (P := Tryd.prog) (wc.drewN m) 22 9 5 Tryd.underlying22 Tryd.underlying5 Tryd.underlying9 w1.heap.size A12 f.length c12 f (rd_drewN (H1.out.2.2.2.1.below b1 (Nat.le_refl _)) m)
        have kpre := fun m : Nat => conv_run (P := Tryd.prog) (wc.drewN m) 22 9 5 Tryd.underlying22 Tryd.underlying5 Tryd.underlying9 w2.heap.size A13 f.length c13 f (rd_drewN (by
          have := (H2.out.2.2.2.1.below H15.out.2 (Nat.le_refl _)).head f.length hfL
          have e : (bv X).take f.length = bv f := by rw [← hX.out]; simp [bv]
          rwa [e] at this) m)
        have hfc : (f.length : Int) ≤ (c13 : Int) := by omega
        have hlf : decide (L < f.length) = false := by simp; omega
        have hlen : ((L : Int) - (f.length : Int)) = ((sumW N : Nat) : Int) := by have := hLn.out; omega
        clear b1 b0 bw bt
        go_wp2_with fail
        go_quiet ((go_at_call 13; exact Calls.quiet_of_same (HSz.out _)))
        have HQ0 : Below w2.heap.size w2 (wc.drewN nq) := ⟨H15.out.2.os, H15.out.2.tape, H15.out.2.output, H15.out.2.size, H15.out.2.block⟩
        generalize wc.drewN nq = wq at HQ0 ⊢
        have HQ := Lib.hid HQ0
        clear HQ0 k15 k13 k12 kpre HSz hlen hlf
        have HWq : Hid (Below w.heap.size w wq) := (HBase.out wq HQ.out).2.2.1
        obtain ⟨bh, hbh⟩ : ∃ f, Hid (bb.take 20 = f) := ⟨_, rfl⟩
        have hbh20 : bh.length ≤ 20 := by rw [← hbh.out, List.length_take]; omega
        obtain ⟨i5, hi, hz0, hz1, hz2⟩ := info_parts info5
        have HI5 := Lib.hid (And.intro hi (And.intro hz0 (And.intro hz1 hz2)))
        have eN : Hid ((encsB N).length = sumW N) := encsB_len N
        have eLs : Hid (L - f.length = sumW N) := by show _ = _; have := hLn.out; omega
        clear hi hz0 hz1 hz2
        have HF0 : Hid (∀ AX cX, sumW N ≤ cX → Rd wq w2.heap.size AX (sumW N) (bv (encsB N)) → Calls Tryd.prog 14 #[.slice AX (sumW N) cX, .int .i64 (L : Int)] wq fun e w' => ∃ v', e = .returned v' ∧ w'.ownsRow wq.heap.size 5 1 v' (sumW N) (bv (encsB N)) ∧ Below wq.heap.size wq w') := fun AX cX hc hR => by
          have := few_any (encsB N) w2.heap.size AX cX L wq (by rw [eN.out]; exact hR) HQ.out.size (by rw [eN.out]; exact hc) (by rw [eN.out]; omega)
          rwa [List.take_of_length_le (by rw [eN.out]; have := eLs.out; omega), eN.out] at this
        have HR13 : Hid (Rd wq w2.heap.size (tailA A13 c13 f.length) (sumW N) (bv (encsB N))) := by
          have := tail_rd (H2.out.2.2.2.1.below HQ.out (Nat.le_refl _)) c13 f.length hfL hLc
          rw [eLs.out, ← bv_drop, ← hX.out, List.drop_left] at this
          exact this
        go_upto_region 13 with fail
        go_cut [16] (fun v wx => ∃ A16 c16, v = .slice A16 (sumW N + bh.length) c16 ∧ Hid (sumW N + bh.length ≤ c16 ∧ Rd wx wx.heap.size A16 (sumW N + bh.length) (bv (encsB N) ++ bv bh) ∧ Below w2.heap.size w2 wx))
        case first =>
          by_cases hcf : c13 = f.length
          · obtain rfl : L = f.length := by omega
            subst hcf
            have h0 : sumW N = 0 := by have := eLs.out; omega
            have HF1 : Hid (Calls Tryd.prog 14 #[.slice A13 0 0, .int .i64 (f.length : Int)] wq fun e w' => ∃ v', e = .returned v' ∧ w'.ownsRow wq.heap.size 5 1 v' (sumW N) (bv (encsB N)) ∧ Below wq.heap.size wq w') := by
              have := HF0.out A13 0 (by omega) (by have := HR13.out; unfold tailA at this; rwa [if_pos rfl] at this)
              rwa [h0] at this ⊢
            clear h0
            go_wp2_with fail
            refine HF1.out.mono ?_; rintro e w3 ⟨v3, rfl, ho3, hb3⟩
            have HO3 := Lib.hid (And.intro ho3 hb3)
            clear ho3 hb3
            have HF2 := Lib.hid (few_any bb w.heap.size A3 cap3 20 w3 (HBb.out.rd.below (HWq.out.trans (HO3.out.2.mono HWq.out.size)) (Nat.le_refl _)) (Nat.le_trans HWq.out.size HO3.out.2.size) HBb.out.cap (by have := HBb.out.reach; omega))
            go_wp2_with fail
            refine HF2.out.mono ?_; rintro e w4 ⟨v4, rfl, ho4, hb4⟩
            rw [hbh.out] at ho4
            obtain ⟨A44, c44, rfl, _, _, _, h44⟩ := own_form ho4
            have HO4 := Lib.hid (And.intro h44 hb4)
            clear ho4 hb4 h44
            go_wp2_with (at_builtin; refine wpList_app _ rfl _ _ 22 rfl wq.heap.size 5 i5 (.int .u8 0) 1 Tryd.underlying22 HI5.out.1 HI5.out.2.1 HI5.out.2.2.1 HI5.out.2.2.2 rfl v3 (sumW N) (bv (encsB N)) rfl (own_below HO3.out.1 HO4.out.2) w4.heap.size A44 bh.length c44 (bv bh) rfl HO4.out.1 (ones_bv _) (by unfold maxLen; omega) (by omega) (Nat.le_trans HO3.out.2.size HO4.out.2.size) ?_)
            intro v5 w5 hown5 hgrow5
            have HB5 : Hid (Below wq.heap.size wq w5) := (HO3.out.2.trans (HO4.out.2.mono HO3.out.2.size)).grown hgrow5 (Nat.le_trans HO3.out.2.size HO4.out.2.size) (fun j hj => (HO3.out.1.lt j hj).1)
            obtain ⟨A55, c55, rfl, h51, _, h52, h53⟩ := own_form hown5
            have HO5 := Lib.hid (And.intro h51 (And.intro h52 h53))
            clear hown5 hgrow5 h51 h52 h53
            go_wp2_with fail
            go_meet
            case rel => exact ⟨_, _, rfl, HO5.out.1, HO5.out.2.2, HQ.out.trans (HB5.out.mono HQ.out.size)⟩
          · have HF1 : Hid (Calls Tryd.prog 14 #[.slice (Option.map (fun x => x.add f.length) A13) (L - f.length) (c13 - f.length), .int .i64 (L : Int)] wq fun e w' => ∃ v', e = .returned v' ∧ w'.ownsRow wq.heap.size 5 1 v' (sumW N) (bv (encsB N)) ∧ Below wq.heap.size wq w') := by
              rw [eLs.out]
              exact HF0.out _ _ (by have := eLs.out; omega) (by have := HR13.out; unfold tailA at this; rwa [if_neg hcf] at this)
            go_wp2_with fail
            refine HF1.out.mono ?_; rintro e w3 ⟨v3, rfl, ho3, hb3⟩
            have HO3 := Lib.hid (And.intro ho3 hb3)
            clear ho3 hb3
            have HF2 := Lib.hid (few_any bb w.heap.size A3 cap3 20 w3 (HBb.out.rd.below (HWq.out.trans (HO3.out.2.mono HWq.out.size)) (Nat.le_refl _)) (Nat.le_trans HWq.out.size HO3.out.2.size) HBb.out.cap (by have := HBb.out.reach; omega))
            go_wp2_with fail
            refine HF2.out.mono ?_; rintro e w4 ⟨v4, rfl, ho4, hb4⟩
            rw [hbh.out] at ho4
            obtain ⟨A44, c44, rfl, _, _, _, h44⟩ := own_form ho4
            have HO4 := Lib.hid (And.intro h44 hb4)
            clear ho4 hb4 h44
            go_wp2_with (at_builtin; refine wpList_app _ rfl _ _ 22 rfl wq.heap.size 5 i5 (.int .u8 0) 1 Tryd.underlying22 HI5.out.1 HI5.out.2.1 HI5.out.2.2.1 HI5.out.2.2.2 rfl v3 (sumW N) (bv (encsB N)) rfl (own_below HO3.out.1 HO4.out.2) w4.heap.size A44 bh.length c44 (bv bh) rfl HO4.out.1 (ones_bv _) (by unfold maxLen; omega) (by omega) (Nat.le_trans HO3.out.2.size HO4.out.2.size) ?_)
            intro v5 w5 hown5 hgrow5
            have HB5 : Hid (Below wq.heap.size wq w5) := (HO3.out.2.trans (HO4.out.2.mono HO3.out.2.size)).grown hgrow5 (Nat.le_trans HO3.out.2.size HO4.out.2.size) (fun j hj => (HO3.out.1.lt j hj).1)
            obtain ⟨A55, c55, rfl, h51, _, h52, h53⟩ := own_form hown5
            have HO5 := Lib.hid (And.intro h51 (And.intro h52 h53))
            clear hown5 hgrow5 h51 h52 h53
            go_wp2_with fail
            go_meet
            case rel => exact ⟨_, _, rfl, HO5.out.1, HO5.out.2.2, HQ.out.trans (HB5.out.mono HQ.out.size)⟩
        case rest =>
          obtain ⟨A16, c16, rfl, H16⟩ := hcut
          have lenD : (encsB N ++ bh).length = sumW N + bh.length := by rw [List.length_append, eN.out]
          have hD : decs n (encsB N ++ bh) = some (N.map Int.toNat, bh) := by have := decs_encs N bh hNa.out; rwa [HNl.out] at this
          have bvD : ∀ M : List Int, bv (encsB M) ++ bv bh = bv (encsB M ++ bh) := fun M => by simp [bv]
          have ltD : Hid (∀ M : List Int, ∀ c ∈ encsB M ++ bh, c < 256) := fun M c hc => by
            rw [List.mem_append] at hc
            rcases hc with hc | hc
            · exact encsB_lt M c hc
            · rw [← hbh.out] at hc; exact HBb.out.lt c (List.mem_of_mem_take hc)
          have eT : ((N.map Int.toNat).map fun x : Nat => Value.int .i64 (x : Int)) = ints N := by
            unfold ints
            rw [List.map_map]
            refine List.map_congr_left fun x hx => ?_
            have := wid_cases x (hNa.out x hx)
            simp only [Function.comp]
            rw [Int.toNat_of_nonneg (by omega)]
          have lT : (N.map Int.toNat).length = n := by rw [List.length_map, HNl.out]
          have BVD := Lib.hid bvD
          have HTk := takes_yes (encsB N ++ bh) A16 c16 n (N.map Int.toNat) bh wc hD (by omega) (by rw [lenD, ← bvD]; exact H16.out.2.1) (ltD.out N) (by rw [lenD]; exact H16.out.1) (by rw [lenD]; omega)
          rw [lenD, eT, lT] at HTk
          have HTk := Lib.hid HTk
          clear lenD hD bvD eT lT
          go_wp2_with fail
          refine HTk.out.mono ?_; rintro e wt ⟨v17, v18, rfl, ho17, ho18, hbt⟩
          obtain ⟨A17, c17, rfl, _, _, _, h17⟩ := own_form ho17
          obtain ⟨A18, c18, rfl, _, _, _, h18⟩ := own_form ho18
          have HTt := Lib.hid (And.intro h17 (And.intro h18 hbt))
          clear ho17 ho18 hbt h17 h18
          have HBt : Hid (Below w2.heap.size w2 wt) := H16.out.2.2.trans (HTt.out.2.2.mono H16.out.2.2.size)
          have HWt : Hid (Below w.heap.size w wt) := (HBase.out wt HBt.out).2.2.1
          have HR16 : Hid (Rd wt wt.heap.size A16 (sumW N + bh.length) (bv (encsB N) ++ bv bh)) := (H16.out.2.1.below HTt.out.2.2 (Nat.le_refl _)).more HTt.out.2.2.size
          have hc16 : sumW N + bh.length ≤ c16 := H16.out.1
          go_upto_region 15 with fail
          go_cut [125] (fun v wx => v = .bool false ∧ Hid (Below wt.heap.size wt wx))
          case first =>
            refine wp_region_any (by kernel_rfl) ?_
            try (change wpAny _ _ _ _ _ _ _ (World.drew _))
            refine wpAny_ready (rs := [0]) (by kernel_rfl) (by simp) ?_
            refine AllReady.cons rfl (fun K hK => ?_) ?_
            · go_simp
              refine (known_any HLd.out HWt.out.drew).mono ?_
              rintro e w6 ⟨rfl, hb6⟩
              have HB6 : Hid (Below wt.heap.size wt w6) := (Below.refl _ _).drew.trans (hb6.mono (Nat.le_refl _))
              have k18 := conv_run (P := Tryd.prog) w6 22 9 5 Tryd.underlying22 Tryd.underlying5 Tryd.underlying9 wt.heap.size A18 bh.length c18 bh (HTt.out.2.1.below HB6.out (Nat.le_refl _))
              clear hb6
              refine hK _ _ ?_
              clear hK K
              go_simp
              refine wpAny_take (i := 1) (v := ?_) rfl (by kernel_rfl) (by kernel_rfl) (by kernel_rfl) (fun _ _ _ h => h) (Or.inl ⟨by rfl, ?_⟩) ?_
              rotate_left
              · intro w; go_simp; try with_reducible rfl
              go_simp
              refine wpAny_take (i := 2) (v := ?_) rfl (by kernel_rfl) (by kernel_rfl) (by kernel_rfl) (fun _ _ _ h => h) (Or.inl ⟨by rfl, ?_⟩) ?_
              rotate_left
              · intro w; go_simp; try with_reducible rfl
              go_simp
              refine wpAny_take (i := 3) (v := ?_) rfl (by kernel_rfl) (by kernel_rfl) (by kernel_rfl) (fun _ _ _ h => h) (Or.inl ⟨by rfl, ?_⟩) ?_
              rotate_left
              · intro w; go_simp; try with_reducible rfl
              go_simp
              refine wpAny_take (i := 4) (v := ?_) rfl (by kernel_rfl) (by kernel_rfl) (by kernel_rfl) (fun _ _ _ h => h) (Or.inl ⟨by rfl, ?_⟩) ?_
              rotate_left
              · intro w; go_simp; try with_reducible rfl
              go_simp
              refine wpAny_take (i := 5) (v := ?_) rfl (by kernel_rfl) (by kernel_rfl) (by kernel_rfl) (fun _ _ _ h => h) (Or.inl ⟨by rfl, ?_⟩) ?_
              rotate_left
              · intro w; go_simp; try with_reducible rfl
              go_simp
              refine wpAny_take (i := 6) (v := ?_) rfl (by kernel_rfl) (by kernel_rfl) (by kernel_rfl) (fun _ _ _ h => h) (Or.inl ⟨by rfl, ?_⟩) ?_
              rotate_left
              · intro w; go_simp; try with_reducible rfl
              go_simp
              refine wpAny_take (i := 7) (v := ?_) rfl (by kernel_rfl) (by kernel_rfl) (by kernel_rfl) (fun _ _ _ h => h) (Or.inl ⟨by rfl, ?_⟩) ?_
              rotate_left
              · intro w; go_simp; try with_reducible rfl
              go_simp
              refine wpAny_take (i := 8) (v := ?_) rfl (by kernel_rfl) (by kernel_rfl) (by kernel_rfl) (fun _ _ _ h => h) (Or.inl ⟨by rfl, ?_⟩) ?_
              rotate_left
              · intro w; go_simp; try with_reducible rfl
              go_simp
              refine wpAny_take (i := 9) (v := ?_) rfl (by kernel_rfl) (by kernel_rfl) (by kernel_rfl) (fun _ _ _ h => h) (Or.inl ⟨by rfl, ?_⟩) ?_
              rotate_left
              · intro w; go_simp; try with_reducible rfl
              go_simp
              refine wpAny_take (i := 10) (v := ?_) rfl (by kernel_rfl) (by kernel_rfl) (by kernel_rfl) (fun _ _ _ h => h) (Or.inl ⟨by rfl, ?_⟩) ?_
              rotate_left
              · intro w; go_simp; try with_reducible rfl
              go_simp
              refine wpAny_take (i := 11) (v := ?_) rfl (by kernel_rfl) (by kernel_rfl) (by kernel_rfl) (fun _ _ _ h => h) (Or.inl ⟨by rfl, ?_⟩) ?_
              rotate_left
              · intro w; go_simp; try with_reducible rfl
              go_simp
              refine wpAny_take (i := 12) (v := ?_) rfl (by kernel_rfl) (by kernel_rfl) (by kernel_rfl) (fun _ _ _ h => h) (Or.inl ⟨by rfl, ?_⟩) ?_
              rotate_left
              · intro w; go_simp; try with_reducible rfl
              go_simp
              refine wpAny_take (i := 13) (v := ?_) rfl (by kernel_rfl) (by kernel_rfl) (by kernel_rfl) (fun _ _ _ h => h) (Or.inl ⟨by rfl, ?_⟩) ?_
              rotate_left
              · intro w; go_simp; try with_reducible rfl
              go_simp
              refine wpAny_take (i := 14) (v := ?_) rfl (by kernel_rfl) (by kernel_rfl) (by kernel_rfl) (fun _ _ _ h => h) (Or.inl ⟨by rfl, ?_⟩) ?_
              rotate_left
              · intro w; go_simp; try with_reducible rfl
              go_simp
              refine wpAny_take (i := 16) (v := ?_) rfl (by kernel_rfl) (by kernel_rfl) (by kernel_rfl) (fun _ _ _ h => h) (Or.inl ⟨by rfl, ?_⟩) ?_
              rotate_left
              · intro w; go_simp; try with_reducible rfl
              go_simp
              refine wpAny_ready (rs := [15, 17]) (by kernel_rfl) (by simp) ?_
              refine AllReady.cons rfl (fun K hK => ?_) ?_
              · go_simp
                refine hK _ _ ?_
                clear hK K
                go_simp
                refine wpAny_ready (rs := [17]) (by kernel_rfl) (by simp) ?_
                refine AllReady.cons rfl (fun K hK => ?_) ?_
                · go_simp
                  refine (few_any bb w.heap.size A3 cap3 20 w6 (HBb.out.rd.below (HWt.out.trans (HB6.out.mono HWt.out.size)) (Nat.le_refl _)) (Nat.le_trans HWt.out.size HB6.out.size) HBb.out.cap (by have := HBb.out.reach; omega)).mono ?_
                  rintro e w7 ⟨v7, rfl, ho7, hb7⟩
                  rw [hbh.out] at ho7
                  obtain ⟨A7, c7, rfl, _, _, _, h7⟩ := own_form ho7
                  have HB7 : Hid (Below wt.heap.size wt w7) := HB6.out.trans (hb7.mono HB6.out.size)
                  have k18' := conv_run (P := Tryd.prog) w7 22 9 5 Tryd.underlying22 Tryd.underlying5 Tryd.underlying9 wt.heap.size A18 bh.length c18 bh (HTt.out.2.1.below HB7.out (Nat.le_refl _))
                  have k7 := conv_run (P := Tryd.prog) w7 22 9 5 Tryd.underlying22 Tryd.underlying5 Tryd.underlying9 w7.heap.size A7 bh.length c7 bh h7
                  clear ho7 hb7 h7
                  refine hK _ _ ?_
                  clear hK K
                  go_simp
                  refine wpAny_ready (rs := [18]) (by kernel_rfl) (by simp) ?_
                  refine AllReady.cons rfl (fun K hK => ?_) ?_
                  · go_simp
                    refine hK _ _ ?_
                    clear hK K
                    go_simp
                    refine wpAny_take (i := 19) (v := ?_) rfl (by kernel_rfl) (by kernel_rfl) (by kernel_rfl) (fun _ _ _ h => h) (Or.inl ⟨by rfl, ?_⟩) ?_
                    rotate_left
                    · intro w; go_simp; try with_reducible rfl
                    go_simp
                    refine wpAny_take (i := 20) (v := ?_) rfl (by kernel_rfl) (by kernel_rfl) (by kernel_rfl) (fun _ _ _ h => h) (Or.inl ⟨by rfl, ?_⟩) ?_
                    rotate_left
                    · intro w; go_simp; try with_reducible rfl
                    go_simp
                    refine wpAny_done (by kernel_rfl) ?_ _
                    go_wp2_with fail
                    go_meet
                    case rel => exact ⟨rfl, HB7.out⟩
                  exact AllReady.nil
                exact AllReady.nil
              refine AllReady.cons rfl (fun K hK => ?_) ?_
              · go_simp
                refine (few_any bb w.heap.size A3 cap3 20 w6 (HBb.out.rd.below (HWt.out.trans (HB6.out.mono HWt.out.size)) (Nat.le_refl _)) (Nat.le_trans HWt.out.size HB6.out.size) HBb.out.cap (by have := HBb.out.reach; omega)).mono ?_
                rintro e w7 ⟨v7, rfl, ho7, hb7⟩
                rw [hbh.out] at ho7
                obtain ⟨A7, c7, rfl, _, _, _, h7⟩ := own_form ho7
                have HB7 : Hid (Below wt.heap.size wt w7) := HB6.out.trans (hb7.mono HB6.out.size)
                have k18' := conv_run (P := Tryd.prog) w7 22 9 5 Tryd.underlying22 Tryd.underlying5 Tryd.underlying9 wt.heap.size A18 bh.length c18 bh (HTt.out.2.1.below HB7.out (Nat.le_refl _))
                have k7 := conv_run (P := Tryd.prog) w7 22 9 5 Tryd.underlying22 Tryd.underlying5 Tryd.underlying9 w7.heap.size A7 bh.length c7 bh h7
                clear ho7 hb7 h7
                refine hK _ _ ?_
                clear hK K
                go_simp
                refine wpAny_ready (rs := [15, 18]) (by kernel_rfl) (by simp) ?_
                refine AllReady.cons rfl (fun K hK => ?_) ?_
                · go_simp
                  refine hK _ _ ?_
                  clear hK K
                  go_simp
                  refine wpAny_ready (rs := [18]) (by kernel_rfl) (by simp) ?_
                  refine AllReady.cons rfl (fun K hK => ?_) ?_
                  · go_simp
                    refine hK _ _ ?_
                    clear hK K
                    go_simp
                    refine wpAny_take (i := 19) (v := ?_) rfl (by kernel_rfl) (by kernel_rfl) (by kernel_rfl) (fun _ _ _ h => h) (Or.inl ⟨by rfl, ?_⟩) ?_
                    rotate_left
                    · intro w; go_simp; try with_reducible rfl
                    go_simp
                    refine wpAny_take (i := 20) (v := ?_) rfl (by kernel_rfl) (by kernel_rfl) (by kernel_rfl) (fun _ _ _ h => h) (Or.inl ⟨by rfl, ?_⟩) ?_
                    rotate_left
                    · intro w; go_simp; try with_reducible rfl
                    go_simp
                    refine wpAny_done (by kernel_rfl) ?_ _
                    go_wp2_with fail
                    go_meet
                    case rel => exact ⟨rfl, HB7.out⟩
                  exact AllReady.nil
                refine AllReady.cons rfl (fun K hK => ?_) ?_
                · go_simp
                  refine hK _ _ ?_
                  clear hK K
                  go_simp
                  refine wpAny_ready (rs := [15]) (by kernel_rfl) (by simp) ?_
                  refine AllReady.cons rfl (fun K hK => ?_) ?_
                  · go_simp
                    refine hK _ _ ?_
                    clear hK K
                    go_simp
                    refine wpAny_take (i := 19) (v := ?_) rfl (by kernel_rfl) (by kernel_rfl) (by kernel_rfl) (fun _ _ _ h => h) (Or.inl ⟨by rfl, ?_⟩) ?_
                    rotate_left
                    · intro w; go_simp; try with_reducible rfl
                    go_simp
                    refine wpAny_take (i := 20) (v := ?_) rfl (by kernel_rfl) (by kernel_rfl) (by kernel_rfl) (fun _ _ _ h => h) (Or.inl ⟨by rfl, ?_⟩) ?_
                    rotate_left
                    · intro w; go_simp; try with_reducible rfl
                    go_simp
                    refine wpAny_done (by kernel_rfl) ?_ _
                    go_wp2_with fail
                    go_meet
                    case rel => exact ⟨rfl, HB7.out⟩
                  exact AllReady.nil
                exact AllReady.nil
              exact AllReady.nil
            exact AllReady.nil
          case rest =>
            obtain ⟨rfl, H7⟩ := hcut
            have HW7 : Hid (Below w.heap.size w wc) := HWt.out.trans (H7.out.mono HWt.out.size)
            have H16' : Hid (Rd wc wc.heap.size A16 (sumW N + bh.length) (bv (encsB N) ++ bv bh)) := (HR16.out.below H7.out (Nat.le_refl _)).more H7.out.size
            have H17 : Hid (Rd wc wc.heap.size A17 n (ints N)) := (HTt.out.1.below H7.out (Nat.le_refl _)).more H7.out.size
            have Hn : Hid (Rd wc wc.heap.size Al n (ints N)) := by
              have b := HBt.out.trans (H7.out.mono HBt.out.size)
              obtain ⟨_, b0, _, _⟩ := HBase.out wc b
              exact (HN0.out.2.2.below b0 (Nat.le_refl _)).more b0.size
            go_wp2_with fail
            go_loopw [16, 128] (fun v i wz => ∃ k : Nat, k ≤ n ∧ i = .int .i64 k ∧ (∃ A6 c6, v = .slice A6 (sumW (N.drop k) + bh.length) c6 ∧ Hid (sumW (N.drop k) + bh.length ≤ c6 ∧ Rd wz wz.heap.size A6 (sumW (N.drop k) + bh.length) (bv (encsB (N.drop k)) ++ bv bh) ∧ Below wc.heap.size wc wz))) (fun _ i _ => n - (intOf i).toNat)
            case atStart => exact ⟨0, by omega, rfl, A16, c16, rfl, hc16, H16'.out, Below.refl _ _⟩
            case round =>
              obtain ⟨k, hk, rfl, A6, c6, rfl, HZ⟩ := hrel
              by_cases hlt : k < n
              · have hlti : (k : Int) < (n : Int) := by omega
                have hltd : decide (k < n) = true := by simpa using hlt
                have hkN : k < N.length := by rw [HNl.out]; exact hlt
                obtain ⟨x, hx⟩ : ∃ x, Hid (N[k] = x) := ⟨N[k], rfl⟩
                have hdrop : Hid (N.drop k = x :: N.drop (k + 1)) := by show _ = _; rw [List.drop_eq_getElem_cons hkN, hx.out]
                have hxw : Hid (wid x ≠ 0) := by rw [← hx.out]; exact hNa.out _ (List.getElem_mem hkN)
                have hsd : sumW (N.drop k) = wid x + sumW (N.drop (k + 1)) := by rw [hdrop.out]; simp [sumW]
                have hsN : sumW (N.drop k) ≤ sumW N := by
                  have e := congrArg sumW (List.take_append_drop k N)
                  rw [sumW_app] at e
                  omega
                have hx0 : Hid (((x.toNat : Nat) : Int) = x) := by
                  have := wid_cases x hxw.out
                  exact Int.toNat_of_nonneg (by omega)
                have HTk : Hid (Calls Tryd.prog 11 #[.slice A6 (sumW (N.drop k) + bh.length) c6] wr fun e w' => ∃ A' c', e = .returned (.tuple #[.int .i64 x, .slice A' (sumW (N.drop (k + 1)) + bh.length) c', .int .i64 0]) ∧ Hid (sumW (N.drop (k + 1)) + bh.length ≤ c' ∧ Rd w' w'.heap.size A' (sumW (N.drop (k + 1)) + bh.length) (bv (encsB (N.drop (k + 1))) ++ bv bh) ∧ Below wr.heap.size wr w')) := by
                  have len : (encsB (N.drop k) ++ bh).length = sumW (N.drop k) + bh.length := by rw [List.length_append, encsB_len]
                  have hd : dec (encsB (N.drop k) ++ bh) = some (x.toNat, wid x) := by
                    rw [hdrop.out]
                    have : encsB (x :: N.drop (k + 1)) ++ bh = encB x ++ (encsB (N.drop (k + 1)) ++ bh) := by simp [encsB]
                    rw [this]
                    exact dec_enc x hxw.out _
                  have h := take_yes (encsB (N.drop k) ++ bh) wr.heap.size A6 c6 wr (by rw [len, ← BVD.out]; exact HZ.out.2.1) (Nat.le_refl _) (ltD.out _) (by rw [len]; exact HZ.out.1) (by rw [len]; omega) x.toNat (wid x) hd
                  have hdr : (encsB (N.drop k) ++ bh).drop (wid x) = encsB (N.drop (k + 1)) ++ bh := by
                    rw [hdrop.out]
                    have : encsB (x :: N.drop (k + 1)) ++ bh = encB x ++ (encsB (N.drop (k + 1)) ++ bh) := by simp [encsB]
                    rw [this, ← encB_len x, List.drop_left]
                  rw [len, hdr, hx0.out, show sumW (N.drop k) + bh.length - wid x = sumW (N.drop (k + 1)) + bh.length by omega, ← BVD.out] at h
                  refine h.mono ?_
                  rintro e w' ⟨A', c', rfl, hh⟩
                  exact ⟨A', c', rfl, hh.out.1, hh.out.2.2.1, hh.out.2.2.2⟩
                obtain ⟨bt, ot, hA17, hbt, hct⟩ := H17.out.2 (by omega)
                obtain ⟨bn, on, hAl, hbn, hcn⟩ := Hn.out.2 (by omega)
                have hg : (ints N)[k]? = some (.int .i64 x) := by rw [ints_get N k hkN]; simp [List.getD, hkN, hx.out]
                have HC1 : Hid (∀ W, Below wc.heap.size wc W → W.cell? ⟨bt, ot + k, none⟩ = some (.int .i64 x) ∧ W.cell? ⟨bn, on + k, none⟩ = some (.int .i64 x)) := fun W hW =>
                  ⟨(hW.cell (p := ⟨bt, ot + k, none⟩) hbt).trans (hct k _ hg), (hW.cell (p := ⟨bn, on + k, none⟩) hbn).trans (hcn k _ hg)⟩
                subst hA17
                subst hAl
                clear hct hcn hg hsd hbt hbn
                go_wp2_with fail
                refine HTk.out.mono ?_; rintro e w8 ⟨A9, c9, rfl, H9⟩
                have HB8 : Hid (Below wc.heap.size wc w8) := HZ.out.2.2.trans (H9.out.2.2.mono HZ.out.2.2.size)
                obtain ⟨hcell1, hcell2⟩ := HC1.out w8 HB8.out
                go_wp2_with fail
                go_quiet (fail)
                have HB9 : Hid (Below wc.heap.size wc (w8.drewN nq)) := hid_mk ⟨HB8.out.os, HB8.out.tape, HB8.out.output, HB8.out.size, HB8.out.block⟩
                have HR9 : Hid (Rd (w8.drewN nq) (w8.drewN nq).heap.size A9 (sumW (N.drop (k + 1)) + bh.length) (bv (encsB (N.drop (k + 1))) ++ bv bh)) := rd_drewN H9.out.2.1 nq
                clear hcell1 hcell2
                go_wp2_with fail
                go_roundw
                case rel => exact ⟨k + 1, by omega, by go_num, _, _, rfl, H9.out.1, HR9.out, HB9.out⟩
                case measure => simp [intOf]; omega
              · obtain rfl : k = n := by omega
                have hltd : decide (k < k) = false := by simp
                go_wp2
                go_ret
                exact ⟨rfl, HW7.out.trans (HZ.out.2.2.mono HW7.out.size)⟩
theorem walk' (A0 : Option Addr) (c0 : Nat) (l0 : List Int) (a1 : Int) (A2 : Option Addr) (c2 : Nat) (l2 : List Nat) (A3 : Option Addr) (c3 : Nat) (l3 : List Nat) (W : World) (hL : laidMetH Tryd.prog laids W) (w0 : IsInts W A0 c0 l0) (_ : -9223372036854775808 ≤ a1) (_ : a1 ≤ 9223372036854775807) (w2 : IsBytes W A2 c2 l2) (w3 : IsBytes W A3 c3 l3) :
    Calls Tryd.prog 5 #[.slice A0 l0.length c0, .int .i64 a1, .slice A2 l2.length c2, .slice A3 l3.length c3] W fun e w' => e = .returned (.bool true) ∧ Below W.heap.size W w' :=
  walk l0 A0 c0 a1 l2 A2 c2 l3 A3 c3 W hL w0 w2 w3
end Go.Proofs.YtmdmkjkdfagcfaaDoor.Back
