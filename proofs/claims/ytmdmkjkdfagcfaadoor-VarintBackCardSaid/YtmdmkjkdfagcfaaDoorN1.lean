/- VarintNone: the walk. Conditions: the two listed tables of math/bits read as listed. -/
import Derived.Test.YtmdmkjkdfagcfaaDoorV2

import Derived.Deep.DeepCutAuto
import Derived.Deep.RegionLaw
import Derived.Deep.CutBlock
namespace Go.Proofs.YtmdmkjkdfagcfaaDoor.None_
open Go Go.RowKit

theorem ints_snoc (l : List Int) (x : Int) : ints (l ++ [x]) = ints l ++ [.int .i64 x] := by simp [ints]
def mays (l : List Int) (k : Nat) : List Int := (l.take k).map mayF
theorem mays_snoc (l : List Int) (k : Nat) (h : k < l.length) (x y : Int) (hx : l[k] = x) (hy : mayF x = y) : ints (mays l (k + 1)) = ints (mays l k) ++ [.int .i64 y] := by
  unfold mays
  rw [take_snoc' l k h, List.map_append, hx]; simp [hy, ints]
theorem mays_len (l : List Int) (k : Nat) (h : k ≤ l.length) : (mays l k).length = k := by
  unfold mays; rw [List.length_map, List.length_take]; omega
theorem mays_all (l : List Int) (k : Nat) : allMay (mays l k) := fun n hn => by
  unfold mays at hn
  rw [List.mem_map] at hn
  obtain ⟨x, _, rfl⟩ := hn
  exact wid_may x

set_option maxRecDepth 100000 in
set_option maxHeartbeats 4000000 in
theorem walk (l : List Int) (A : Option Addr) (cap : Nat) (bad at_ count : Int) (bs : List Nat) (A4 : Option Addr) (cap4 : Nat) (w : World) (hL : laidMetH Tryd.prog laids w) (hl : IsInts w A cap l) (hb : IsBytes w A4 cap4 bs) :
    Calls Tryd.prog 8 #[.slice A l.length cap, .int .i64 bad, .int .i64 at_, .int .i64 count, .slice A4 bs.length cap4] w fun e w' => e = .returned (.bool true) ∧ Below w.heap.size w w' := by
  have HLd := Lib.hid hL
  have HI := Lib.hid hl
  have HB := Lib.hid hb
  have hreach := hl.reach
  obtain ⟨i0, hi, hz0, hz1, hz2⟩ := info_parts info3
  have HI3 := Lib.hid (And.intro hi (And.intro hz0 (And.intro hz1 hz2)))
  have hll : (l.length : Int) ≤ 17592186044416 := by omega
  clear hi hz0 hz1 hz2 hL hl hb
  go_enter Tryd.func8, Tryd.ntmps8
  go_upto_block 0 with fail
  go_cut [11, 12] (fun v _ wx => ∃ k : Nat, k ≤ l.length ∧ k ≤ 10 ∧ (∃ Al cl, v = .slice Al k cl) ∧ Hid (wx.ownsRow w.heap.size 3 1 v k (ints (mays l k)) ∧ Below w.heap.size w wx))
  case first =>
    go_wp2_with fail
    go_loopw [11, 12] (fun v i wr => ∃ k : Nat, k ≤ l.length ∧ k ≤ 10 ∧ i = .int .i64 k ∧ (∃ Al cl, v = .slice Al k cl) ∧ Hid (wr.ownsRow w.heap.size 3 1 v k (ints (mays l k)) ∧ Below w.heap.size w wr)) (fun _ i _ => 10 - (intOf i).toNat)
    case atStart => exact ⟨0, by omega, by omega, rfl, ⟨_, _, rfl⟩, ⟨rfl, .inl ⟨rfl, rfl⟩⟩, Below.refl _ _⟩
    case round =>
      obtain ⟨k, hk, hk10, rfl, ⟨Al, cl, rfl⟩, HK⟩ := hrel
      by_cases hlt : k < l.length
      · have hltd : decide (k < l.length) = true := by simpa using hlt
        have hlti : (k : Int) < (l.length : Int) := by omega
        by_cases h10 : k < 10
        · have h10i : (k : Int) < 10 := by omega
          obtain ⟨b, off, hA, hbn, hcs⟩ := HI.out.rd.2 (by omega)
          subst hA
          obtain ⟨x, hx⟩ : ∃ x, Hid (l[k] = x) := ⟨l[k], rfl⟩
          have hcell : wr.cell? ⟨b, off + k, none⟩ = some (.int .i64 x) := by
            rw [HK.out.2.cell (p := ⟨b, off + k, none⟩) hbn, hcs k _ (ints_get l k hlt)]
            simp [List.getD, hlt, hx.out]
          have hxb := HI.out.lt _ (List.getElem_mem hlt)
          rw [hx.out] at hxb
          obtain ⟨hx1, hx2⟩ := hxb
          obtain ⟨y, hy⟩ : ∃ y, Hid (mayF x = y) := ⟨_, rfl⟩
          have HM : Hid (∀ W, Calls Tryd.prog 18 #[.int .i64 x] W fun e w' => e = .returned (.int .i64 y) ∧ W = w') := fun W => by
            have := hmay_any x W hx1 hx2
            rwa [hy.out] at this
          have hsn := Lib.hid (mays_snoc l k hlt x y hx.out hy.out)
          clear hcs
          go_wp2_with fail
          refine (HM.out _).mono ?_; rintro e w' ⟨rfl, rfl⟩
          go_wp2_with (at_builtin; refine wpList_append_own _ rfl _ _ 24 rfl w.heap.size 3 i0 (.int .i64 0) 1 8 Tryd.underlying24 HI3.out.1 HI3.out.2.1 HI3.out.2.2.1 HI3.out.2.2.2 rfl (by decide) (.slice Al k cl) k (ints (mays l k)) rfl (HK.out.1.alloc _) ⟨wr.heap.size, 0, none⟩ 1 1 [.int .i64 y] rfl rfl ?c1 ?c2 ?c3 ?c4 ?c5 ?_)
          case c1 => exact cell_one_new _ _ _
          case c2 => simp [Value.oneCell']
          case c3 => unfold maxLen; omega
          case c4 => omega
          case c5 => have := HK.out.2.size; simp only [World.size_alloc]; omega
          intro v1 w1 hown1 hgrow1 _
          have HN : Hid (w1.ownsRow w.heap.size 3 1 v1 (k + 1) (ints (mays l (k + 1))) ∧ Below w.heap.size w w1) := by
            refine ⟨?_, (HK.out.2.alloc HK.out.2.size _).grown hgrow1 (by have := HK.out.2.size; simp only [World.size_alloc]; omega) (fun g hg => (HK.out.1.lt g hg).1)⟩
            rw [hsn.out]; exact hown1
          clear hown1 hgrow1
          obtain ⟨A1, c1, e1, _⟩ := own_form HN.out.1
          subst e1
          go_wp2
          go_roundw
          case rel => exact ⟨k + 1, by omega, by omega, by go_num, ⟨_, _, rfl⟩, HN⟩
          case measure => simp [intOf]; omega
        · have h10i : ¬ (k : Int) < 10 := by omega
          obtain rfl : k = 10 := by omega
          go_wp2_with fail
          go_meet
          case rel => exact ⟨10, by omega, by omega, ⟨_, _, rfl⟩, HK⟩
      · have hltd : decide (k < l.length) = false := by simpa using hlt
        have hlti : ¬ (k : Int) < (l.length : Int) := by omega
        go_wp2_with fail
        go_meet
        case rel => exact ⟨k, by omega, by omega, ⟨_, _, rfl⟩, HK⟩
  case rest =>
    obtain ⟨k, hk, hk10, ⟨Al, cl, rfl⟩, HK⟩ := hcut
    obtain ⟨p, hp⟩ : ∃ p : Nat, Hid (at_ % ((k : Int) + 1) = (p : Int)) := ⟨(at_ % ((k : Int) + 1)).toNat, by
      have := Int.emod_nonneg at_ (show (k : Int) + 1 ≠ 0 by omega)
      show _ = _
      omega⟩
    have hpk : p ≤ k := by
      have := Int.emod_lt_of_pos at_ (show (0 : Int) < (k : Int) + 1 by omega)
      rw [hp.out] at this
      omega
    obtain ⟨q, hq⟩ : ∃ q, Hid (bad % 1099511627776 = q) := ⟨_, rfl⟩
    have q0 : 0 ≤ q := by have := hq.out; omega
    have q1 : q < 1099511627776 := by have := hq.out; omega
    have HP : Hid (∀ W, Calls Tryd.prog 19 #[.int .i64 at_, .int .i64 ((k : Int) + 1)] W fun e w' => e = .returned (.int .i64 (p : Int)) ∧ W = w') := fun W => by
      have := pick_any at_ ((k : Int) + 1) W (by omega) (by omega)
      rwa [hp.out] at this
    have HQ : Hid (∀ W, Calls Tryd.prog 19 #[.int .i64 bad, .int .i64 1099511627776] W fun e w' => e = .returned (.int .i64 q) ∧ W = w') := fun W => by
      have := pick_any bad 1099511627776 W (by decide) (by decide)
      rwa [hq.out] at this
    go_upto_if 49 with (first | (go_at_call 19; (with_reducible first | refine (HP.out _).mono ?_ | refine (HQ.out _).mono ?_); rintro e w' ⟨rfl, rfl⟩))
    go_cut [14] (fun v wx => ∃ y : Int, v = .int .i64 y ∧ Hid (wid y = 0) ∧ wx = wc)
    case first =>
      by_cases h2 : bad.tmod 2 = 0
      · have h2b : (bad.tmod 2 == 0) = true := by simpa using h2
        clear h2
        go_wp2_with (go_at_call 19; refine (HQ.out _).mono ?_; rintro e w' ⟨rfl, rfl⟩)
        go_meet
        case rel => exact ⟨_, rfl, (by show wid _ = 0; unfold wid; rw [if_pos (.inr (by omega))]), rfl⟩
      · have h2b : (bad.tmod 2 == 0) = false := by simpa using h2
        clear h2
        go_wp2_with fail
        go_meet
        case rel => exact ⟨_, rfl, (by show wid _ = 0; unfold wid; rw [if_pos (.inl (by omega))]), rfl⟩
    case rest =>
      obtain ⟨y, rfl, hy, rfl⟩ := hcut
      go_upto_region 10 with fail
      go_cut [15] (fun v wx => ∃ A2 c2, v = .slice A2 (p + 1 + (k - p)) c2 ∧ Hid (okA A2 (p + 1 + (k - p)) c2 ∧ Rd wx wx.heap.size A2 (p + 1 + (k - p)) (ints ((mays l k).take p) ++ ints [y] ++ ints ((mays l k).drop p)) ∧ Rd wx wx.heap.size Al k (ints (mays l k)) ∧ okA Al k cl ∧ Below w.heap.size w wx))
      case first =>
        have hf := HK.out.1.2
        have HSZ : Hid (w.heap.size ≤ wc.heap.size) := HK.out.2.size
        have ty : Hid (Tryd.prog.underlying 24 = some (.slice 3)) := Tryd.underlying24
        have HN0 : Hid (k ≤ cl ∧ okA Al k cl ∧ Rd wc wc.heap.size Al k (ints (mays l k))) := by
          obtain ⟨An, cn, en, h1, _, h2, h3⟩ := own_form HK.out.1
          simp only [Value.slice.injEq] at en
          obtain ⟨rfl, _, rfl⟩ := en
          exact ⟨h1, h2, h3⟩
        rcases hf with ⟨hv, hk0⟩ | ⟨g, cl', cur, hv, hg1, hg2, hg3, _⟩
        · simp only [Value.slice.injEq] at hv
          obtain ⟨rfl, rfl, rfl⟩ := hv
          obtain rfl : p = 0 := by omega
          clear hk0
          go_region_law (first
            | (refine step_own rfl (.tmp 53) (.tmp 56) 24 rfl wc.heap.size 3 i0 (.int .i64 0) 8 ty.out HI3.out.1 HI3.out.2.1 HI3.out.2.2.1 HI3.out.2.2.2 rfl (.slice (some ⟨wc.heap.size, 0, none⟩) 0 0) 0 [] (by simp [Act.eval, Act.put]) (((own_new wc #[] 3 0 wc.heap.size wc.heap.size rfl rfl (by unfold maxLen; omega) (Nat.le_refl _))).drew) wc.heap.size (none) 0 _ ([]) (by simp [Act.eval, Act.put]; rfl) ⟨rfl, fun h => absurd h (by omega)⟩ (fun u hu => by cases hu) (by unfold maxLen; omega) (by omega) (by first | (simp; done) | (simp; omega)) ?_; intro v1 w1 hown1 hgrow1; have HB1 : Hid (Below wc.heap.size wc w1) := (((Below.refl _ _).alloc (Nat.le_refl _) _).drew).grown hgrow1 (by first | (simp; done) | (simp; omega)) (fun j hj => by simp [Value.ownBlock] at hj; omega); have HY1 : Hid True := trivial; simp only [Nat.zero_add, List.nil_append] at hown1; have HO1 := Lib.hid hown1; clear hown1 hgrow1)
            | (refine step_own rfl (.tmp 53) (.tmp 56) 24 rfl wc.heap.size 3 i0 (.int .i64 0) 8 ty.out HI3.out.1 HI3.out.2.1 HI3.out.2.2.1 HI3.out.2.2.2 rfl (.slice (some ⟨wc.heap.size, 0, none⟩) 0 0) 0 [] (by simp [Act.eval, Act.put]) (((own_new wc #[] 3 0 wc.heap.size wc.heap.size rfl rfl (by unfold maxLen; omega) (Nat.le_refl _)).alloc _).drew) wc.heap.size (none) 0 _ ([]) (by simp [Act.eval, Act.put]; rfl) ⟨rfl, fun h => absurd h (by omega)⟩ (fun u hu => by cases hu) (by unfold maxLen; omega) (by omega) (by first | (simp; done) | (simp; omega)) ?_; intro v1 w1 hown1 hgrow1; have HB1 : Hid (Below wc.heap.size wc w1) := ((((Below.refl _ _).alloc (Nat.le_refl _) _).alloc (by simp) _).drew).grown hgrow1 (by first | (simp; done) | (simp; omega)) (fun j hj => by simp [Value.ownBlock] at hj; omega); have HY2 : Hid (w1.cell? ⟨wc.heap.size + 1, 0, none⟩ = some (.int .i64 y)) := hgrow1.cell (a := ⟨wc.heap.size + 1, 0, none⟩) (by simp) (by simp [Value.ownBlock]); simp only [Nat.zero_add, List.nil_append] at hown1; have HO1 := Lib.hid hown1; clear hown1 hgrow1)
            | (refine step_own rfl (.tmp 53) (.tmp 56) 24 rfl wc.heap.size 3 i0 (.int .i64 0) 8 ty.out HI3.out.1 HI3.out.2.1 HI3.out.2.2.1 HI3.out.2.2.2 rfl (.slice (some ⟨wc.heap.size + 1, 0, none⟩) 0 0) 0 [] (by simp [Act.eval, Act.put]) ((own_new (wc.alloc (.cells #[.int .i64 y] 3)) #[] 3 0 (wc.heap.size + 1) wc.heap.size (by simp) rfl (by unfold maxLen; omega) (by simp)).drew) wc.heap.size (none) 0 _ ([]) (by simp [Act.eval, Act.put]; rfl) ⟨rfl, fun h => absurd h (by omega)⟩ (fun u hu => by cases hu) (by unfold maxLen; omega) (by omega) (by first | (simp; done) | (simp; omega)) ?_; intro v1 w1 hown1 hgrow1; have HB1 : Hid (Below wc.heap.size wc w1) := ((((Below.refl _ _).alloc (Nat.le_refl _) _).alloc (by simp) _).drew).grown hgrow1 (by first | (simp; done) | (simp; omega)) (fun j hj => by simp [Value.ownBlock] at hj; omega); have HY3 : Hid (w1.cell? ⟨wc.heap.size, 0, none⟩ = some (.int .i64 y)) := hgrow1.cell (a := ⟨wc.heap.size, 0, none⟩) (by simp) (by simp [Value.ownBlock]); simp only [Nat.zero_add, List.nil_append] at hown1; have HO1 := Lib.hid hown1; clear hown1 hgrow1)
            | (refine step_own rfl (.tmp 57) (.tmp 59) 24 rfl wc.heap.size 3 i0 (.int .i64 0) 8 ty.out HI3.out.1 HI3.out.2.1 HI3.out.2.2.1 HI3.out.2.2.2 rfl v1 0 ([]) (by simp [Act.eval, Act.put]) (HO1.out.alloc _) (w1.heap.size + 1) (some ⟨w1.heap.size, 0, none⟩) 1 1 (ints [y]) (by simp [Act.eval, Act.put]) (rd_one _ _ _ (by simp)) (ones_ints _) (by unfold maxLen; omega) (by omega) (by have := HB1.out.size; (try simp only [World.size_alloc]); omega) ?_; intro v2 w2 hown2 hgrow2; have HB2 : Hid (Below wc.heap.size wc w2) := (HB1.out.alloc HB1.out.size _).grown hgrow2 (by have := HB1.out.size; (try simp only [World.size_alloc]); omega) (fun j hj => (HO1.out.lt j hj).1); have HO2 := Lib.hid hown2; clear hown2 hgrow2)
            | (refine step_own rfl (.tmp 57) (.tmp 59) 24 rfl wc.heap.size 3 i0 (.int .i64 0) 8 ty.out HI3.out.1 HI3.out.2.1 HI3.out.2.2.1 HI3.out.2.2.2 rfl v1 0 ([]) (by simp [Act.eval, Act.put]) HO1.out ((wc.heap.size + 1) + 1) (some ⟨(wc.heap.size + 1), 0, none⟩) 1 1 (ints [y]) (by simp [Act.eval, Act.put]) (rd_one _ _ _ (HY2.out)) (ones_ints _) (by unfold maxLen; omega) (by omega) (by have := HB1.out.size; (try simp only [World.size_alloc]); omega) ?_; intro v2 w2 hown2 hgrow2; have HB2 : Hid (Below wc.heap.size wc w2) := (HB1.out).grown hgrow2 (by have := HB1.out.size; (try simp only [World.size_alloc]); omega) (fun j hj => (HO1.out.lt j hj).1); have HO2 := Lib.hid hown2; clear hown2 hgrow2)
            | (refine step_own rfl (.tmp 57) (.tmp 59) 24 rfl wc.heap.size 3 i0 (.int .i64 0) 8 ty.out HI3.out.1 HI3.out.2.1 HI3.out.2.2.1 HI3.out.2.2.2 rfl v1 0 ([]) (by simp [Act.eval, Act.put]) HO1.out (wc.heap.size + 1) (some ⟨wc.heap.size, 0, none⟩) 1 1 (ints [y]) (by simp [Act.eval, Act.put]) (rd_one _ _ _ (HY3.out)) (ones_ints _) (by unfold maxLen; omega) (by omega) (by have := HB1.out.size; (try simp only [World.size_alloc]); omega) ?_; intro v2 w2 hown2 hgrow2; have HB2 : Hid (Below wc.heap.size wc w2) := (HB1.out).grown hgrow2 (by have := HB1.out.size; (try simp only [World.size_alloc]); omega) (fun j hj => (HO1.out.lt j hj).1); have HO2 := Lib.hid hown2; clear hown2 hgrow2)
            | (refine step_own rfl (.tmp 60) (.tmp 63) 24 rfl wc.heap.size 3 i0 (.int .i64 0) 8 ty.out HI3.out.1 HI3.out.2.1 HI3.out.2.2.1 HI3.out.2.2.2 rfl v2 (0 + 1) ([] ++ ints [y]) (by simp [Act.eval, Act.put]) HO2.out 0 (none) 0 _ [] (by simp [Act.eval, Act.put]; rfl) ⟨rfl, fun h => absurd h (by omega)⟩ (fun u hu => by cases hu) (by unfold maxLen; omega) (by omega) HB2.out.size ?_; intro v3 w3 hown3 hgrow3; have HB3 : Hid (Below wc.heap.size wc w3) := HB2.out.grown hgrow3 HB2.out.size (fun j hj => (HO2.out.lt j hj).1); obtain ⟨A3, c3, rfl, h31, _, h32, h33⟩ := own_form hown3; have HO3 := Lib.hid (And.intro h31 (And.intro h32 h33)); clear hown3 hgrow3 h31 h32 h33))
          all_goals
            go_wp2_with fail
            go_meet
            case rel => exact ⟨A3, c3, by simp, by simpa using HO3.out.2.1, by simpa [mays, ints] using HO3.out.2.2, HN0.out.2.2.below HB3.out (Nat.le_refl _) |>.more HB3.out.size, HN0.out.2.1, HK.out.2.trans (HB3.out.mono HSZ.out)⟩
        · simp only [Value.slice.injEq] at hv
          obtain ⟨rfl, _, rfl⟩ := hv
          have hpc : p ≤ cl := by omega
          have hml := mays_len l k hk
          have HR : Hid (Rd wc wc.heap.size (some ⟨g, 0, none⟩) k (ints (mays l k))) := Rd.of_own HK.out.1
          have hp10 : p ≤ 10 := by omega
          by_cases hclp : cl = p
          · subst hclp
            obtain rfl : k = cl := by omega
            have HB : Hid (∀ W, Below wc.heap.size wc W → Rd W wc.heap.size (some ⟨g, 0, none⟩) k (ints (mays l k))) := fun W hW => HR.out.below hW (Nat.le_refl _)
            clear hml hg3
            go_region_law (first
              | (refine step_own rfl (.tmp 53) (.tmp 56) 24 rfl wc.heap.size 3 i0 (.int .i64 0) 8 ty.out HI3.out.1 HI3.out.2.1 HI3.out.2.2.1 HI3.out.2.2.2 rfl (.slice (some ⟨wc.heap.size, 0, none⟩) 0 0) 0 [] (by simp [Act.eval, Act.put]) (((own_new wc #[] 3 0 wc.heap.size wc.heap.size rfl rfl (by unfold maxLen; omega) (Nat.le_refl _))).drew) wc.heap.size (some ⟨g, 0, none⟩) k _ (ints (mays l k)) (by simp [Act.eval, Act.put]; rfl) (HB.out _ (((Below.refl _ _).alloc (Nat.le_refl _) _).drew)) (ones_ints _) (by unfold maxLen; omega) (by omega) (by first | (simp; done) | (simp; omega)) ?_; intro v1 w1 hown1 hgrow1; have HB1 : Hid (Below wc.heap.size wc w1) := (((Below.refl _ _).alloc (Nat.le_refl _) _).drew).grown hgrow1 (by first | (simp; done) | (simp; omega)) (fun j hj => by simp [Value.ownBlock] at hj; omega); have HY1 : Hid True := trivial; simp only [Nat.zero_add, List.nil_append] at hown1; have HO1 := Lib.hid hown1; clear hown1 hgrow1)
              | (refine step_own rfl (.tmp 53) (.tmp 56) 24 rfl wc.heap.size 3 i0 (.int .i64 0) 8 ty.out HI3.out.1 HI3.out.2.1 HI3.out.2.2.1 HI3.out.2.2.2 rfl (.slice (some ⟨wc.heap.size, 0, none⟩) 0 0) 0 [] (by simp [Act.eval, Act.put]) (((own_new wc #[] 3 0 wc.heap.size wc.heap.size rfl rfl (by unfold maxLen; omega) (Nat.le_refl _)).alloc _).drew) wc.heap.size (some ⟨g, 0, none⟩) k _ (ints (mays l k)) (by simp [Act.eval, Act.put]; rfl) (HB.out _ ((((Below.refl _ _).alloc (Nat.le_refl _) _).alloc (by simp) _).drew)) (ones_ints _) (by unfold maxLen; omega) (by omega) (by first | (simp; done) | (simp; omega)) ?_; intro v1 w1 hown1 hgrow1; have HB1 : Hid (Below wc.heap.size wc w1) := ((((Below.refl _ _).alloc (Nat.le_refl _) _).alloc (by simp) _).drew).grown hgrow1 (by first | (simp; done) | (simp; omega)) (fun j hj => by simp [Value.ownBlock] at hj; omega); have HY2 : Hid (w1.cell? ⟨wc.heap.size + 1, 0, none⟩ = some (.int .i64 y)) := hgrow1.cell (a := ⟨wc.heap.size + 1, 0, none⟩) (by simp) (by simp [Value.ownBlock]); simp only [Nat.zero_add, List.nil_append] at hown1; have HO1 := Lib.hid hown1; clear hown1 hgrow1)
              | (refine step_own rfl (.tmp 53) (.tmp 56) 24 rfl wc.heap.size 3 i0 (.int .i64 0) 8 ty.out HI3.out.1 HI3.out.2.1 HI3.out.2.2.1 HI3.out.2.2.2 rfl (.slice (some ⟨wc.heap.size + 1, 0, none⟩) 0 0) 0 [] (by simp [Act.eval, Act.put]) ((own_new (wc.alloc (.cells #[.int .i64 y] 3)) #[] 3 0 (wc.heap.size + 1) wc.heap.size (by simp) rfl (by unfold maxLen; omega) (by simp)).drew) wc.heap.size (some ⟨g, 0, none⟩) k _ (ints (mays l k)) (by simp [Act.eval, Act.put]; rfl) (HB.out _ ((((Below.refl _ _).alloc (Nat.le_refl _) _).alloc (by simp) _).drew)) (ones_ints _) (by unfold maxLen; omega) (by omega) (by first | (simp; done) | (simp; omega)) ?_; intro v1 w1 hown1 hgrow1; have HB1 : Hid (Below wc.heap.size wc w1) := ((((Below.refl _ _).alloc (Nat.le_refl _) _).alloc (by simp) _).drew).grown hgrow1 (by first | (simp; done) | (simp; omega)) (fun j hj => by simp [Value.ownBlock] at hj; omega); have HY3 : Hid (w1.cell? ⟨wc.heap.size, 0, none⟩ = some (.int .i64 y)) := hgrow1.cell (a := ⟨wc.heap.size, 0, none⟩) (by simp) (by simp [Value.ownBlock]); simp only [Nat.zero_add, List.nil_append] at hown1; have HO1 := Lib.hid hown1; clear hown1 hgrow1)
              | (refine step_own rfl (.tmp 57) (.tmp 59) 24 rfl wc.heap.size 3 i0 (.int .i64 0) 8 ty.out HI3.out.1 HI3.out.2.1 HI3.out.2.2.1 HI3.out.2.2.2 rfl v1 k (ints (mays l k)) (by simp [Act.eval, Act.put]) (HO1.out.alloc _) (w1.heap.size + 1) (some ⟨w1.heap.size, 0, none⟩) 1 1 (ints [y]) (by simp [Act.eval, Act.put]) (rd_one _ _ _ (by simp)) (ones_ints _) (by unfold maxLen; omega) (by omega) (by have := HB1.out.size; (try simp only [World.size_alloc]); omega) ?_; intro v2 w2 hown2 hgrow2; have HB2 : Hid (Below wc.heap.size wc w2) := (HB1.out.alloc HB1.out.size _).grown hgrow2 (by have := HB1.out.size; (try simp only [World.size_alloc]); omega) (fun j hj => (HO1.out.lt j hj).1); have HO2 := Lib.hid hown2; clear hown2 hgrow2)
              | (refine step_own rfl (.tmp 57) (.tmp 59) 24 rfl wc.heap.size 3 i0 (.int .i64 0) 8 ty.out HI3.out.1 HI3.out.2.1 HI3.out.2.2.1 HI3.out.2.2.2 rfl v1 k (ints (mays l k)) (by simp [Act.eval, Act.put]) HO1.out ((wc.heap.size + 1) + 1) (some ⟨(wc.heap.size + 1), 0, none⟩) 1 1 (ints [y]) (by simp [Act.eval, Act.put]) (rd_one _ _ _ (HY2.out)) (ones_ints _) (by unfold maxLen; omega) (by omega) (by have := HB1.out.size; (try simp only [World.size_alloc]); omega) ?_; intro v2 w2 hown2 hgrow2; have HB2 : Hid (Below wc.heap.size wc w2) := (HB1.out).grown hgrow2 (by have := HB1.out.size; (try simp only [World.size_alloc]); omega) (fun j hj => (HO1.out.lt j hj).1); have HO2 := Lib.hid hown2; clear hown2 hgrow2)
              | (refine step_own rfl (.tmp 57) (.tmp 59) 24 rfl wc.heap.size 3 i0 (.int .i64 0) 8 ty.out HI3.out.1 HI3.out.2.1 HI3.out.2.2.1 HI3.out.2.2.2 rfl v1 k (ints (mays l k)) (by simp [Act.eval, Act.put]) HO1.out (wc.heap.size + 1) (some ⟨wc.heap.size, 0, none⟩) 1 1 (ints [y]) (by simp [Act.eval, Act.put]) (rd_one _ _ _ (HY3.out)) (ones_ints _) (by unfold maxLen; omega) (by omega) (by have := HB1.out.size; (try simp only [World.size_alloc]); omega) ?_; intro v2 w2 hown2 hgrow2; have HB2 : Hid (Below wc.heap.size wc w2) := (HB1.out).grown hgrow2 (by have := HB1.out.size; (try simp only [World.size_alloc]); omega) (fun j hj => (HO1.out.lt j hj).1); have HO2 := Lib.hid hown2; clear hown2 hgrow2)
              | (refine step_own rfl (.tmp 60) (.tmp 63) 24 rfl wc.heap.size 3 i0 (.int .i64 0) 8 ty.out HI3.out.1 HI3.out.2.1 HI3.out.2.2.1 HI3.out.2.2.2 rfl v2 (k + 1) (ints (mays l k) ++ ints [y]) (by simp [Act.eval, Act.put]) HO2.out 0 (some ⟨g, 0, none⟩) 0 _ [] (by simp [Act.eval, Act.put]; rfl) ⟨rfl, fun h => absurd h (by omega)⟩ (fun u hu => by cases hu) (by unfold maxLen; omega) (by omega) HB2.out.size ?_; intro v3 w3 hown3 hgrow3; have HB3 : Hid (Below wc.heap.size wc w3) := HB2.out.grown hgrow3 HB2.out.size (fun j hj => (HO2.out.lt j hj).1); obtain ⟨A3, c3, rfl, h31, _, h32, h33⟩ := own_form hown3; have HO3 := Lib.hid (And.intro h31 (And.intro h32 h33)); clear hown3 hgrow3 h31 h32 h33))
            all_goals
              go_wp2_with fail
              go_meet
              case rel => exact ⟨A3, c3, by simp, by simpa using HO3.out.2.1, by simpa [List.take_of_length_le, List.drop_eq_nil_of_le, mays_len, hk, ints] using HO3.out.2.2, HN0.out.2.2.below HB3.out (Nat.le_refl _) |>.more HB3.out.size, HN0.out.2.1, HK.out.2.trans (HB3.out.mono HSZ.out)⟩
          · have HB : Hid (∀ W, Below wc.heap.size wc W → Rd W wc.heap.size (some ⟨g, 0, none⟩) p (ints ((mays l k).take p))) := fun W hW => by
              have := (HR.out.head p hpk).below hW (Nat.le_refl _)
              rwa [ints_take] at this
            have HC : Hid (∀ W, Below wc.heap.size wc W → Rd W wc.heap.size (some ⟨g, p, none⟩) (k - p) (ints ((mays l k).drop p))) := fun W hW => by
              have := (HR.out.tail p hpk).below hW (Nat.le_refl _)
              rwa [ints_drop, Nat.zero_add] at this
            clear hml hg3
            go_region_law (first
              | (refine step_own rfl (.tmp 53) (.tmp 56) 24 rfl wc.heap.size 3 i0 (.int .i64 0) 8 ty.out HI3.out.1 HI3.out.2.1 HI3.out.2.2.1 HI3.out.2.2.2 rfl (.slice (some ⟨wc.heap.size, 0, none⟩) 0 0) 0 [] (by simp [Act.eval, Act.put]) (((own_new wc #[] 3 0 wc.heap.size wc.heap.size rfl rfl (by unfold maxLen; omega) (Nat.le_refl _))).drew) wc.heap.size (some ⟨g, 0, none⟩) p cl (ints ((mays l k).take p)) (by simp [Act.eval, Act.put]) (HB.out _ (((Below.refl _ _).alloc (Nat.le_refl _) _).drew)) (ones_ints _) (by unfold maxLen; omega) (by omega) (by first | (simp; done) | (simp; omega)) ?_; intro v1 w1 hown1 hgrow1; have HB1 : Hid (Below wc.heap.size wc w1) := (((Below.refl _ _).alloc (Nat.le_refl _) _).drew).grown hgrow1 (by first | (simp; done) | (simp; omega)) (fun j hj => by simp [Value.ownBlock] at hj; omega); have HY1 : Hid True := trivial; simp only [Nat.zero_add, List.nil_append] at hown1; have HO1 := Lib.hid hown1; clear hown1 hgrow1)
              | (refine step_own rfl (.tmp 53) (.tmp 56) 24 rfl wc.heap.size 3 i0 (.int .i64 0) 8 ty.out HI3.out.1 HI3.out.2.1 HI3.out.2.2.1 HI3.out.2.2.2 rfl (.slice (some ⟨wc.heap.size, 0, none⟩) 0 0) 0 [] (by simp [Act.eval, Act.put]) (((own_new wc #[] 3 0 wc.heap.size wc.heap.size rfl rfl (by unfold maxLen; omega) (Nat.le_refl _)).alloc _).drew) wc.heap.size (some ⟨g, 0, none⟩) p cl (ints ((mays l k).take p)) (by simp [Act.eval, Act.put]) (HB.out _ ((((Below.refl _ _).alloc (Nat.le_refl _) _).alloc (by simp) _).drew)) (ones_ints _) (by unfold maxLen; omega) (by omega) (by first | (simp; done) | (simp; omega)) ?_; intro v1 w1 hown1 hgrow1; have HB1 : Hid (Below wc.heap.size wc w1) := ((((Below.refl _ _).alloc (Nat.le_refl _) _).alloc (by simp) _).drew).grown hgrow1 (by first | (simp; done) | (simp; omega)) (fun j hj => by simp [Value.ownBlock] at hj; omega); have HY2 : Hid (w1.cell? ⟨wc.heap.size + 1, 0, none⟩ = some (.int .i64 y)) := hgrow1.cell (a := ⟨wc.heap.size + 1, 0, none⟩) (by simp) (by simp [Value.ownBlock]); simp only [Nat.zero_add, List.nil_append] at hown1; have HO1 := Lib.hid hown1; clear hown1 hgrow1)
              | (refine step_own rfl (.tmp 53) (.tmp 56) 24 rfl wc.heap.size 3 i0 (.int .i64 0) 8 ty.out HI3.out.1 HI3.out.2.1 HI3.out.2.2.1 HI3.out.2.2.2 rfl (.slice (some ⟨wc.heap.size + 1, 0, none⟩) 0 0) 0 [] (by simp [Act.eval, Act.put]) ((own_new (wc.alloc (.cells #[.int .i64 y] 3)) #[] 3 0 (wc.heap.size + 1) wc.heap.size (by simp) rfl (by unfold maxLen; omega) (by simp)).drew) wc.heap.size (some ⟨g, 0, none⟩) p cl (ints ((mays l k).take p)) (by simp [Act.eval, Act.put]) (HB.out _ ((((Below.refl _ _).alloc (Nat.le_refl _) _).alloc (by simp) _).drew)) (ones_ints _) (by unfold maxLen; omega) (by omega) (by first | (simp; done) | (simp; omega)) ?_; intro v1 w1 hown1 hgrow1; have HB1 : Hid (Below wc.heap.size wc w1) := ((((Below.refl _ _).alloc (Nat.le_refl _) _).alloc (by simp) _).drew).grown hgrow1 (by first | (simp; done) | (simp; omega)) (fun j hj => by simp [Value.ownBlock] at hj; omega); have HY3 : Hid (w1.cell? ⟨wc.heap.size, 0, none⟩ = some (.int .i64 y)) := hgrow1.cell (a := ⟨wc.heap.size, 0, none⟩) (by simp) (by simp [Value.ownBlock]); simp only [Nat.zero_add, List.nil_append] at hown1; have HO1 := Lib.hid hown1; clear hown1 hgrow1)
              | (refine step_own rfl (.tmp 57) (.tmp 59) 24 rfl wc.heap.size 3 i0 (.int .i64 0) 8 ty.out HI3.out.1 HI3.out.2.1 HI3.out.2.2.1 HI3.out.2.2.2 rfl v1 p (ints ((mays l k).take p)) (by simp [Act.eval, Act.put]) (HO1.out.alloc _) (w1.heap.size + 1) (some ⟨w1.heap.size, 0, none⟩) 1 1 (ints [y]) (by simp [Act.eval, Act.put]) (rd_one _ _ _ (by simp)) (ones_ints _) (by unfold maxLen; omega) (by omega) (by have := HB1.out.size; (try simp only [World.size_alloc]); omega) ?_; intro v2 w2 hown2 hgrow2; have HB2 : Hid (Below wc.heap.size wc w2) := (HB1.out.alloc HB1.out.size _).grown hgrow2 (by have := HB1.out.size; (try simp only [World.size_alloc]); omega) (fun j hj => (HO1.out.lt j hj).1); have HO2 := Lib.hid hown2; clear hown2 hgrow2)
              | (refine step_own rfl (.tmp 57) (.tmp 59) 24 rfl wc.heap.size 3 i0 (.int .i64 0) 8 ty.out HI3.out.1 HI3.out.2.1 HI3.out.2.2.1 HI3.out.2.2.2 rfl v1 p (ints ((mays l k).take p)) (by simp [Act.eval, Act.put]) HO1.out ((wc.heap.size + 1) + 1) (some ⟨(wc.heap.size + 1), 0, none⟩) 1 1 (ints [y]) (by simp [Act.eval, Act.put]) (rd_one _ _ _ (HY2.out)) (ones_ints _) (by unfold maxLen; omega) (by omega) (by have := HB1.out.size; (try simp only [World.size_alloc]); omega) ?_; intro v2 w2 hown2 hgrow2; have HB2 : Hid (Below wc.heap.size wc w2) := (HB1.out).grown hgrow2 (by have := HB1.out.size; (try simp only [World.size_alloc]); omega) (fun j hj => (HO1.out.lt j hj).1); have HO2 := Lib.hid hown2; clear hown2 hgrow2)
              | (refine step_own rfl (.tmp 57) (.tmp 59) 24 rfl wc.heap.size 3 i0 (.int .i64 0) 8 ty.out HI3.out.1 HI3.out.2.1 HI3.out.2.2.1 HI3.out.2.2.2 rfl v1 p (ints ((mays l k).take p)) (by simp [Act.eval, Act.put]) HO1.out (wc.heap.size + 1) (some ⟨wc.heap.size, 0, none⟩) 1 1 (ints [y]) (by simp [Act.eval, Act.put]) (rd_one _ _ _ (HY3.out)) (ones_ints _) (by unfold maxLen; omega) (by omega) (by have := HB1.out.size; (try simp only [World.size_alloc]); omega) ?_; intro v2 w2 hown2 hgrow2; have HB2 : Hid (Below wc.heap.size wc w2) := (HB1.out).grown hgrow2 (by have := HB1.out.size; (try simp only [World.size_alloc]); omega) (fun j hj => (HO1.out.lt j hj).1); have HO2 := Lib.hid hown2; clear hown2 hgrow2)
              | (refine step_own rfl (.tmp 60) (.tmp 63) 24 rfl wc.heap.size 3 i0 (.int .i64 0) 8 ty.out HI3.out.1 HI3.out.2.1 HI3.out.2.2.1 HI3.out.2.2.2 rfl v2 (p + 1) (ints ((mays l k).take p) ++ ints [y]) (by simp [Act.eval, Act.put]) HO2.out wc.heap.size (some ⟨g, p, none⟩) (k - p) _ (ints ((mays l k).drop p)) (by simp [Act.eval, Act.put]; rfl) (HC.out _ HB2.out) (ones_ints _) (by unfold maxLen; omega) (by omega) HB2.out.size ?_; intro v3 w3 hown3 hgrow3; have HB3 : Hid (Below wc.heap.size wc w3) := HB2.out.grown hgrow3 HB2.out.size (fun j hj => (HO2.out.lt j hj).1); obtain ⟨A3, c3, rfl, h31, _, h32, h33⟩ := own_form hown3; have HO3 := Lib.hid (And.intro h31 (And.intro h32 h33)); clear hown3 hgrow3 h31 h32 h33))
            all_goals
              go_wp2_with fail
              go_meet
              case rel => exact ⟨_, _, rfl, HO3.out.2.1, HO3.out.2.2, HN0.out.2.2.below HB3.out (Nat.le_refl _) |>.more HB3.out.size, HN0.out.2.1, HK.out.2.trans (HB3.out.mono HSZ.out)⟩
      case rest =>
        obtain ⟨A2, c2, rfl, H15⟩ := hcut
        have HW : Hid (Below w.heap.size w wc) := H15.out.2.2.2.2
        have hml := mays_len l k hk
        have hsl := sumW_le (mays l k)
        rw [hml] at hsl
        have HT : Hid (Tabs wc) := (tabs_of HLd.out).below HW.out (tabs_of HLd.out).lt
        have HPut := put_ok none 0 0 [] 0 (mays l k) wc.heap.size Al cl wc HT.out ⟨rfl, fun h => by omega⟩ (Nat.zero_le _) (fun u hu => by cases hu) (by rw [hml]; exact H15.out.2.2.1) (Nat.le_refl _) (by rw [hml]; exact H15.out.2.2.2.1) (by rw [hml]; omega) (mays_all l k) (by omega)
        rw [hml, encs_bv, List.nil_append, Nat.zero_add] at HPut
        have HPut := Lib.hid HPut
        obtain ⟨r, hr⟩ : ∃ r : Nat, Hid (count % 4 = (r : Int)) := ⟨(count % 4).toNat, by show _ = _; omega⟩
        have hr4 : r < 4 := by have := hr.out; omega
        have HPk : Hid (∀ W, Calls Tryd.prog 19 #[.int .i64 count, .int .i64 4] W fun e w' => e = .returned (.int .i64 (r : Int)) ∧ W = w') := fun W => by
          have := pick_any count 4 W (by decide) (by decide)
          rwa [hr.out] at this
        have eM : ints ((mays l k).take p) ++ ints [y] ++ ints ((mays l k).drop p) = ints ((mays l k).take p ++ [y] ++ (mays l k).drop p) := by simp [ints]
        have lM : ((mays l k).take p ++ [y] ++ (mays l k).drop p).length = p + 1 + (k - p) := by
          simp only [List.length_append, List.length_take, List.length_drop, List.length_cons, List.length_nil, hml]; omega
        have nM : ¬ allMay ((mays l k).take p ++ [y] ++ (mays l k).drop p) := fun h => h y (by simp) hy.out
        obtain ⟨M, hM⟩ : ∃ M, Hid ((mays l k).take p ++ [y] ++ (mays l k).drop p = M) := ⟨_, rfl⟩
        rw [hM.out] at eM lM nM
        have HRM : Hid (∀ W, Below wc.heap.size wc W → Rd W wc.heap.size A2 M.length (ints M)) := fun W hW => by
          have := H15.out.2.1.below hW (Nat.le_refl _)
          rw [eM, ← lM] at this
          exact this
        have HSz : Hid (∀ W, Below wc.heap.size wc W → Calls Tryd.prog 13 #[.slice A2 (p + 1 + (k - p)) c2] W fun e w' => e = .returned (.int .i64 (-1)) ∧ W = w') := fun W hW => by
          have := size_any M wc.heap.size A2 c2 W (by rw [lM]; exact H15.out.1) (HRM.out W hW) (by rw [lM]; omega)
          rwa [if_neg nM, lM] at this
        have HPn : Hid (∀ W, Below wc.heap.size wc W → Calls Tryd.prog 9 #[.slice A4 bs.length cap4, .slice A2 (p + 1 + (k - p)) c2] W fun e w' => e = .returned (.slice none 0 0) ∧ W = w') := fun W hW => by
          have := put_no A4 bs.length cap4 M wc.heap.size A2 c2 W (HRM.out W hW) (by rw [lM]; exact H15.out.1) (by rw [lM]; omega) nM
          rwa [lM] at this
        clear eM lM nM hml
        go_wp2_with fail
        refine HPut.out.mono ?_; rintro e w1 ⟨v1, rfl, ho, hb⟩
        have HB1 := Lib.hid hb
        obtain ⟨A5, c5, rfl, h51, h52, h53, h54⟩ := own_form ho
        have HO := Lib.hid (And.intro h51 (And.intro h53 h54))
        clear ho hb h51 h52 h53 h54
        go_wp2_with fail
        refine (HPk.out _).mono ?_; rintro e w' ⟨rfl, rfl⟩
        have HTk : Hid (Calls Tryd.prog 10 #[.slice A5 (sumW (mays l k)) c5, .int .i64 ((k : Int) + 1 + (r : Int))] w1 fun e w' => e = .returned (.tuple #[.slice none 0 0, .slice none 0 0, .int .i64 3]) ∧ Below w1.heap.size w1 w') := by
          have e1 := encsB_len (mays l k)
          have h := takes_no (encsB (mays l k)) A5 c5 (k + 1 + r) w1 (by omega) (by have := decs_more r (mays l k) (mays_all l k); rwa [mays_len l k hk] at this) (by omega) (by rw [e1]; exact HO.out.2.2) (encsB_lt _) (by rw [e1]; exact HO.out.1) (by rw [e1]; omega)
          rw [e1, show (((k + 1 + r : Nat)) : Int) = (k : Int) + 1 + (r : Int) by omega] at h
          exact h
        go_wp2_with fail
        refine HTk.out.mono ?_; rintro e w2 ⟨rfl, hb2⟩
        have HB2 : Hid (Below wc.heap.size wc w2) := HB1.out.trans (hb2.mono HB1.out.size)
        clear hb2
        go_wp2_with fail
        refine (known_any HLd.out (HW.out.trans (HB2.out.mono HW.out.size))).mono ?_; rintro e w3 ⟨rfl, hb3⟩
        have HB3 : Hid (Below wc.heap.size wc w3) := HB2.out.trans (hb3.mono HB2.out.size)
        clear hb3
        go_wp2_with fail
        refine (HSz.out _ HB3.out).mono ?_; rintro e w' ⟨rfl, rfl⟩
        go_wp2_with fail
        refine (HPn.out _ HB3.out).mono ?_; rintro e w' ⟨rfl, rfl⟩
        go_wp2
        go_ret
        exact ⟨rfl, HW.out.trans (HB3.out.mono HW.out.size)⟩
theorem walk' (A0 : Option Addr) (c0 : Nat) (l0 : List Int) (a1 a2 a3 : Int) (A4 : Option Addr) (c4 : Nat) (l4 : List Nat) (W : World) (hL : laidMetH Tryd.prog laids W) (w0 : IsInts W A0 c0 l0) (_ : -9223372036854775808 ≤ a1) (_ : a1 ≤ 9223372036854775807)
    (_ : -9223372036854775808 ≤ a2) (_ : a2 ≤ 9223372036854775807) (_ : -9223372036854775808 ≤ a3) (_ : a3 ≤ 9223372036854775807) (w4 : IsBytes W A4 c4 l4) :
    Calls Tryd.prog 8 #[.slice A0 l0.length c0, .int .i64 a1, .int .i64 a2, .int .i64 a3, .slice A4 l4.length c4] W fun e w' => e = .returned (.bool true) ∧ Below W.heap.size W w' :=
  walk l0 A0 c0 a1 a2 a3 l4 A4 c4 W hL w0 w4
end Go.Proofs.YtmdmkjkdfagcfaaDoor.None_
