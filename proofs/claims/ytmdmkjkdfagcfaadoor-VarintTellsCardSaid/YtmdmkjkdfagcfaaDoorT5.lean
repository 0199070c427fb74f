/- The reference's Take and Takes; both Takes alike. Conditions: as each theorem lists them. -/
import Derived.Test.YtmdmkjkdfagcfaaDoorT4
namespace Go.Proofs.YtmdmkjkdfagcfaaDoor
open Go Go.RowKit

/-- What a Take tells. -/
def TakeP (bs : List Nat) (w : World) (e : Ending) (w' : World) : Prop :=
  (dec bs = none ∧ e = .returned (.tuple #[.int .i64 0, .slice none 0 0, .int .i64 3]) ∧ Below w.heap.size w w') ∨
  ∃ v W v', dec bs = some (v, W) ∧ e = .returned (.tuple #[.int .i64 ((v : Nat) : Int), v', .int .i64 0]) ∧ w'.ownsRow w.heap.size 5 1 v' (bs.length - W) (bv (bs.drop W)) ∧ Below w.heap.size w w'

theorem rtake_any (bs : List Nat) (B : Nat) (A : Option Addr) (cap : Nat) (w : World) (hx : Rd w B A bs.length (bv bs)) (hB : B ≤ w.heap.size) (hb : ∀ c ∈ bs, c < 256) (hn : bs.length ≤ cap) (hm : bs.length ≤ 140737488355328) :
    Calls Tryd.prog 20 #[.slice A bs.length cap] w fun e w' => TakeP bs w e w' := by
  have none_of : dec bs = none → ∀ e w', (e = Ending.returned (.tuple #[.int .i64 0, .slice none 0 0, .int .i64 3]) ∧ w = w') → TakeP bs w e w' := fun hd e w' h => by
    obtain ⟨rfl, rfl⟩ := h
    exact .inl ⟨hd, rfl, Below.refl _ _⟩
  match bs, hx, hb, hn, hm, none_of with
  | [], hx, hb, hn, hm, none_of => exact (rtake_nil A cap w).mono fun e w' h => none_of rfl e w' h
  | b0 :: r, hx, hb, hn, hm, none_of =>
    obtain ⟨b, off, rfl, hlt, hc⟩ := hx.2 (by simp)
    have hb0 := hb b0 (by simp)
    have h0 : w.cell? ⟨b, off, none⟩ = some (.int .u8 (b0 : Int)) := hc 0 _ rfl
    have hc' : ∀ j, j < (r.take (lenF b0 - 1)).length → w.cell? ⟨b, off + (j + 1), none⟩ = some (.int .u8 (((r.take (lenF b0 - 1)).getD j 0 : Nat) : Int)) := fun j hj => by
      have hj2 : j < r.length := by rw [List.length_take] at hj; omega
      have := hc (j + 1) (.int .u8 ((r[j] : Nat) : Int)) (by simp [bv, hj2])
      rw [this]
      simp only [List.getD, List.getElem?_take]
      rw [List.length_take] at hj
      rw [if_pos (by omega), List.getElem?_eq_getElem hj2]
      rfl
    have hbr : ∀ c ∈ r.take (lenF b0 - 1), c < 256 := fun c hc => hb c (by simp [List.mem_of_mem_take hc])
    by_cases hl : r.length + 1 < lenF b0
    · have hd : dec (b0 :: r) = none := by simp only [dec]; rw [if_pos hl]
      rcases lenF_cases b0 hb0 with ⟨hq, hw⟩ | ⟨hq, hw⟩ | ⟨hq, hw⟩ | ⟨hq, hw⟩
      · omega
      · exact (rtake_less2 b off _ cap b0 w (by simp; omega) (by simp) hq h0).mono fun e w' h => none_of hd e w' h
      · exact (rtake_less4 b off _ cap b0 w (by simp; omega) (by simp) hq h0).mono fun e w' h => none_of hd e w' h
      · exact (rtake_less8 b off _ cap b0 w (by simp; omega) (by simp) hq h0).mono fun e w' h => none_of hd e w' h
    · have hd : dec (b0 :: r) = some (valF b0 (r.take (lenF b0 - 1)), lenF b0) := by simp only [dec]; rw [if_neg hl]
      have hlen : (r.take (lenF b0 - 1)).length = lenF b0 - 1 := by rw [List.length_take]; omega
      have htl : ∀ k, k ≤ (b0 :: r).length → Rd w B (some ⟨b, off + k, none⟩) ((b0 :: r).length - k) (bv ((b0 :: r).drop k)) := fun k hk => by
        have := hx.tail k hk
        rwa [← bv_drop] at this
      have fin : ∀ e w', (∃ v', e = Ending.returned (.tuple #[.int .i64 ((valF b0 (r.take (lenF b0 - 1)) : Nat) : Int), v', .int .i64 0]) ∧ w'.ownsRow w.heap.size 5 1 v' ((b0 :: r).length - lenF b0) (bv ((b0 :: r).drop (lenF b0))) ∧ Below w.heap.size w w') → TakeP (b0 :: r) w e w' := fun e w' h => by
        obtain ⟨v', rfl, h1, h2⟩ := h
        exact .inr ⟨_, _, v', hd, rfl, h1, h2⟩
      have hle : lenF b0 ≤ (b0 :: r).length := by simp; omega
      rcases lenF_cases b0 hb0 with ⟨hq, hw⟩ | ⟨hq, hw⟩ | ⟨hq, hw⟩ | ⟨hq, hw⟩
      · rw [hw] at hc' hbr hlen fin hle
        exact (rtake_q0 b off _ cap b0 B _ _ w hn hle hlen hb0 hq hbr hm hB h0 hc' (htl 1 hle) (ones_bv _)).mono fin
      · rw [hw] at hc' hbr hlen fin hle
        exact (rtake_q1 b off _ cap b0 B _ _ w hn hle hlen hb0 hq hbr hm hB h0 hc' (htl 2 hle) (ones_bv _)).mono fin
      · rw [hw] at hc' hbr hlen fin hle
        exact (rtake_q2 b off _ cap b0 B _ _ w hn hle hlen hb0 hq hbr hm hB h0 hc' (htl 4 hle) (ones_bv _)).mono fin
      · rw [hw] at hc' hbr hlen fin hle
        exact (rtake_q3 b off _ cap b0 B _ _ w hn hle hlen hb0 hq hbr hm hB h0 hc' (htl 8 hle) (ones_bv _)).mono fin

theorem vtake_any (bs : List Nat) (B : Nat) (A : Option Addr) (cap : Nat) (w : World) (hx : Rd w B A bs.length (bv bs)) (hB : B ≤ w.heap.size) (hb : ∀ c ∈ bs, c < 256) (hn : bs.length ≤ cap) (hm : bs.length ≤ 140737488355328) :
    Calls Tryd.prog 11 #[.slice A bs.length cap] w fun e w' => TakeP bs w e w' := by
  rcases hd : dec bs with _ | ⟨v, W⟩
  · refine (take_none bs B A cap w hx hb hn hm hd).mono ?_
    rintro e w' ⟨rfl, rfl⟩
    exact .inl ⟨hd, rfl, Below.refl _ _⟩
  · refine (take_some bs B A cap w hx hB hb hn hm v W hd).mono ?_
    rintro e w' ⟨v', rfl, h1, h2⟩
    exact .inr ⟨v, W, v', hd, rfl, h1, h2⟩

/-- What a Takes tells. -/
def TakesP (bs : List Nat) (count : Int) (w : World) (e : Ending) (w' : World) : Prop :=
  (decs count.toNat bs = none ∧ e = .returned (.tuple #[.slice none 0 0, .slice none 0 0, .int .i64 3]) ∧ Below w.heap.size w w') ∨
  ∃ l r v v', decs count.toNat bs = some (l, r) ∧ e = .returned (.tuple #[v, v', .int .i64 0]) ∧ w'.ownsRow w.heap.size 3 1 v l.length (l.map fun x : Nat => Value.int .i64 (x : Int)) ∧ w'.ownsRow w.heap.size 5 1 v' r.length (bv r) ∧ Below w.heap.size w w'

theorem vtakes_any (bs : List Nat) (A : Option Addr) (cap : Nat) (count : Int) (w : World) (hc : count ≤ 1000) (hx : Rd w w.heap.size A bs.length (bv bs)) (hb : ∀ c ∈ bs, c < 256) (hn : bs.length ≤ cap) (hm : bs.length ≤ 140737488355328) :
    Calls Tryd.prog 10 #[.slice A bs.length cap, .int .i64 count] w fun e w' => TakesP bs count w e w' := by
  by_cases h0 : count ≤ 0
  · refine (takes_zero bs A cap count w h0 hx hm).mono ?_
    rintro e w' ⟨v', rfl, h1, h2⟩
    exact .inr ⟨[], bs, _, v', by rw [Int.toNat_of_nonpos h0]; rfl, rfl, ⟨rfl, .inl ⟨rfl, rfl⟩⟩, h1, h2⟩
  · obtain ⟨c, rfl⟩ : ∃ c : Nat, count = c := ⟨count.toNat, by omega⟩
    rcases hd : decs c bs with _ | ⟨l, r⟩
    · refine (takes_no bs A cap c w (by omega) hd (by omega) hx hb hn hm).mono ?_
      rintro e w' ⟨rfl, h⟩
      exact .inl ⟨hd, rfl, h⟩
    · refine (takes_yes bs A cap c l r w hd (by omega) hx hb hn hm).mono ?_
      rintro e w' ⟨v, v', rfl, h1, h2, h3⟩
      exact .inr ⟨l, r, v, v', hd, rfl, h1, h2, h3⟩

/-- The list so far, what is left, as the loop of the reference's Takes has them in memory. -/
def RkH (w wr : World) (bs : List Nat) (count : Nat) (done left : List Nat) (k : Nat) (A : Option Addr) (c : Nat) (v : Value) : Prop :=
  wr.ownsRow w.heap.size 3 1 v done.length (done.map fun x : Nat => Value.int .i64 (x : Int)) ∧ Below w.heap.size w wr ∧ TkR bs count done left k ∧ wr.ownsRow w.heap.size 5 1 (.slice A left.length c) left.length (bv left) ∧ left.length ≤ bs.length

set_option maxHeartbeats 4000000 in
theorem rtakes_any (bs : List Nat) (B : Nat) (A : Option Addr) (cap : Nat) (count : Int) (w : World) (hc : count ≤ 1000) (hx : Rd w B A bs.length (bv bs)) (hB : B ≤ w.heap.size) (hb : ∀ c ∈ bs, c < 256) (hn : bs.length ≤ cap) (hm : bs.length ≤ 1000) :
    Calls Tryd.prog 21 #[.slice A bs.length cap, .int .i64 count] w fun e w' => TakesP bs count w e w' := by
  have HX := Lib.hid hx
  have HBt := Lib.hid hb
  obtain ⟨i0, hi, hz0, hz1, hz2⟩ := info_parts info3
  have HI := Lib.hid (And.intro hi (And.intro hz0 (And.intro hz1 hz2)))
  obtain ⟨i5, hi5, hy0, hy1, hy2⟩ := info_parts info5
  have HI5 := Lib.hid (And.intro hi5 (And.intro hy0 (And.intro hy1 hy2)))
  obtain ⟨K, hK⟩ : ∃ K, Hid (count.toNat = K) := ⟨_, rfl⟩
  have hKc : (0 ≤ count → (K : Int) = count) ∧ (count < 0 → K = 0) := by have := hK.out; omega
  have hK1000 : K ≤ 1000 := by have := hK.out; omega
  clear hx hb hi hz0 hz1 hz2 hi5 hy0 hy1 hy2
  go_enter Tryd.func21, Tryd.ntmps21
  go_wp2_with (at_builtin; refine wpList_app _ rfl _ _ 22 rfl w.heap.size 5 i5 (.int .u8 0) 1 Tryd.underlying22 HI5.out.1 HI5.out.2.1 HI5.out.2.2.1 HI5.out.2.2.2 rfl (.slice (some ⟨w.heap.size, 0, none⟩) 0 0) 0 [] rfl (own_new w #[] 5 0 w.heap.size w.heap.size rfl rfl (by unfold maxLen; omega) (Nat.le_refl _)) B A bs.length cap (bv bs) rfl (HX.out.below ((Below.refl _ _).alloc (Nat.le_refl _) _) hB) (ones_bv _) (by unfold maxLen; omega) (by omega) (by simp) ?_)
  intro v1 w1 hown1 hgrow1
  have HB1 : Hid (Below w.heap.size w w1) := ((Below.refl _ _).alloc (Nat.le_refl _) _).grown hgrow1 (by simp) (fun j hj => by simp [Value.ownBlock] at hj; omega)
  try simp only [Nat.zero_add, List.nil_append] at hown1
  obtain ⟨A1, c1, e1, _⟩ := own_form hown1
  subst e1
  have HO := Lib.hid hown1
  clear hown1 hgrow1
  go_wp2_with fail
  go_loopw [7, 8, 9] (fun v s i wr => ∃ done left j A' c', j ≤ K ∧ i = .int .i64 (j : Nat) ∧ s = .slice A' left.length c' ∧ (∃ Al cl, v = .slice Al done.length cl) ∧ done.length = j ∧ left.length ≤ bs.length ∧ Hid (RkH w wr bs K done left (K - j) A' c' v)) (fun _ _ i _ => K - (intOf i).toNat)
  case atStart => exact ⟨[], bs, 0, A1, c1, Nat.zero_le _, rfl, rfl, ⟨_, _, rfl⟩, rfl, Nat.le_refl _, ⟨rfl, .inl ⟨rfl, rfl⟩⟩, HB1.out, TkR.start bs K HBt.out, HO.out, Nat.le_refl _⟩
  case round =>
    obtain ⟨done, left, j, A2, c2, hj, rfl, rfl, ⟨Al, cl, rfl⟩, hdl, hll, HK⟩ := hrel
    obtain ⟨d, hd⟩ : ∃ d, Hid (done.length = d) := ⟨_, rfl⟩
    rw [hd.out] at hdl ⊢
    obtain rfl : d = j := hdl
    by_cases hlt : d < K
    · have hlti : (d : Int) < count := by omega
      have e2 : K - d = (K - (d + 1)) + 1 := by omega
      have HK2 : Hid (RkH w wr bs K done left ((K - (d + 1)) + 1) A2 c2 (.slice Al d cl)) := by
        have := HK.out
        rw [e2, hd.out] at this
        exact this
      have hd1000 : d ≤ 1000 := by omega
      obtain ⟨An, cn, en, hlc, _, _, hrd⟩ := own_form HK2.out.2.2.2.1
      simp only [Value.slice.injEq] at en
      obtain ⟨rfl, _, rfl⟩ := en
      have HT := Lib.hid (rtake_any left wr.heap.size A2 c2 wr hrd (Nat.le_refl _) HK2.out.2.2.1.lt hlc (by omega))
      clear e2 HK hrd
      go_wp2_with fail
      refine HT.out.mono ?_
      rintro e w2 (⟨hdn, rfl, hb2⟩ | ⟨v, W, v', hds, rfl, ho2, hb2⟩)
      · have HD := Lib.hid hdn
        have HB2 : Hid (Below w.heap.size w w2) := HK2.out.2.1.trans (hb2.mono HK2.out.2.1.size)
        clear hdn hb2
        go_wp2
        go_ret3
        exact .inl ⟨by rw [hK.out]; exact HK2.out.2.2.1.fail HD.out, rfl, HB2.out⟩
      · obtain ⟨hW0, hWn, hW8⟩ := dec_le hds
        have HD := Lib.hid hds
        have HB2 : Hid (Below wr.heap.size wr w2) := hb2
        have hsz := HK2.out.2.1.size
        obtain ⟨A4, c4, e4, _⟩ := own_form ho2
        subst e4
        have HL2 := Lib.hid ho2
        have HOw : Hid (w2.ownsRow w.heap.size 3 1 (.slice Al d cl) d (done.map fun x : Nat => Value.int .i64 (x : Int))) := by
          have := own_below HK2.out.1 hb2
          rwa [hd.out] at this
        have hb0 : Below w.heap.size w w2 := HK2.out.2.1.trans (hb2.mono HK2.out.2.1.size)
        have HB0 := Lib.hid hb0
        clear hds hb2 ho2 hb0 hsz
        go_wp2_with (at_builtin; refine wpList_append_own _ rfl _ _ 24 rfl w.heap.size 3 i0 (.int .i64 0) 1 8 Tryd.underlying24 HI.out.1 HI.out.2.1 HI.out.2.2.1 HI.out.2.2.2 rfl (by decide) (.slice Al d cl) d (done.map fun x : Nat => Value.int .i64 (x : Int)) rfl (HOw.out.alloc _) ⟨w2.heap.size, 0, none⟩ 1 1 [.int .i64 (v : Int)] rfl rfl ?c1 ?c2 ?c3 ?c4 ?c5 ?_)
        case c1 => exact cell_one_new _ _ _
        case c2 => simp [Value.oneCell']
        case c3 => unfold maxLen; omega
        case c4 => omega
        case c5 => have := HB0.out.size; simp only [World.size_alloc]; omega
        intro v3 w3 hown3 hgrow3 _
        have HL3 : Hid (w3.ownsRow w.heap.size 5 1 (.slice A4 (left.length - W) c4) (left.drop W).length (bv (left.drop W))) := by
          have h := (HL2.out.alloc (.cells #[.int .i64 (v : Int)] 3)).kept hgrow3 (by
            by_cases h0 : (Value.slice A4 (left.length - W) c4).ownBlock = none
            · exact .inl h0
            · refine .inr fun e => ?_
              obtain ⟨b4, hb4⟩ := Option.ne_none_iff_exists'.1 h0
              have h1 := (HL2.out.lt b4 hb4).1
              have h2 := (HK2.out.1.lt b4 (by rw [← e]; exact hb4)).2
              omega)
          rw [List.length_drop]
          exact own_base h HK2.out.2.1.size
        have HB3 : Hid (Below w.heap.size w w3) := (HB0.out.alloc HB0.out.size _).grown hgrow3 (by have := HB0.out.size; simp only [World.size_alloc]; omega) (fun g hg => (HK2.out.1.lt g hg).1)
        obtain ⟨A5, c5, e5, _⟩ := own_form hown3
        subst e5
        have HO3 : Hid (w3.ownsRow w.heap.size 3 1 (.slice A5 (d + 1) c5) (done ++ [v]).length ((done ++ [v]).map fun x : Nat => Value.int .i64 (x : Int))) := by
          have e : (done ++ [v]).length = d + 1 := by rw [List.length_append, hd.out]; rfl
          rw [e, List.map_append]
          exact hown3
        have hdl2 : Hid ((done ++ [v]).length = d + 1) := by show _ = _; rw [List.length_append, hd.out]; rfl
        clear hown3 hgrow3
        go_wp2
        go_roundw
        case rel =>
          refine ⟨done ++ [v], left.drop W, d + 1, A4, c4, by omega, by go_num, by rw [List.length_drop], ⟨A5, c5, by rw [hdl2.out]⟩, hdl2.out, by rw [List.length_drop]; omega, HO3.out, HB3.out, HK2.out.2.2.1.next HD.out, ?_, by rw [List.length_drop]; omega⟩
          have := HL3.out
          rw [List.length_drop] at this ⊢
          exact this
        case measure => simp [intOf]; omega
    · have hlti : ¬ (d : Int) < count := by omega
      have HK2 : Hid (RkH w wr bs K done left 0 A2 c2 (.slice Al d cl)) := by
        have := HK.out
        rw [show K - d = 0 by omega, hd.out] at this
        exact this
      go_wp2
      go_ret3
      have h1 := HK2.out.1
      exact .inr ⟨done, left, _, _, by rw [hK.out]; exact HK2.out.2.2.1.done_, rfl, h1, HK2.out.2.2.2.1, HK2.out.2.1⟩
end Go.Proofs.YtmdmkjkdfagcfaaDoor
