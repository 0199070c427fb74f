/- The path: what a ledger tells, with its frames; Late, Probe: contracts. Conditions: as each theorem lists them. -/
import Derived.Test.YtebfjphmlggacaaJPc
set_option linter.unusedSimpArgs false
set_option linter.unusedVariables false

namespace Go.Proofs.Ytebfjphmlggacaa.Pa
open Go Go.RowKit Go.Proofs.Ytebfjphmlggacaa Go.Proofs.Ytebfjphmlggacaa.Sp Go.Proofs.Ytebfjphmlggacaa.Ld

/-- Packets that were told, in a row of their own, with their frames. -/
structure Told (w : World) (lo B : Nat) (A : Option Addr) (c : Nat) (l : List (Pk × List Fq)) : Prop where
  own : w.ownsRow B 63 4 (.slice A l.length c) l.length (pks (l.map (·.1)))
  rows : ∀ x ∈ l, FrRow w lo x.1 x.2
  le : l.length ≤ c
theorem Told.keep {w w' : World} {lo B c : Nat} {A : Option Addr} {l : List (Pk × List Fq)} (h : Told w lo B A c l) (hb : Below w.heap.size w w') : Told w' lo B A c l := ⟨own_below h.own hb, fun x hx => (h.rows x hx).keep hb, h.le⟩
theorem Told.other {w w' : World} {lo B c p : Nat} {A : Option Addr} {l : List (Pk × List Fq)} {T : TypeId} {cur : Array Value} (h : Told w lo B A c l) (hg : w.grownBy w' (some p)) (hp : w.heap[p]? = some (.cells cur T (0, 0))) (h0 : 63 ≠ T) (h1 : 28 ≠ T) (h2 : 5 ≠ T) (h3 : 29 ≠ T) : Told w' lo B A c l :=
  ⟨own_other h.own hg hp h0, fun x hx => (h.rows x hx).other hg hp h1 h2 h3, h.le⟩
theorem Told.rd {w : World} {lo B c : Nat} {A : Option Addr} {l : List (Pk × List Fq)} (h : Told w lo B A c l) : Rd w w.heap.size A (l.length * 4) (pks (l.map (·.1))) := Rd.of_own h.own
theorem Told.elics {w : World} {lo B c : Nat} {A : Option Addr} {l : List (Pk × List Fq)} (h : Told w lo B A c l) (hn : l.length ≤ 1800000000000) :
    Calls Try.prog 24 #[.slice A l.length c] w fun e w' => e = .returned (.int .i64 (els (l.map (·.1)) : Int)) ∧ Below w.heap.size w w' :=
  eliciting_any _ _ _ _ _ (by rw [List.length_map]) h.rd h.le hn
theorem Told.frames {w : World} {lo B c : Nat} {A : Option Addr} {l : List (Pk × List Fq)} (h : Told w lo B A c l) (hn : l.length ≤ 1800000000000) (ht : (allF l).length ≤ 1800000000000) :
    Calls Try.prog 28 #[.slice A l.length c] w fun e w' => ∃ A' c', e = .returned (.slice A' (allF l).length c') ∧ w'.ownsRow w.heap.size 28 9 (.slice A' (allF l).length c') (allF l).length (fqs (allF l)) ∧ Below w.heap.size w w' :=
  frames_any l _ _ _ _ rfl h.rd h.le hn (fun x hx => ⟨(h.rows x hx).len, Rd.of_own (h.rows x hx).own⟩) ht
theorem allF_own {w : World} {lo : Nat} {l : List (Pk × List Fq)} (h : ∀ x ∈ l, FrRow w lo x.1 x.2) : ∀ q ∈ allF l, FqOwn w lo q := fun q hq => by
  obtain ⟨x, hx, hq⟩ := List.mem_flatMap.1 hq
  exact (h x hx).each q hq
theorem allF_filter (f : Pk × List Fq → Bool) : ∀ l : List (Pk × List Fq), (allF (l.filter f)).length ≤ (allF l).length
  | [] => Nat.le_refl _
  | x :: r => by
    have ih := allF_filter f r
    have e : ∀ (y : Pk × List Fq) (l : List (Pk × List Fq)), (allF (y :: l)).length = y.2.length + (allF l).length := fun y l => by simp [allF]
    rw [List.filter_cons, e]
    split
    · rw [e]; omega
    · omega
theorem moved_grown {w w' : World} {lo p : Nat} (hg : w.grownBy w' (some p)) (hlo : lo ≤ p) (hsz : lo ≤ w.heap.size) : Moved lo p w w' :=
  ⟨(Below.refl _ _).grown hg hsz (fun k hk => by cases hk; exact hlo), fun k hk hne _ => hg.block k hk (by simpa using hne)⟩
section
variable {w w' : World} {lo p : Nat} {s : Rtt.RS} {kq : List (Pk × List Fq)} {next behind : Nat} {wd : Cg.Win}
/-- Those that a choice of packets takes; those that it leaves. -/
def selK (f : Pk → Bool) (kq : List (Pk × List Fq)) : List (Pk × List Fq) := kq.filter fun x => f x.1
theorem selK_map (f : Pk → Bool) (kq : List (Pk × List Fq)) : (selK f kq).map (·.1) = (kq.map (·.1)).filter f := by
  rw [List.filter_map]; rfl
theorem selK_mem {f : Pk → Bool} {kq : List (Pk × List Fq)} {x : Pk × List Fq} (h : x ∈ selK f kq) : x ∈ kq := (List.mem_filter.1 h).1
theorem selK_len (f : Pk → Bool) (kq : List (Pk × List Fq)) : (selK f kq).length ≤ kq.length := List.length_filter_le _ _
/-- A ledger's telling, seen from the path. -/
theorem PathIn.gone (h : PathIn w lo p s kq next behind wd) {cur : Array Value} (h1 : Rtt.RtIn w p 0 43 cur s) {f : Pk → Bool} {v : Value} {behind2 : Nat} (hg : GoneP w lo p 4 43 cur (kq.map (·.1)) next behind2 f v w') :
    ∃ A c, v = .slice A (selK f kq).length c ∧ Told w' lo w.heap.size A c (selK f kq) ∧ PathIn w' lo p s (selK (fun k => !f k) kq) next behind2 wd ∧ Moved lo p w w' := by
  obtain ⟨A, c, cur', rfl, ho, hl, hs, hm⟩ := hg
  have e : ((kq.map (·.1)).filter f).length = (selK f kq).length := by rw [← selK_map, List.length_map]
  rw [e, ← selK_map] at ho
  refine ⟨A, c, by rw [e], ⟨ho, fun x hx => (h.rows x (selK_mem hx)).moved hm h1.1 (by decide) (by decide) (by decide), ?_⟩, h.led h1 hl hs hm (selK_map _ _) fun x hx => .inl (selK_mem hx), hm⟩
  obtain ⟨A2, c2, e2, hle, _⟩ := own_form ho
  simp only [Value.slice.injEq] at e2
  omega
/-- The last one's number. -/
def lastN (l : List (Pk × List Fq)) : Nat := ((l.map (·.1)).getLast?.map (·.num)).getD 0
theorem last_cell {w : World} {lo B c : Nat} {A : Option Addr} {l : List (Pk × List Fq)} (h : Told w lo B A c l) (hl : 0 < l.length) : ∃ (b off : Nat) (k : Pk), A = some ⟨b, off, none⟩ ∧ b < w.heap.size ∧ (l.map (·.1)).getLast? = some k ∧ k.num = lastN l ∧ (∃ qs, (k, qs) ∈ l) ∧
    w.cell? ⟨b, off + (l.length - 1) * 4, none⟩ = some (.int .i64 (k.num : Int)) ∧ w.cell? ⟨b, off + (l.length - 1) * 4 + 1, none⟩ = some (.int .i64 k.at') ∧ w.cell? ⟨b, off + (l.length - 1) * 4 + 2, none⟩ = some (.bool k.el) ∧ w.cell? ⟨b, off + (l.length - 1) * 4 + 3, none⟩ = some (.slice k.fa k.fn k.fc) := by
  obtain ⟨x, hx⟩ : ∃ x, l[l.length - 1]? = some x := ⟨_, List.getElem?_eq_getElem (by omega)⟩
  have hm : (l.map (·.1))[l.length - 1]? = some x.1 := by rw [List.getElem?_map, hx]; rfl
  have hg : (l.map (·.1)).getLast? = some x.1 := by rw [List.getLast?_eq_getElem?, List.length_map, hm]
  obtain ⟨b, off, e, hb, c0, c1, c2, c3⟩ := pk_cells h.rd (by rw [List.length_map]) _ _ hm
  exact ⟨b, off, x.1, e, hb, hg, by unfold lastN; rw [hg]; rfl, ⟨x.2, List.mem_of_getElem? hx⟩, c0, c1, c2, c3⟩

/-- Which ones are late. -/
def lateS (behind : Nat) (now : Int) (s : Rtt.RS) : Pk → Bool := selB 0 ((behind : Int) - 1) (oldB behind now (Rtt.lateF s))
/-- What losses do. -/
def badL (wd : Cg.Win) (l : List (Pk × List Fq)) (next : Nat) : Cg.Win := if 0 < els (l.map (·.1)) then Cg.badS wd (lastN l : Int) (next : Int) else wd

set_option maxRecDepth 100000 in
set_option maxHeartbeats 4000000 in
theorem late_path (h : PathIn w lo p s kq next behind wd) (now : Int) (hnow : -9223372036854775808 ≤ now ∧ now ≤ 9223372036854775807) (hn : next ≤ 1800000000000) (htot : (allF kq).length ≤ 1800000000000) :
    Calls Try.prog 11 #[.pointer (some ⟨p, 0, none⟩), .int .i64 now] w fun e w' => ∃ A' c', e = .returned (.slice A' (allF (selK (lateS behind now s) kq)).length c') ∧ w'.ownsRow w.heap.size 28 9 (.slice A' (allF (selK (lateS behind now s) kq)).length c') (allF (selK (lateS behind now s) kq)).length (fqs (allF (selK (lateS behind now s) kq))) ∧ (∀ q ∈ allF (selK (lateS behind now s) kq), FqOwn w' lo q) ∧
      PathIn w' lo p s (selK (fun k => !lateS behind now s k) kq) next behind (badL wd (selK (lateS behind now s) kq) next) ∧ Moved lo p w w' := by
  obtain ⟨cur, h1, h2, h3⟩ := h.cur
  have hlen : kq.length ≤ next := by have := h2.len; rwa [List.length_map] at this
  have HLEN := Lib.hid hlen
  have HTOT := Lib.hid htot
  have HN := Lib.hid hn
  have hr := h.good.round
  have HLT : Hid (Calls Try.prog 30 #[.pointer (some ⟨p, 0, none⟩)] w.drew fun e w' => e = .returned (.int .i64 (Rtt.lateF s)) ∧ w' = w.drew) := Rtt.late_any s h.good p 0 _ cur w.drew ⟨h1.1, h1.2⟩
  have hl : -9223372036854775808 ≤ Rtt.lateF s ∧ Rtt.lateF s ≤ 9223372036854775807 := by unfold Rtt.lateF; omega
  have HPD : Hid (PathIn w.drew lo p s kq next behind wd) := h.keep (Below.refl _ _).drew
  have H1D : Hid (Rtt.RtIn w.drew p 0 43 cur s) := ⟨h1.1, h1.2⟩
  have HLO := Lib.hid (lose_led (h2.keep (w' := w.drew) (Below.refl _ _).drew) hn now (Rtt.lateF s) (fun k hk => by
    obtain ⟨x, hx, rfl⟩ := List.mem_map.1 hk
    exact (h.rows x hx).at64) hnow hl)
  have hlt := h.lt
  have HLTP := Lib.hid hlt
  clear h h1 h2 h3 hlen htot hn hr hl hnow hlt
  go_enter Try.func11, Try.ntmps11
  go_wp2_with fail
  refine wp_region_held_drew (S := (fun _ => True)) (by kernel_rfl) ?_ (fun hHeld => ?_)
  · exact trivial
  refine wpAnyH_take (i := 0) (v := ?_) rfl (by kernel_rfl) (by kernel_rfl) (by kernel_rfl) (fun _ _ _ h => h) (Or.inl ⟨by rfl, ?_⟩) (by assumption) ?_
  rotate_left
  · intro w hSw; (try dsimp only at hSw); go_simp; try with_reducible rfl
  go_simp
  refine wpAnyH_take (i := 1) (v := ?_) rfl (by kernel_rfl) (by kernel_rfl) (by kernel_rfl) (fun _ _ _ h => h) (Or.inl ⟨by rfl, ?_⟩) (by assumption) ?_
  rotate_left
  · intro w hSw; (try dsimp only at hSw); go_simp; try with_reducible rfl
  go_simp
  refine wpAnyH_take (i := 2) (v := ?_) rfl (by kernel_rfl) (by kernel_rfl) (by kernel_rfl) (fun _ _ _ h => h) (Or.inl ⟨by rfl, ?_⟩) (by assumption) ?_
  rotate_left
  · intro w hSw; (try dsimp only at hSw); go_simp; try with_reducible rfl
  go_simp
  refine wpAnyH_take (i := 3) (v := ?_) rfl (by kernel_rfl) (by kernel_rfl) (by kernel_rfl) (fun _ _ _ h => h) (Or.inl ⟨by rfl, ?_⟩) (by assumption) ?_
  rotate_left
  · intro w hSw; (try dsimp only at hSw); go_simp; try with_reducible rfl
  go_simp
  refine wpAnyH_take (i := 4) (v := ?_) rfl (by kernel_rfl) (by kernel_rfl) (by kernel_rfl) (fun _ _ _ h => h) (Or.inl ⟨by rfl, ?_⟩) (by assumption) ?_
  rotate_left
  · intro w hSw; (try dsimp only at hSw); go_simp; try with_reducible rfl
  go_simp
  refine wpAnyH_take (i := 5) (v := ?_) rfl (by kernel_rfl) (by kernel_rfl) (by kernel_rfl) (fun _ _ _ h => h) (Or.inl ⟨by rfl, ?_⟩) (by assumption) ?_
  rotate_left
  · intro w hSw; (try dsimp only at hSw); go_simp; try with_reducible rfl
  go_simp
  refine wpAnyH_take (i := 6) (v := ?_) rfl (by kernel_rfl) (by kernel_rfl) (by kernel_rfl) (fun _ _ _ h => h) (Or.inl ⟨by rfl, ?_⟩) (by assumption) ?_
  rotate_left
  · intro w hSw; (try dsimp only at hSw); go_simp; try with_reducible rfl
  go_simp
  refine wpAnyH_ready (rs := [7]) (by kernel_rfl) (by simp) ?_
  refine AllReadyH.cons rfl (fun K hK => ?_) AllReadyH.nil
  go_simp
  refine HLT.out.mono ?_
  rintro e w' ⟨rfl, hw'⟩
  subst hw'
  refine hK.out _ _ ?_ (fun hHeld => ?_)
  · exact trivial
  clear hK K
  go_simp
  refine wpAnyH_ready (rs := [8]) (by kernel_rfl) (by simp) ?_
  refine AllReadyH.cons rfl (fun K hK => ?_) AllReadyH.nil
  go_simp
  refine HLO.out.mono ?_
  rintro e w1 ⟨v, rfl, hg⟩
  refine hK.out _ _ ?_ (fun hHeld => ?_)
  · exact trivial
  clear hK K
  go_simp
  refine wpAnyH_take (i := 9) (v := ?_) rfl (by kernel_rfl) (by kernel_rfl) (by kernel_rfl) (fun _ _ _ h => h) (Or.inl ⟨by rfl, ?_⟩) (by assumption) ?_
  rotate_left
  · intro w hSw; (try dsimp only at hSw); go_simp; try with_reducible rfl
  go_simp
  refine wpAnyH_done (by kernel_rfl) ?_ _
  obtain ⟨A, c, rfl, htd, hp1, hm1⟩ := HPD.out.gone H1D.out hg
  obtain ⟨L, hL⟩ : ∃ x, selK (selB 0 ((behind : Int) - 1) (oldB behind now (Rtt.lateF s))) kq = x := ⟨_, rfl⟩
  obtain ⟨R, hR⟩ : ∃ x, selK (fun k => !selB 0 ((behind : Int) - 1) (oldB behind now (Rtt.lateF s)) k) kq = x := ⟨_, rfl⟩
  rw [hL] at htd ⊢
  rw [hR] at hp1
  have hm1' : Moved lo p w w1 := (Moved.of (w' := w.drew) (Below.refl _ _).drew (Nat.le_of_lt (Nat.lt_of_le_of_lt HLTP.out.1 HLTP.out.2))).trans hm1
  have HGL : Hid (selK (lateS behind now s) kq = L) := hL
  have HGR : Hid (selK (fun k => !lateS behind now s k) kq = R) := hR
  have hLn : L.length ≤ 1800000000000 := by rw [← hL]; exact Nat.le_trans (selK_len _ _) (Nat.le_trans HLEN.out HN.out)
  have hLt : (allF L).length ≤ 1800000000000 := by rw [← hL]; exact Nat.le_trans (allF_filter _ _) HTOT.out
  have HNL := Lib.hid hLn
  have HTL := Lib.hid hLt
  have HTD := Lib.hid htd
  have HP1 := Lib.hid hp1
  have HM1 := Lib.hid hm1'
  have hlnI : (L.length : Int) ≤ 1800000000000 := by omega
  clear hL hR hLn hLt htd hp1 hm1 hm1' HLT HLO hg HTOT HPD H1D HLEN
  go_wp2_with fail
  refine (HTD.out.elics HNL.out).mono ?_
  rintro e w2 ⟨rfl, hb2⟩
  have HTD2 := Lib.hid (HTD.out.keep hb2)
  have HP2 := Lib.hid (HP1.out.keep hb2)
  have HM2 : Hid (Moved lo p w w2) := HM1.out.upper (hb2.mono HM1.out.below.size) (Nat.le_of_lt (Nat.lt_of_le_of_lt HLTP.out.1 HLTP.out.2))
  clear hb2 HTD HP1 HM1
  obtain ⟨E, hE⟩ : ∃ x, els (L.map (·.1)) = x := ⟨_, rfl⟩
  have HE := Lib.hid hE
  rw [hE]
  clear hE
  have HNX : Hid (∀ W, W = w2.drew → Calls Try.prog 14 #[.pointer (some ⟨p, 4, none⟩)] W fun e w' => e = .returned (.int .i64 (next : Int)) ∧ w' = W) := fun W hW => by
    obtain ⟨cur2, _, h2, _⟩ := HP2.out.cur
    exact next_led (h2.keep (by rw [hW]; exact (Below.refl _ _).drew))
  by_cases h0 : 0 < E
  · have h0I : 0 < (E : Int) := by omega
    have hLp : 0 < L.length := by
      rcases Nat.eq_zero_or_pos L.length with h | h
      · have := HE.out
        rw [List.eq_nil_of_length_eq_zero h] at this
        have e0 : els ([] : List Pk) = 0 := rfl
        simp only [List.map_nil, e0] at this
        omega
      · exact h
    obtain ⟨n1, hn1⟩ : ∃ n1, L.length = n1 + 1 := ⟨L.length - 1, by omega⟩
    obtain ⟨b, off, k, hA, hbl, _, hkn, _, hc0, _⟩ := last_cell HTD2.out hLp
    subst hA
    rw [hn1, Nat.add_sub_cancel] at hc0
    have HKN := Lib.hid hkn
    have HN1 := Lib.hid hn1
    have hn1I : (n1 : Int) + 1 ≤ 1800000000000 := by omega
    have hn10 : 0 ≤ (n1 : Int) := by omega
    have hwr : IntKind.i64.wrap (n1 : Int) = (n1 : Int) := IntWalk.i64_in _ (by omega)
    have hn11 : (n1 : Int) < (n1 : Int) + 1 := by omega
    have hcap : n1 + 1 ≤ c := by have := HTD2.out.le; omega
    have hcapI : (n1 : Int) + 1 ≤ (c : Int) := by omega
    have HBADL : Hid (badL wd L next = Cg.badS wd (k.num : Int) (next : Int)) := by
      show _ = _
      unfold badL
      rw [HE.out, if_pos h0, hkn]
    clear hkn hLp
    rw [hn1] 
    clear hn1 hlnI
    go_wp2_with fail
    refine Rtt.still_tail 14 (by kernel_rfl) (by kernel_rfl) ?_
    intro wz hwz
    have hz0 : wz.cell? ⟨b, off + n1 * 4, none⟩ = some (.int .i64 (k.num : Int)) := by rw [hwz]; exact hc0
    have HNZ := Lib.hid (HNX.out wz hwz)
    have HTD3 : Hid (Told wz lo w.heap.size (some ⟨b, off, none⟩) c L) := by rw [hwz]; exact HTD2.out.keep (Below.refl _ _).drew
    have HP3 : Hid (PathIn wz lo p s R next behind wd) := by rw [hwz]; exact HP2.out.keep (Below.refl _ _).drew
    have HM3 : Hid (Moved lo p w wz) := by rw [hwz]; exact HM2.out.upper (Below.refl _ _).drew (Nat.le_of_lt (Nat.lt_of_le_of_lt HLTP.out.1 HLTP.out.2))
    obtain ⟨cur3, hr3, hl3, hw3⟩ := HP3.out.cur
    have HBD := Lib.hid (Cg.bad_any wz p 8 _ cur3 wd hw3 HP3.out.ok (k.num : Int) (next : Int))
    have HW3 := Lib.hid hw3
    clear hwz hc0 HTD2 HP2 HM2 HNX hr3 hl3 hw3
    simp only [List.take_succ_cons, List.take_zero, List.drop_succ_cons, List.drop_zero]
    iterate 13 still_step
    still_call HNZ.out
    refine wpStill_nil ?_
    clear hz0 HNZ
    go_wp2_with fail
    refine HBD.out.mono ?_
    rintro e w4 ⟨rfl, cur4, hw4, hs4, hg4⟩
    have HP4 := Lib.hid (HP3.out.win HW3.out hw4 hs4 hg4 (HP3.out.ok.bad _ _))
    have HTD4 := Lib.hid (HTD3.out.other hg4 HW3.out.hp (by decide) (by decide) (by decide) (by decide))
    have HM4 : Hid (Moved lo p w w4) := HM3.out.trans (moved_grown hg4 HLTP.out.1 (Nat.le_trans (Nat.le_of_lt (Nat.lt_of_le_of_lt HLTP.out.1 HLTP.out.2)) HM3.out.below.size))
    have HFR := Lib.hid (HTD4.out.frames HNL.out HTL.out)
    rw [HN1.out] at HFR
    clear hw4 hs4 hg4 HP3 HTD3 HM3 HW3 HBD
    go_wp2_with fail
    refine HFR.out.mono ?_
    rintro e w5 ⟨A', c', rfl, ho5, hb5⟩
    have HF5 : Hid (w5.ownsRow w.heap.size 28 9 (.slice A' (allF L).length c') (allF L).length (fqs (allF L)) ∧ (∀ q ∈ allF L, FqOwn w5 lo q) ∧ PathIn w5 lo p s R next behind (badL wd L next) ∧ Moved lo p w w5) :=
      ⟨own_base ho5 HM4.out.below.size, allF_own (HTD4.out.keep hb5).rows, by rw [HBADL.out]; exact HP4.out.keep hb5, HM4.out.upper (hb5.mono HM4.out.below.size) (Nat.le_of_lt (Nat.lt_of_le_of_lt HLTP.out.1 HLTP.out.2))⟩
    clear ho5 hb5 HFR
    go_wp2_with fail
    go_ret
    rw [HGL.out, HGR.out]
    exact ⟨A', c', rfl, HF5.out⟩
  · have h0I : ¬ 0 < (E : Int) := by omega
    have HBADL : Hid (badL wd L next = wd) := by
      show _ = _
      unfold badL
      rw [HE.out, if_neg h0]
    have HP4 := HP2
    have HTD4 := HTD2
    have HM4 := HM2
    clear HP2 HTD2 HM2 HNX
    have HFR := Lib.hid (HTD4.out.frames HNL.out HTL.out)
    go_wp2_with fail
    refine HFR.out.mono ?_
    rintro e w5 ⟨A', c', rfl, ho5, hb5⟩
    have HF5 : Hid (w5.ownsRow w.heap.size 28 9 (.slice A' (allF L).length c') (allF L).length (fqs (allF L)) ∧ (∀ q ∈ allF L, FqOwn w5 lo q) ∧ PathIn w5 lo p s R next behind (badL wd L next) ∧ Moved lo p w w5) :=
      ⟨own_base ho5 HM4.out.below.size, allF_own (HTD4.out.keep hb5).rows, by rw [HBADL.out]; exact HP4.out.keep hb5, HM4.out.upper (hb5.mono HM4.out.below.size) (Nat.le_of_lt (Nat.lt_of_le_of_lt HLTP.out.1 HLTP.out.2))⟩
    clear ho5 hb5 HFR
    go_wp2_with fail
    go_ret
    rw [HGL.out, HGR.out]
    exact ⟨A', c', rfl, HF5.out⟩

end
end Go.Proofs.Ytebfjphmlggacaa.Pa
