/- Joined texts. The path: a new one, Send, Open: contracts. Conditions: as each theorem lists them. The path: what a ledger tells, with its frames; Late, Probe: contracts. Conditions: as each theorem lists them. The path's Probe: a contract. Conditions: as each theorem lists them. -/
import Derived.Test.YtebfjphmlggacaaGreatJPb
import Derived.Test.YtebfjphmlggacaaGreatJLw
import Derived.Deep.RegionHeld3
import Derived.Test.YtebfjphmlggacaaGreatJPo
set_option linter.unusedSimpArgs false
set_option linter.unusedVariables false

namespace Go.Proofs.YtebfjphmlggacaaGreat.Pa
open Go Go.RowKit Go.Proofs.YtebfjphmlggacaaGreat Go.Proofs.YtebfjphmlggacaaGreat.Sp Go.Proofs.YtebfjphmlggacaaGreat.Ld

theorem path_made (w : World) (lo : Nat) (hlo : lo ≤ w.heap.size) : PathIn (w.alloc (.cells #[.int .i64 0, .int .i64 0, .int .i64 0, .bool false, .slice none 0 0, .int .i64 0, .int .i64 0, .int .i64 0, .int .i64 4, .int .i64 32, .int .i64 0, .int .i64 0] 61)) lo w.heap.size Rtt.r0 [] 0 0 ⟨4, 32, 0, 0⟩ := by
  have hh := heap_alloc_new w (.cells #[.int .i64 0, .int .i64 0, .int .i64 0, .bool false, .slice none 0 0, .int .i64 0, .int .i64 0, .int .i64 0, .int .i64 4, .int .i64 32, .int .i64 0, .int .i64 0] 61)
  refine ⟨⟨_, ⟨hh, rfl, rfl, rfl, rfl⟩, ⟨[], ⟨hlo, by simp, Nat.le_refl _, ⟨by decide, by decide⟩, hh, ⟨none, 0, rfl, by simp, by unfold maxLen; omega, .inl ⟨rfl, rfl⟩⟩, rfl, rfl, rfl, Nat.le_refl _, fun i k hk => by simp at hk, Nat.le_refl _⟩, rfl⟩, ⟨hh, rfl, rfl, rfl, rfl⟩⟩, Rtt.good0, ⟨by decide, by decide, by decide, by decide, by decide, by decide⟩, fun x hx => by cases hx⟩

set_option maxRecDepth 100000 in
theorem new_path (w : World) :
    Calls Tryz.prog 4 #[] w fun e w' => ∃ p, e = .returned (.pointer (some ⟨p, 0, none⟩)) ∧ PathIn w' w.heap.size p Rtt.r0 [] 0 0 ⟨4, 32, 0, 0⟩ ∧ Below w.heap.size w w' := by
  go_enter Tryz.func4, Tryz.ntmps4
  go_wp2_with fail
  refine (Cg.new_any _).mono ?_; rintro e w1 ⟨rfl, hb1⟩
  go_wp2_with fail
  go_ret
  exact ⟨_, rfl, path_made w1 _ hb1.size, hb1.alloc hb1.size _⟩

section
variable {w : World} {lo p : Nat} {s : Rtt.RS} {kq : List (Pk × List Fq)} {next behind : Nat} {wd : Cg.Win}
set_option maxRecDepth 100000 in
theorem open_path (h : PathIn w lo p s kq next behind wd) :
    Calls Tryz.prog 19 #[.pointer (some ⟨p, 0, none⟩)] w fun e w' => e = .returned (.bool (decide ((els (kq.map (·.1)) : Int) < wd.size))) ∧ ∃ q, w' = w.drewN q := by
  obtain ⟨cur, h1, h2, h3⟩ := h.cur
  have HF : Hid (∀ m, Calls Tryz.prog 21 #[.pointer (some ⟨p, 4, none⟩)] (w.drewN m) fun e w' => e = .returned (.int .i64 (els (kq.map (·.1)) : Int)) ∧ w' = w.drewN m) := fun m => flight_led (h2.keep ⟨rfl, rfl, rfl, Nat.le_refl _, fun _ _ => rfl⟩)
  have HT : Hid (∀ m n, Calls Tryz.prog 56 #[.pointer (some ⟨p, 8, none⟩), .int .i64 n] (w.drewN m) fun e w' => e = .returned (.bool (decide (n < wd.size))) ∧ w' = w.drewN m) := fun m n => Cg.fits_any _ p 8 _ cur wd (h3.drewN m) n
  clear h h1 h2 h3
  go_enter Tryz.func19, Tryz.ntmps19
  go_wp2_with fail
  go_quiet ((first | (go_at_call 21; exact Calls.quiet_of_same (HF.out _)) | (go_at_call 56; exact Calls.quiet_of_same (HT.out _ _))))
  go_wp2_with fail
  go_ret
  exact ⟨rfl, nq, rfl⟩

/-- What Send leaves: a packet more, its frames copied. -/
def SendP (w : World) (lo p : Nat) (s : Rtt.RS) (kq : List (Pk × List Fq)) (next behind : Nat) (wd : Cg.Win) (now : Int) (qs : List Fq) (w' : World) : Prop :=
  ∃ k' qs', k'.num = next ∧ k'.at' = now ∧ k'.el = elicF qs ∧ qs'.length = qs.length ∧ (∀ (i : Nat) (q q' : Fq), qs[i]? = some q → qs'[i]? = some q' → FqSame q q') ∧ PathIn w' lo p s (kq ++ [(k', qs')]) (next + 1) behind wd ∧ Moved lo p w w'

set_option maxRecDepth 100000 in
set_option maxHeartbeats 4000000 in
theorem send_path (h : PathIn w lo p s kq next behind wd) (now : Int) (hnow : -9223372036854775808 ≤ now ∧ now ≤ 9223372036854775807) (fa : Option Addr) (fn fc : Nat) (qs : List Fq) (hql : qs.length = fn) (hfx : Rd w w.heap.size fa (fn * 9) (fqs qs)) (hfq : ∀ q ∈ qs, FqOk w q) (hfn : fn ≤ 1048576) (hfc : fn ≤ fc) (hn : next < 1099511627776) :
    Calls Tryz.prog 17 #[.pointer (some ⟨p, 0, none⟩), .int .i64 now, .slice fa fn fc] w fun e w' => e = .returned (.int .i64 (next : Int)) ∧ SendP w lo p s kq next behind wd now qs w' := by
  obtain ⟨cur, h1, h2, h3⟩ := h.cur
  have HP := Lib.hid h
  have H1 := Lib.hid h1
  have H2 := Lib.hid h2
  have HNX : Hid (∀ W, Below w.heap.size w W → Calls Tryz.prog 23 #[.pointer (some ⟨p, 4, none⟩)] W fun e w' => e = .returned (.int .i64 (next : Int)) ∧ w' = W) := fun W hb => next_led (h2.keep hb)
  have HEL : Hid (∀ W, Below w.heap.size w W → Calls Tryz.prog 53 #[.slice fa fn fc] W fun e w' => e = .returned (.bool (elicF qs)) ∧ Below W.heap.size W w') := fun W hb => elicits_any qs fn fc fa W hql ((hfx.below hb (Nat.le_refl _)).more hb.size) hfc hfn
  have HFX := Lib.hid hfx
  have HFQ := Lib.hid hfq
  have HQL := Lib.hid hql
  have HFN := Lib.hid hfn
  have HNOW := Lib.hid hnow
  have hnI : (next : Int) < 1099511627776 := by omega
  clear h h1 h2 h3 hfx hfq hql hfn hnow
  go_enter Tryz.func17, Tryz.ntmps17
  go_wp2_with fail
  refine (HNX.out _ (Below.refl _ _)).mono ?_; rintro e w1 ⟨rfl, hw1⟩
  have hw1 := hw1
  subst hw1
  go_wp2_with fail
  refine wp_region_held_drew (S := (fun _ => True)) (by kernel_rfl) ?_ (fun hHeld => ?_)
  · exact trivial
  refine wpAnyH_take (i := 0) (v := ?_) rfl (by kernel_rfl) (by kernel_rfl) (by kernel_rfl) (fun _ _ _ h => h) (Or.inl ⟨by rfl, ?_⟩) (by assumption) ?_
  rotate_left
  · intro w hSw; (try dsimp only at hSw); go_simp; try with_reducible rfl
  go_simp
  refine wpAnyH_take (i := 1) (v := ?_) rfl (by kernel_rfl) (by kernel_rfl) (by kernel_rfl) (fun _ _ _ h => h) (Or.inl ⟨by rfl, ?_⟩) (by assumption) ?_
  rotate_left
  · intro w hSw; (try dsimp only at hSw); go_simp; try with_reducible rfl
  go_simp
  refine wpAnyH_take (i := 2) (v := ?_) rfl (by kernel_rfl) (by kernel_rfl) (by kernel_rfl) (fun _ _ _ h => h) (Or.inl ⟨by rfl, ?_⟩) (by assumption) ?_
  rotate_left
  · intro w hSw; (try dsimp only at hSw); go_simp; try with_reducible rfl
  go_simp
  refine wpAnyH_take (i := 3) (v := ?_) rfl (by kernel_rfl) (by kernel_rfl) (by kernel_rfl) (fun _ _ _ h => h) (Or.inl ⟨by rfl, ?_⟩) (by assumption) ?_
  rotate_left
  · intro w hSw; (try dsimp only at hSw); go_simp; try with_reducible rfl
  go_simp
  refine wpAnyH_take (i := 4) (v := ?_) rfl (by kernel_rfl) (by kernel_rfl) (by kernel_rfl) (fun _ _ _ h => h) (Or.inl ⟨by rfl, ?_⟩) (by assumption) ?_
  rotate_left
  · intro w hSw; (try dsimp only at hSw); go_simp; try with_reducible rfl
  go_simp
  refine wpAnyH_take (i := 5) (v := ?_) rfl (by kernel_rfl) (by kernel_rfl) (by kernel_rfl) (fun _ _ _ h => h) (Or.inl ⟨by rfl, ?_⟩) (by assumption) ?_
  rotate_left
  · intro w hSw; (try dsimp only at hSw); go_simp; try with_reducible rfl
  go_simp
  refine wpAnyH_take (i := 7) (v := ?_) rfl (by kernel_rfl) (by kernel_rfl) (by kernel_rfl) (fun _ _ _ h => h) (Or.inl ⟨by rfl, ?_⟩) (by assumption) ?_
  rotate_left
  · intro w hSw; (try dsimp only at hSw); go_simp; try with_reducible rfl
  go_simp
  refine wpAnyH_ready (rs := [6]) (by kernel_rfl) (by simp) ?_
  refine AllReadyH.cons rfl (fun K hK => ?_) AllReadyH.nil
  go_simp
  refine (HEL.out _ ((Below.refl _ _).drew)).mono ?_
  rintro e w2 ⟨rfl, hb2⟩
  refine hK.out _ _ ?_ (fun hHeld => ?_)
  · exact trivial
  clear hK K
  go_simp
  refine wpAnyH_take (i := 8) (v := ?_) rfl (by kernel_rfl) (by kernel_rfl) (by kernel_rfl) (fun _ _ _ h => h) (Or.inl ⟨by rfl, ?_⟩) (by assumption) ?_
  rotate_left
  · intro w hSw; (try dsimp only at hSw); go_simp; try with_reducible rfl
  go_simp
  refine wpAnyH_ready (rs := [9]) (by kernel_rfl) (by simp) ?_
  refine AllReadyH.cons rfl (fun K hK => ?_) AllReadyH.nil
  go_simp
  refine hK.out _ _ ?_ (fun hHeld => ?_)
  · exact trivial
  clear hK K
  go_simp
  refine wpAnyH_ready (rs := [10]) (by kernel_rfl) (by simp) ?_
  refine AllReadyH.cons rfl (fun K hK => ?_) AllReadyH.nil
  go_simp
  have hb2' : Below w1.heap.size w1 w2 := (Below.refl w1.heap.size w1).drew.trans hb2
  obtain ⟨w3, hw3⟩ : ∃ x, w2.alloc (.cells #[.int .i64 (next : Int), .int .i64 now, .bool (elicF qs), .slice fa fn fc] 75) = x := ⟨_, rfl⟩
  have hb3 : Below w1.heap.size w1 w3 := hw3 ▸ hb2'.alloc hb2'.size _
  have hrd : Rd w3 w3.heap.size (some ⟨w2.heap.size, 0, none⟩) (1 * 4) (pks [⟨next, now, elicF qs, fa, fn, fc⟩]) := by
    rw [← hw3]
    exact rd_new _ _ _ _ _ _ _ rfl (by simp) rfl rfl
  have HPU := Lib.hid (put1_led w3 lo p 4 _ cur _ next behind (H2.out.keep hb3) now (elicF qs) fa fn fc qs HQL.out ((HFX.out.below hb3 (Nat.le_refl _)).more hb3.size) (fun q hq => (HFQ.out q hq).below hb3) HFN.out (by omega) (some ⟨w2.heap.size, 0, none⟩) 1 (Nat.le_refl _) hrd)
  have HB3 := Lib.hid hb3
  rw [hw3]
  clear hrd hb3 hb2' hw3 hb2 HEL
  refine HPU.out.mono ?_
  rintro e w4 ⟨rfl, cur', k', qs', e1, e2, e3, e4, e5, ho, hq, hl, hs, hm⟩
  replace e4 : k'.fn = fn := e4
  replace e5 : qs'.length = fn := e5
  have HS : Hid (SendP w1 lo p s kq next behind wd now qs w4) := by
    have hlt := HP.out.lt
    have hlo : lo ≤ w3.heap.size := Nat.le_trans (Nat.le_of_lt (Nat.lt_of_le_of_lt hlt.1 hlt.2)) HB3.out.size
    have hm' : Moved lo p w1 w4 := (Moved.of HB3.out (Nat.le_of_lt (Nat.lt_of_le_of_lt hlt.1 hlt.2))).trans hm
    have hlen : qs'.length = qs.length := by rw [e5]; exact HQL.out.symm
    refine ⟨k', qs', e1, e2, e3, hlen, fun i q q' h1 h2 => (hq i q q' h1 h2).1, HP.out.led H1.out hl hs hm' (by simp) (fun x hx => ?_), hm'⟩
    rcases List.mem_append.1 hx with hx | hx
    · exact .inl hx
    · right
      obtain rfl : x = (k', qs') := by simpa using hx
      refine ⟨by rw [e4, e5], by have := HFN.out; show k'.fn ≤ _; omega, by rw [e2]; exact HNOW.out, own_base ho hlo, fun q' hq' => ?_⟩
      obtain ⟨i, hi, e⟩ := List.mem_iff_getElem.1 hq'
      have h2 : qs'[i]? = some q' := by rw [List.getElem?_eq_getElem hi, e]
      have hi' : i < qs'.length := hi
      obtain ⟨q0, hq0⟩ : ∃ q0, qs[i]? = some q0 := ⟨_, List.getElem?_eq_getElem (by omega)⟩
      obtain ⟨_, f2⟩ := hq i q0 q' hq0 h2
      exact ⟨own_base f2.1 hlo, own_base f2.2 hlo⟩
  clear e1 e2 e3 e4 e5 ho hq hl hs hm HPU
  refine hK.out _ _ ?_ (fun hHeld => ?_)
  · exact trivial
  clear hK K
  go_simp
  refine wpAnyH_done (by kernel_rfl) ?_ _
  go_wp2_with fail
  go_ret
  exact ⟨rfl, HS.out⟩

end
end Go.Proofs.YtebfjphmlggacaaGreat.Pa

namespace Go.Proofs.YtebfjphmlggacaaGreat.Pa
open Go Go.RowKit Go.Proofs.YtebfjphmlggacaaGreat Go.Proofs.YtebfjphmlggacaaGreat.Sp Go.Proofs.YtebfjphmlggacaaGreat.Ld

/-- Packets that were told, in a row of their own, with their frames. -/
structure Told (w : World) (lo B : Nat) (A : Option Addr) (c : Nat) (l : List (Pk × List Fq)) : Prop where
  own : w.ownsRow B 75 4 (.slice A l.length c) l.length (pks (l.map (·.1)))
  rows : ∀ x ∈ l, FrRow w lo x.1 x.2
  le : l.length ≤ c
theorem Told.keep {w w' : World} {lo B c : Nat} {A : Option Addr} {l : List (Pk × List Fq)} (h : Told w lo B A c l) (hb : Below w.heap.size w w') : Told w' lo B A c l := ⟨own_below h.own hb, fun x hx => (h.rows x hx).keep hb, h.le⟩
theorem Told.other {w w' : World} {lo B c p : Nat} {A : Option Addr} {l : List (Pk × List Fq)} {T : TypeId} {cur : Array Value} (h : Told w lo B A c l) (hg : w.grownBy w' (some p)) (hp : w.heap[p]? = some (.cells cur T (0, 0))) (h0 : 75 ≠ T) (h1 : 68 ≠ T) (h2 : 5 ≠ T) (h3 : 69 ≠ T) : Told w' lo B A c l :=
  ⟨own_other h.own hg hp h0, fun x hx => (h.rows x hx).other hg hp h1 h2 h3, h.le⟩
theorem Told.rd {w : World} {lo B c : Nat} {A : Option Addr} {l : List (Pk × List Fq)} (h : Told w lo B A c l) : Rd w w.heap.size A (l.length * 4) (pks (l.map (·.1))) := Rd.of_own h.own
theorem Told.elics {w : World} {lo B c : Nat} {A : Option Addr} {l : List (Pk × List Fq)} (h : Told w lo B A c l) (hn : l.length ≤ 1099511627776) :
    Calls Tryz.prog 30 #[.slice A l.length c] w fun e w' => e = .returned (.int .i64 (els (l.map (·.1)) : Int)) ∧ Below w.heap.size w w' :=
  eliciting_any _ _ _ _ _ (by rw [List.length_map]) h.rd h.le hn
theorem Told.frames {w : World} {lo B c : Nat} {A : Option Addr} {l : List (Pk × List Fq)} (h : Told w lo B A c l) (hn : l.length ≤ 1099511627776) (ht : (allF l).length ≤ 1099511627776) :
    Calls Tryz.prog 34 #[.slice A l.length c] w fun e w' => ∃ A' c', e = .returned (.slice A' (allF l).length c') ∧ w'.ownsRow w.heap.size 68 9 (.slice A' (allF l).length c') (allF l).length (fqs (allF l)) ∧ Below w.heap.size w w' :=
  frames_any l _ _ _ _ rfl h.rd h.le hn (fun x hx => ⟨(h.rows x hx).len, Rd.of_own (h.rows x hx).own⟩) ht
theorem allF_own {w : World} {lo : Nat} {l : List (Pk × List Fq)} (h : ∀ x ∈ l, FrRow w lo x.1 x.2) : ∀ q ∈ allF l, FqOwn w lo q := fun q hq => by
  obtain ⟨x, hx, hq⟩ := List.mem_flatMap.1 hq
  exact (h x hx).each q hq
theorem allF_filter (f : Pk × List Fq → Bool) : ∀ l : List (Pk × List Fq), (allF (l.filter f)).length ≤ (allF l).length
  | [] => Nat.le_refl _
  | x :: r => by
    have ih := allF_filter f r
    have e : ∀ (y : Pk × List Fq) (l : List (Pk × List Fq)), (allF (y :: l)).length = y.2.length + (allF l).length := fun y l => by simp [allF]
    rw [List.filter_cons, e]
    split
    · rw [e]; omega
    · omega
theorem moved_grown {w w' : World} {lo p : Nat} (hg : w.grownBy w' (some p)) (hlo : lo ≤ p) (hsz : lo ≤ w.heap.size) : Moved lo p w w' :=
  ⟨(Below.refl _ _).grown hg hsz (fun k hk => by cases hk; exact hlo), fun k hk hne _ => hg.block k hk (by simpa using hne)⟩
section
variable {w w' : World} {lo p : Nat} {s : Rtt.RS} {kq : List (Pk × List Fq)} {next behind : Nat} {wd : Cg.Win}
/-- Those that a choice of packets takes; those that it leaves. -/
def selK (f : Pk → Bool) (kq : List (Pk × List Fq)) : List (Pk × List Fq) := kq.filter fun x => f x.1
theorem selK_map (f : Pk → Bool) (kq : List (Pk × List Fq)) : (selK f kq).map (·.1) = (kq.map (·.1)).filter f := by
  rw [List.filter_map]; rfl
theorem selK_mem {f : Pk → Bool} {kq : List (Pk × List Fq)} {x : Pk × List Fq} (h : x ∈ selK f kq) : x ∈ kq := (List.mem_filter.1 h).1
theorem selK_len (f : Pk → Bool) (kq : List (Pk × List Fq)) : (selK f kq).length ≤ kq.length := List.length_filter_le _ _
/-- A ledger's telling, seen from the path. -/
theorem PathIn.gone (h : PathIn w lo p s kq next behind wd) {cur : Array Value} (h1 : Rtt.RtIn w p 0 61 cur s) {f : Pk → Bool} {v : Value} {behind2 : Nat} (hg : GoneP w lo p 4 61 cur (kq.map (·.1)) next behind2 f v w') :
    ∃ A c, v = .slice A (selK f kq).length c ∧ Told w' lo w.heap.size A c (selK f kq) ∧ PathIn w' lo p s (selK (fun k => !f k) kq) next behind2 wd ∧ Moved lo p w w' := by
  obtain ⟨A, c, cur', rfl, ho, hl, hs, hm⟩ := hg
  have e : ((kq.map (·.1)).filter f).length = (selK f kq).length := by rw [← selK_map, List.length_map]
  rw [e, ← selK_map] at ho
  refine ⟨A, c, by rw [e], ⟨ho, fun x hx => (h.rows x (selK_mem hx)).moved hm h1.1 (by decide) (by decide) (by decide), ?_⟩, h.led h1 hl hs hm (selK_map _ _) fun x hx => .inl (selK_mem hx), hm⟩
  obtain ⟨A2, c2, e2, hle, _⟩ := own_form ho
  simp only [Value.slice.injEq] at e2
  omega
/-- The last one's number. -/
def lastN (l : List (Pk × List Fq)) : Nat := ((l.map (·.1)).getLast?.map (·.num)).getD 0
theorem last_cell {w : World} {lo B c : Nat} {A : Option Addr} {l : List (Pk × List Fq)} (h : Told w lo B A c l) (hl : 0 < l.length) : ∃ (b off : Nat) (k : Pk), A = some ⟨b, off, none⟩ ∧ b < w.heap.size ∧ (l.map (·.1)).getLast? = some k ∧ k.num = lastN l ∧ (∃ qs, (k, qs) ∈ l) ∧
    w.cell? ⟨b, off + (l.length - 1) * 4, none⟩ = some (.int .i64 (k.num : Int)) ∧ w.cell? ⟨b, off + (l.length - 1) * 4 + 1, none⟩ = some (.int .i64 k.at') ∧ w.cell? ⟨b, off + (l.length - 1) * 4 + 2, none⟩ = some (.bool k.el) ∧ w.cell? ⟨b, off + (l.length - 1) * 4 + 3, none⟩ = some (.slice k.fa k.fn k.fc) := by
  obtain ⟨x, hx⟩ : ∃ x, l[l.length - 1]? = some x := ⟨_, List.getElem?_eq_getElem (by omega)⟩
  have hm : (l.map (·.1))[l.length - 1]? = some x.1 := by rw [List.getElem?_map, hx]; rfl
  have hg : (l.map (·.1)).getLast? = some x.1 := by rw [List.getLast?_eq_getElem?, List.length_map, hm]
  obtain ⟨b, off, e, hb, c0, c1, c2, c3⟩ := pk_cells h.rd (by rw [List.length_map]) _ _ hm
  exact ⟨b, off, x.1, e, hb, hg, by unfold lastN; rw [hg]; rfl, ⟨x.2, List.mem_of_getElem? hx⟩, c0, c1, c2, c3⟩

/-- Which ones are late. -/
def lateS (behind : Nat) (now : Int) (s : Rtt.RS) : Pk → Bool := selB 0 ((behind : Int) - 1) (oldB behind now (Rtt.lateF s))
/-- What losses do. -/
def badL (wd : Cg.Win) (l : List (Pk × List Fq)) (next : Nat) : Cg.Win := if 0 < els (l.map (·.1)) then Cg.badS wd (lastN l : Int) (next : Int) else wd

set_option maxRecDepth 100000 in
set_option maxHeartbeats 4000000 in
theorem late_path (h : PathIn w lo p s kq next behind wd) (now : Int) (hnow : -9223372036854775808 ≤ now ∧ now ≤ 9223372036854775807) (hn : next ≤ 1099511627776) (htot : (allF kq).length ≤ 1099511627776) :
    Calls Tryz.prog 12 #[.pointer (some ⟨p, 0, none⟩), .int .i64 now] w fun e w' => ∃ A' c', e = .returned (.slice A' (allF (selK (lateS behind now s) kq)).length c') ∧ w'.ownsRow w.heap.size 68 9 (.slice A' (allF (selK (lateS behind now s) kq)).length c') (allF (selK (lateS behind now s) kq)).length (fqs (allF (selK (lateS behind now s) kq))) ∧ (∀ q ∈ allF (selK (lateS behind now s) kq), FqOwn w' lo q) ∧
      PathIn w' lo p s (selK (fun k => !lateS behind now s k) kq) next behind (badL wd (selK (lateS behind now s) kq) next) ∧ Moved lo p w w' := by
  obtain ⟨cur, h1, h2, h3⟩ := h.cur
  have hlen : kq.length ≤ next := by have := h2.len; rwa [List.length_map] at this
  have HLEN := Lib.hid hlen
  have HTOT := Lib.hid htot
  have HN := Lib.hid hn
  have hr := h.good.round
  have HLT : Hid (Calls Tryz.prog 41 #[.pointer (some ⟨p, 0, none⟩)] w.drew fun e w' => e = .returned (.int .i64 (Rtt.lateF s)) ∧ w' = w.drew) := Rtt.late_any s h.good p 0 _ cur w.drew ⟨h1.1, h1.2⟩
  have hl : -9223372036854775808 ≤ Rtt.lateF s ∧ Rtt.lateF s ≤ 9223372036854775807 := by unfold Rtt.lateF; omega
  have HPD : Hid (PathIn w.drew lo p s kq next behind wd) := h.keep (Below.refl _ _).drew
  have H1D : Hid (Rtt.RtIn w.drew p 0 61 cur s) := ⟨h1.1, h1.2⟩
  have HLO := Lib.hid (lose_led (h2.keep (w' := w.drew) (Below.refl _ _).drew) hn now (Rtt.lateF s) (fun k hk => by
    obtain ⟨x, hx, rfl⟩ := List.mem_map.1 hk
    exact (h.rows x hx).at64) hnow hl)
  have hlt := h.lt
  have HLTP := Lib.hid hlt
  clear h h1 h2 h3 hlen htot hn hr hl hnow hlt
  go_enter Tryz.func12, Tryz.ntmps12
  go_wp2_with fail
  refine wp_region_held_drew (S := (fun _ => True)) (by kernel_rfl) ?_ (fun hHeld => ?_)
  · exact trivial
  refine wpAnyH_take (i := 0) (v := ?_) rfl (by kernel_rfl) (by kernel_rfl) (by kernel_rfl) (fun _ _ _ h => h) (Or.inl ⟨by rfl, ?_⟩) (by assumption) ?_
  rotate_left
  · intro w hSw; (try dsimp only at hSw); go_simp; try with_reducible rfl
  go_simp
  refine wpAnyH_take (i := 1) (v := ?_) rfl (by kernel_rfl) (by kernel_rfl) (by kernel_rfl) (fun _ _ _ h => h) (Or.inl ⟨by rfl, ?_⟩) (by assumption) ?_
  rotate_left
  · intro w hSw; (try dsimp only at hSw); go_simp; try with_reducible rfl
  go_simp
  refine wpAnyH_take (i := 2) (v := ?_) rfl (by kernel_rfl) (by kernel_rfl) (by kernel_rfl) (fun _ _ _ h => h) (Or.inl ⟨by rfl, ?_⟩) (by assumption) ?_
  rotate_left
  · intro w hSw; (try dsimp only at hSw); go_simp; try with_reducible rfl
  go_simp
  refine wpAnyH_take (i := 3) (v := ?_) rfl (by kernel_rfl) (by kernel_rfl) (by kernel_rfl) (fun _ _ _ h => h) (Or.inl ⟨by rfl, ?_⟩) (by assumption) ?_
  rotate_left
  · intro w hSw; (try dsimp only at hSw); go_simp; try with_reducible rfl
  go_simp
  refine wpAnyH_take (i := 4) (v := ?_) rfl (by kernel_rfl) (by kernel_rfl) (by kernel_rfl) (fun _ _ _ h => h) (Or.inl ⟨by rfl, ?_⟩) (by assumption) ?_
  rotate_left
  · intro w hSw; (try dsimp only at hSw); go_simp; try with_reducible rfl
  go_simp
  refine wpAnyH_take (i := 5) (v := ?_) rfl (by kernel_rfl) (by kernel_rfl) (by kernel_rfl) (fun _ _ _ h => h) (Or.inl ⟨by rfl, ?_⟩) (by assumption) ?_
  rotate_left
  · intro w hSw; (try dsimp only at hSw); go_simp; try with_reducible rfl
  go_simp
  refine wpAnyH_take (i := 6) (v := ?_) rfl (by kernel_rfl) (by kernel_rfl) (by kernel_rfl) (fun _ _ _ h => h) (Or.inl ⟨by rfl, ?_⟩) (by assumption) ?_
  rotate_left
  · intro w hSw; (try dsimp only at hSw); go_simp; try with_reducible rfl
  go_simp
  refine wpAnyH_ready (rs := [7]) (by kernel_rfl) (by simp) ?_
  refine AllReadyH.cons rfl (fun K hK => ?_) AllReadyH.nil
  go_simp
  refine HLT.out.mono ?_
  rintro e w' ⟨rfl, hw'⟩
  subst hw'
  refine hK.out _ _ ?_ (fun hHeld => ?_)
  · exact trivial
  clear hK K
  go_simp
  refine wpAnyH_ready (rs := [8]) (by kernel_rfl) (by simp) ?_
  refine AllReadyH.cons rfl (fun K hK => ?_) AllReadyH.nil
  go_simp
  refine HLO.out.mono ?_
  rintro e w1 ⟨v, rfl, hg⟩
  refine hK.out _ _ ?_ (fun hHeld => ?_)
  · exact trivial
  clear hK K
  go_simp
  refine wpAnyH_take (i := 9) (v := ?_) rfl (by kernel_rfl) (by kernel_rfl) (by kernel_rfl) (fun _ _ _ h => h) (Or.inl ⟨by rfl, ?_⟩) (by assumption) ?_
  rotate_left
  · intro w hSw; (try dsimp only at hSw); go_simp; try with_reducible rfl
  go_simp
  refine wpAnyH_done (by kernel_rfl) ?_ _
  obtain ⟨A, c, rfl, htd, hp1, hm1⟩ := HPD.out.gone H1D.out hg
  obtain ⟨L, hL⟩ : ∃ x, selK (selB 0 ((behind : Int) - 1) (oldB behind now (Rtt.lateF s))) kq = x := ⟨_, rfl⟩
  obtain ⟨R, hR⟩ : ∃ x, selK (fun k => !selB 0 ((behind : Int) - 1) (oldB behind now (Rtt.lateF s)) k) kq = x := ⟨_, rfl⟩
  rw [hL] at htd ⊢
  rw [hR] at hp1
  have hm1' : Moved lo p w w1 := (Moved.of (w' := w.drew) (Below.refl _ _).drew (Nat.le_of_lt (Nat.lt_of_le_of_lt HLTP.out.1 HLTP.out.2))).trans hm1
  have HGL : Hid (selK (lateS behind now s) kq = L) := hL
  have HGR : Hid (selK (fun k => !lateS behind now s k) kq = R) := hR
  have hLn : L.length ≤ 1099511627776 := by rw [← hL]; exact Nat.le_trans (selK_len _ _) (Nat.le_trans HLEN.out HN.out)
  have hLt : (allF L).length ≤ 1099511627776 := by rw [← hL]; exact Nat.le_trans (allF_filter _ _) HTOT.out
  have HNL := Lib.hid hLn
  have HTL := Lib.hid hLt
  have HTD := Lib.hid htd
  have HP1 := Lib.hid hp1
  have HM1 := Lib.hid hm1'
  have hlnI : (L.length : Int) ≤ 1099511627776 := by omega
  clear hL hR hLn hLt htd hp1 hm1 hm1' HLT HLO hg HTOT HPD H1D HLEN
  go_wp2_with fail
  refine (HTD.out.elics HNL.out).mono ?_
  rintro e w2 ⟨rfl, hb2⟩
  have HTD2 := Lib.hid (HTD.out.keep hb2)
  have HP2 := Lib.hid (HP1.out.keep hb2)
  have HM2 : Hid (Moved lo p w w2) := HM1.out.upper (hb2.mono HM1.out.below.size) (Nat.le_of_lt (Nat.lt_of_le_of_lt HLTP.out.1 HLTP.out.2))
  clear hb2 HTD HP1 HM1
  obtain ⟨E, hE⟩ : ∃ x, els (L.map (·.1)) = x := ⟨_, rfl⟩
  have HE := Lib.hid hE
  rw [hE]
  clear hE
  have HNX : Hid (∀ W, W = w2.drew → Calls Tryz.prog 23 #[.pointer (some ⟨p, 4, none⟩)] W fun e w' => e = .returned (.int .i64 (next : Int)) ∧ w' = W) := fun W hW => by
    obtain ⟨cur2, _, h2, _⟩ := HP2.out.cur
    exact next_led (h2.keep (by rw [hW]; exact (Below.refl _ _).drew))
  by_cases h0 : 0 < E
  · have h0I : 0 < (E : Int) := by omega
    have hLp : 0 < L.length := by
      rcases Nat.eq_zero_or_pos L.length with h | h
      · have := HE.out
        rw [List.eq_nil_of_length_eq_zero h] at this
        have e0 : els ([] : List Pk) = 0 := rfl
        simp only [List.map_nil, e0] at this
        omega
      · exact h
    obtain ⟨n1, hn1⟩ : ∃ n1, L.length = n1 + 1 := ⟨L.length - 1, by omega⟩
    obtain ⟨b, off, k, hA, hbl, _, hkn, _, hc0, _⟩ := last_cell HTD2.out hLp
    subst hA
    rw [hn1, Nat.add_sub_cancel] at hc0
    have HKN := Lib.hid hkn
    have HN1 := Lib.hid hn1
    have hn1I : (n1 : Int) + 1 ≤ 1099511627776 := by omega
    have hn10 : 0 ≤ (n1 : Int) := by omega
    have hwr : IntKind.i64.wrap (n1 : Int) = (n1 : Int) := IntWalk.i64_in _ (by omega)
    have hn11 : (n1 : Int) < (n1 : Int) + 1 := by omega
    have hcap : n1 + 1 ≤ c := by have := HTD2.out.le; omega
    have hcapI : (n1 : Int) + 1 ≤ (c : Int) := by omega
    have HBADL : Hid (badL wd L next = Cg.badS wd (k.num : Int) (next : Int)) := by
      show _ = _
      unfold badL
      rw [HE.out, if_pos h0, hkn]
    clear hkn hLp
    rw [hn1] 
    clear hn1 hlnI
    go_wp2_with fail
    refine Rtt.still_tail 14 (by kernel_rfl) (by kernel_rfl) ?_
    intro wz hwz
    have hz0 : wz.cell? ⟨b, off + n1 * 4, none⟩ = some (.int .i64 (k.num : Int)) := by rw [hwz]; exact hc0
    have HNZ := Lib.hid (HNX.out wz hwz)
    have HTD3 : Hid (Told wz lo w.heap.size (some ⟨b, off, none⟩) c L) := by rw [hwz]; exact HTD2.out.keep (Below.refl _ _).drew
    have HP3 : Hid (PathIn wz lo p s R next behind wd) := by rw [hwz]; exact HP2.out.keep (Below.refl _ _).drew
    have HM3 : Hid (Moved lo p w wz) := by rw [hwz]; exact HM2.out.upper (Below.refl _ _).drew (Nat.le_of_lt (Nat.lt_of_le_of_lt HLTP.out.1 HLTP.out.2))
    obtain ⟨cur3, hr3, hl3, hw3⟩ := HP3.out.cur
    have HBD := Lib.hid (Cg.bad_any wz p 8 _ cur3 wd hw3 HP3.out.ok (k.num : Int) (next : Int))
    have HW3 := Lib.hid hw3
    clear hwz hc0 HTD2 HP2 HM2 HNX hr3 hl3 hw3
    simp only [List.take_succ_cons, List.take_zero, List.drop_succ_cons, List.drop_zero]
    iterate 13 still_step
    still_call HNZ.out
    refine wpStill_nil ?_
    clear hz0 HNZ
    go_wp2_with fail
    refine HBD.out.mono ?_
    rintro e w4 ⟨rfl, cur4, hw4, hs4, hg4⟩
    have HP4 := Lib.hid (HP3.out.win HW3.out hw4 hs4 hg4 (HP3.out.ok.bad _ _))
    have HTD4 := Lib.hid (HTD3.out.other hg4 HW3.out.hp (by decide) (by decide) (by decide) (by decide))
    have HM4 : Hid (Moved lo p w w4) := HM3.out.trans (moved_grown hg4 HLTP.out.1 (Nat.le_trans (Nat.le_of_lt (Nat.lt_of_le_of_lt HLTP.out.1 HLTP.out.2)) HM3.out.below.size))
    have HFR := Lib.hid (HTD4.out.frames HNL.out HTL.out)
    rw [HN1.out] at HFR
    clear hw4 hs4 hg4 HP3 HTD3 HM3 HW3 HBD
    go_wp2_with fail
    refine HFR.out.mono ?_
    rintro e w5 ⟨A', c', rfl, ho5, hb5⟩
    have HF5 : Hid (w5.ownsRow w.heap.size 68 9 (.slice A' (allF L).length c') (allF L).length (fqs (allF L)) ∧ (∀ q ∈ allF L, FqOwn w5 lo q) ∧ PathIn w5 lo p s R next behind (badL wd L next) ∧ Moved lo p w w5) :=
      ⟨own_base ho5 HM4.out.below.size, allF_own (HTD4.out.keep hb5).rows, by rw [HBADL.out]; exact HP4.out.keep hb5, HM4.out.upper (hb5.mono HM4.out.below.size) (Nat.le_of_lt (Nat.lt_of_le_of_lt HLTP.out.1 HLTP.out.2))⟩
    clear ho5 hb5 HFR
    go_wp2_with fail
    go_ret
    rw [HGL.out, HGR.out]
    exact ⟨A', c', rfl, HF5.out⟩
  · have h0I : ¬ 0 < (E : Int) := by omega
    have HBADL : Hid (badL wd L next = wd) := by
      show _ = _
      unfold badL
      rw [HE.out, if_neg h0]
    have HP4 := HP2
    have HTD4 := HTD2
    have HM4 := HM2
    clear HP2 HTD2 HM2 HNX
    have HFR := Lib.hid (HTD4.out.frames HNL.out HTL.out)
    go_wp2_with fail
    refine HFR.out.mono ?_
    rintro e w5 ⟨A', c', rfl, ho5, hb5⟩
    have HF5 : Hid (w5.ownsRow w.heap.size 68 9 (.slice A' (allF L).length c') (allF L).length (fqs (allF L)) ∧ (∀ q ∈ allF L, FqOwn w5 lo q) ∧ PathIn w5 lo p s R next behind (badL wd L next) ∧ Moved lo p w w5) :=
      ⟨own_base ho5 HM4.out.below.size, allF_own (HTD4.out.keep hb5).rows, by rw [HBADL.out]; exact HP4.out.keep hb5, HM4.out.upper (hb5.mono HM4.out.below.size) (Nat.le_of_lt (Nat.lt_of_le_of_lt HLTP.out.1 HLTP.out.2))⟩
    clear ho5 hb5 HFR
    go_wp2_with fail
    go_ret
    rw [HGL.out, HGR.out]
    exact ⟨A', c', rfl, HF5.out⟩

end
end Go.Proofs.YtebfjphmlggacaaGreat.Pa

namespace Go.Proofs.YtebfjphmlggacaaGreat.Pa
open Go Go.RowKit Go.Proofs.YtebfjphmlggacaaGreat Go.Proofs.YtebfjphmlggacaaGreat.Sp Go.Proofs.YtebfjphmlggacaaGreat.Ld

section
variable {w w' : World} {lo p : Nat} {s : Rtt.RS} {kq : List (Pk × List Fq)} {next behind : Nat} {wd : Cg.Win}
theorem PathIn.rising (h : PathIn w lo p s kq next behind wd) : (kq.map (·.1)).Pairwise (fun a b => a.num < b.num) ∧ (∀ x ∈ kq, x.1.num < next) ∧ kq.length ≤ next ∧ behind ≤ next := by
  obtain ⟨cur, h1, h2, h3⟩ := h.cur
  have hr := h2.rising
  have hl := h2.len
  rw [List.length_map] at hl
  exact ⟨hr.1, fun x hx => hr.2 _ (List.mem_map.2 ⟨x, hx, rfl⟩), hl, h2.behind_le⟩
theorem PathIn.sel (h : PathIn w lo p s kq next behind wd) : selK (selB 0 (next : Int) fun _ => true) kq = kq ∧ selK (fun k => !selB 0 (next : Int) (fun _ => true) k) kq = [] := by
  have hr := h.rising.2.1
  constructor
  · refine List.filter_eq_self.2 fun x hx => ?_
    have := hr x hx
    simp [selB, this]
  · refine List.filter_eq_nil_iff.2 fun x hx => ?_
    have := hr x hx
    simp [selB, this]
theorem oldF_range (kq : List (Pk × List Fq)) (hat : ∀ x ∈ kq, -2305843009213693952 ≤ x.1.at' ∧ x.1.at' ≤ 2305843009213693952) : -2305843009213693952 ≤ (oldF (kq.map (·.1))).1 ∧ (oldF (kq.map (·.1))).1 ≤ 2305843009213693952 := by
  unfold oldF
  cases h : (kq.map (·.1)).find? (·.el) with
  | none => simp only; omega
  | some k =>
    obtain ⟨x, hx, rfl⟩ := List.mem_map.1 (List.mem_of_find?_eq_some h)
    exact hat x hx
/-- May it probe? -/
def probeF (s : Rtt.RS) (kq : List (Pk × List Fq)) (now : Int) : Bool := (oldF (kq.map (·.1))).2 && decide ((oldF (kq.map (·.1))).1 ≤ now - Rtt.waitF s)

set_option maxRecDepth 100000 in
set_option maxHeartbeats 4000000 in
theorem probe_path (h : PathIn w lo p s kq next behind wd) (now : Int) (hnow : -2305843009213693952 ≤ now ∧ now ≤ 2305843009213693952) (hat : ∀ x ∈ kq, -2305843009213693952 ≤ x.1.at' ∧ x.1.at' ≤ 2305843009213693952) (hbk : 0 ≤ s.bk ∧ s.bk ≤ 1099511627776) (hn : next ≤ 1099511627776) (htot : (allF kq).length ≤ 1099511627776) :
    Calls Tryz.prog 14 #[.pointer (some ⟨p, 0, none⟩), .int .i64 now] w fun e w' => (probeF s kq now = false ∧ e = .returned (.tuple #[.slice none 0 0, .bool false]) ∧ ∃ q, w' = w.drewN q) ∨
      (probeF s kq now = true ∧ ∃ A' c', e = .returned (.tuple #[.slice A' (allF kq).length c', .bool true]) ∧ w'.ownsRow w.heap.size 68 9 (.slice A' (allF kq).length c') (allF kq).length (fqs (allF kq)) ∧ (∀ q ∈ allF kq, FqOwn w' lo q) ∧
        PathIn w' lo p (Rtt.back s (s.bk + 1)) [] next behind wd ∧ Moved lo p w w') := by
  obtain ⟨cur, h1, h2, h3⟩ := h.cur
  have HP := Lib.hid h
  have H1 := Lib.hid h1
  have HTOT := Lib.hid htot
  have HN := Lib.hid hn
  have HO := Lib.hid (oldest_led h2 hn)
  have hwb := Rtt.wait_bounds h.good
  have HPR : Hid (probeF s kq now = ((oldF (kq.map (·.1))).2 && decide ((oldF (kq.map (·.1))).1 ≤ now - Rtt.waitF s))) := rfl
  have hor := oldF_range kq hat
  clear hat
  obtain ⟨at', hat⟩ : ∃ x, (oldF (kq.map (·.1))).1 = x := ⟨_, rfl⟩
  obtain ⟨ok, hok⟩ : ∃ x, (oldF (kq.map (·.1))).2 = x := ⟨_, rfl⟩
  obtain ⟨wt, hwt⟩ : ∃ x, Rtt.waitF s = x := ⟨_, rfl⟩
  rw [hat, hok] at HO
  rw [hat] at hor
  obtain ⟨hor1, hor2⟩ := hor
  have HSI := Lib.hid (fun W => since_any at' now W ⟨by omega, by omega⟩ ⟨by omega, by omega⟩)
  rw [hat, hok, hwt] at HPR
  rw [hwt] at hwb
  obtain ⟨hwb1, hwb2⟩ := hwb
  obtain ⟨hnow1, hnow2⟩ := hnow
  obtain ⟨hbk1, hbk2⟩ := hbk
  have HWT : Hid (∀ m, Calls Tryz.prog 25 #[.pointer (some ⟨p, 0, none⟩)] (w.drewN m) fun e w' => e = .returned (.int .i64 wt) ∧ w' = w.drewN m) := fun m => by
    have := Rtt.wait_any s h.good p 0 _ cur (w.drewN m) ⟨h1.1, h1.2⟩
    rwa [hwt] at this
  obtain ⟨bk, hbk⟩ : ∃ x, s.bk = x := ⟨_, rfl⟩
  have HBK := Lib.hid hbk
  rw [hbk] at hbk1 hbk2
  have hws : IntKind.i64.wrap (now - at') = now - at' := IntWalk.i64_in _ (by omega)
  clear h h1 h2 h3 htot hn hat hok hwt hbk
  cases ok
  · have HF : Hid (probeF s kq now = false) := HPR.out
    go_enter Tryz.func14, Tryz.ntmps14
    go_wp2_with fail
    refine HO.out.mono ?_
    rintro e w1 ⟨rfl, hw1⟩
    subst w1
    clear HO
    go_wp2_with fail
    go_quiet (first | (go_at_call 33; exact Calls.quiet_of_same (HSI.out _)) | (go_at_call 25; exact Calls.quiet_of_same (HWT.out _)))
    go_wp2_with fail
    first | go_ret2 | go_ret
    exact .inl ⟨HF.out, rfl, nq, rfl⟩
  · by_cases hlt : now - at' < wt
    · have HF : Hid (probeF s kq now = false) := by
        show _ = _
        rw [HPR.out, decide_eq_false (by omega)]
        rfl
      go_enter Tryz.func14, Tryz.ntmps14
      go_wp2_with fail
      refine HO.out.mono ?_
      rintro e w1 ⟨rfl, hw1⟩
      subst w1
      clear HO
      go_wp2_with fail
      go_quiet (first | (go_at_call 33; exact Calls.quiet_of_same (HSI.out _)) | (go_at_call 25; exact Calls.quiet_of_same (HWT.out _)))
      go_wp2_with fail
      first | go_ret2 | go_ret
      exact .inl ⟨HF.out, rfl, nq, rfl⟩
    · have HF : Hid (probeF s kq now = true) := by
        show _ = _
        rw [HPR.out, decide_eq_true (by omega)]
        rfl
      go_enter Tryz.func14, Tryz.ntmps14
      go_wp2_with fail
      refine HO.out.mono ?_
      rintro e w1 ⟨rfl, hw1⟩
      subst w1
      clear HO
      go_wp2_with fail
      go_quiet (first | (go_at_call 33; exact Calls.quiet_of_same (HSI.out _)) | (go_at_call 25; exact Calls.quiet_of_same (HWT.out _)))
      obtain ⟨w2, hw2⟩ : ∃ x, w.drewN nq = x := ⟨_, rfl⟩
      have hb2 : Below w.heap.size w w2 := hw2 ▸ ⟨rfl, rfl, rfl, Nat.le_refl _, fun _ _ => rfl⟩
      have HPB := Lib.hid (HP.out.keep hb2)
      have H1B : Hid (Rtt.RtIn w2 p 0 61 cur s) := by rw [← hw2]; exact ⟨H1.out.1, H1.out.2⟩
      obtain ⟨_, _, hc2, _, hfz⟩ := H1B.out.cells
      have hfz2 := hfz 2
      simp only [Nat.zero_add] at hc2
      rw [HBK.out] at hc2
      have hlt0 := HP.out.lt
      have HM2 : Hid (Moved lo p w w2) := Moved.of hb2 (Nat.le_of_lt (Nat.lt_of_le_of_lt hlt0.1 hlt0.2))
      rw [hw2]
      clear hw2 hfz hb2 HWT HSI hlt0
      go_wp2_with fail
      obtain ⟨w3, hw3⟩ : ∃ x, w2.setCell ⟨p, 2, none⟩ (.int .i64 (bk + 1)) = x := ⟨_, rfl⟩
      have hrt : Rtt.RtTo w2 w3 p 0 61 cur (Rtt.back s (s.bk + 1)) := by
        rw [← hw3, HBK.out]
        exact H1B.out.here.bk (bk + 1)
      obtain ⟨hp3, hg3⟩ := HPB.out.rt H1B.out hrt (HPB.out.good.back _)
      have hlt2 := HPB.out.lt
      have hlo : lo ≤ w2.heap.size := Nat.le_of_lt (Nat.lt_of_le_of_lt hlt2.1 hlt2.2)
      have HM3 : Hid (Moved lo p w w3) := HM2.out.trans (moved_grown hg3 hlt2.1 hlo)
      have HLO : Hid (lo ≤ w.heap.size) := by have := HP.out.lt; show _ ≤ _; omega
      rw [hw3]
      obtain ⟨cur3, hr3, hl3, _⟩ := hp3.cur
      have HTK := Lib.hid (take_led hl3 HN.out)
      have HP3 := Lib.hid hp3
      have HR3 := Lib.hid hr3
      clear hw3 hrt hp3 hg3 hlt2 hlo hr3 hl3 hc2 hfz2
      refine HTK.out.mono ?_
      rintro e w4 ⟨v, rfl, hg⟩
      obtain ⟨A, c, rfl, htd, hp4, hm4⟩ := HP3.out.gone HR3.out hg
      rw [HP3.out.sel.2] at hp4
      rw [HP3.out.sel.1] at htd ⊢
      have HFR := Lib.hid (htd.frames (Nat.le_trans HP3.out.rising.2.2.1 HN.out) HTOT.out)
      have HTD := Lib.hid htd
      have HP4 := Lib.hid hp4
      have HM4 := Lib.hid (HM3.out.trans hm4)
      have HSZ : Hid (w.heap.size ≤ w4.heap.size) := HM4.out.below.size
      clear htd hp4 hm4 hg HTK HP3 HR3 HM3
      go_wp2_with fail
      refine HFR.out.mono ?_
      rintro e w5 ⟨A', c', rfl, ho5, hb5⟩
      have HF5 : Hid (w5.ownsRow w.heap.size 68 9 (.slice A' (allF kq).length c') (allF kq).length (fqs (allF kq)) ∧ (∀ q ∈ allF kq, FqOwn w5 lo q) ∧ PathIn w5 lo p (Rtt.back s (s.bk + 1)) [] next behind wd ∧ Moved lo p w w5) :=
        ⟨own_base ho5 HSZ.out, allF_own (HTD.out.keep hb5).rows, HP4.out.keep hb5, HM4.out.upper (hb5.mono HSZ.out) HLO.out⟩
      clear ho5 hb5 HFR
      go_wp2_with fail
      first | go_ret2 | go_ret
      exact .inr ⟨HF.out, A', c', rfl, HF5.out⟩
end
end Go.Proofs.YtebfjphmlggacaaGreat.Pa
