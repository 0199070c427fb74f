/- PathSpread: Send, its new rows told; the hand's right frames as a ledger's; notes. Conditions: as each theorem lists them. -/
import Derived.Test.YtebfjphmlggacaaJPf
import Derived.Test.YtebfjphmlggacaaJSq
import Derived.Test.YtebfjphmlggacaaJ8
import Derived.Test.YtebfjphmlggacaaJPaKn
import Derived.Test.YtebfjphmlggacaaJH1
set_option linter.unusedSimpArgs false
set_option linter.unusedVariables false

namespace Go.Proofs.Ytebfjphmlggacaa.Pv
open Go Go.RowKit Go.Proofs.Ytebfjphmlggacaa Go.Proofs.Ytebfjphmlggacaa.Sp Go.Proofs.Ytebfjphmlggacaa.Ld
open Go.Proofs.Ytebfjphmlggacaa.Pa (allF_app selK selK_map selK_mem PathIn FrRow lastN badL heardS probeF lateS inRs elicF elicits_any)
open Go.Proofs.Ytebfjphmlggacaa.Sq (TwinQ PlQ)

section
variable {w w' : World} {lo p : Nat} {s : Rtt.RS} {kq : List (Pk × List Fq)} {next behind : Nat} {wd : Cg.Win}
/-- What Send leaves: a packet more, its frames copied into new rows. -/
def SendP2 (w : World) (lo p : Nat) (s : Rtt.RS) (kq : List (Pk × List Fq)) (next behind : Nat) (wd : Cg.Win) (now : Int) (qs : List Fq) (w' : World) : Prop :=
  ∃ k' qs', k'.num = next ∧ k'.at' = now ∧ k'.el = elicF qs ∧ qs'.length = qs.length ∧ (∀ (i : Nat) (q q' : Fq), qs[i]? = some q → qs'[i]? = some q' → FqSame q q') ∧ PathIn w' lo p s (kq ++ [(k', qs')]) (next + 1) behind wd ∧ Moved lo p w w' ∧ FrRow w' w.heap.size k' qs'

set_option maxRecDepth 100000 in
set_option maxHeartbeats 4000000 in
theorem send_path2 (h : PathIn w lo p s kq next behind wd) (now : Int) (hnow : -9223372036854775808 ≤ now ∧ now ≤ 9223372036854775807) (fa : Option Addr) (fn fc : Nat) (qs : List Fq) (hql : qs.length = fn) (hfx : Rd w w.heap.size fa (fn * 9) (fqs qs)) (hfq : ∀ q ∈ qs, FqOk w q) (hfn : fn ≤ 1048576) (hfc : fn ≤ fc) (hn : next < 1099511627776) :
    Calls Try.prog 8 #[.pointer (some ⟨p, 0, none⟩), .int .i64 now, .slice fa fn fc] w fun e w' => e = .returned (.int .i64 (next : Int)) ∧ SendP2 w lo p s kq next behind wd now qs w' := by
  obtain ⟨cur, h1, h2, h3⟩ := h.cur
  have HP := Lib.hid h
  have H1 := Lib.hid h1
  have H2 := Lib.hid h2
  have HNX : Hid (∀ W, Below w.heap.size w W → Calls Try.prog 14 #[.pointer (some ⟨p, 4, none⟩)] W fun e w' => e = .returned (.int .i64 (next : Int)) ∧ w' = W) := fun W hb => next_led (h2.keep hb)
  have HEL : Hid (∀ W, Below w.heap.size w W → Calls Try.prog 22 #[.slice fa fn fc] W fun e w' => e = .returned (.bool (elicF qs)) ∧ Below W.heap.size W w') := fun W hb => elicits_any qs fn fc fa W hql ((hfx.below hb (Nat.le_refl _)).more hb.size) hfc hfn
  have HFX := Lib.hid hfx
  have HFQ := Lib.hid hfq
  have HQL := Lib.hid hql
  have HFN := Lib.hid hfn
  have HNOW := Lib.hid hnow
  have hnI : (next : Int) < 1099511627776 := by omega
  clear h h1 h2 h3 hfx hfq hql hfn hnow
  go_enter Try.func8, Try.ntmps8
  go_wp2_with fail
  refine (HNX.out _ (Below.refl _ _)).mono ?_; rintro e w1 ⟨rfl, hw1⟩
  have hw1 := hw1
  subst hw1
  go_wp2_with fail
  refine wp_region_held_drew (S := (fun _ => True)) (by kernel_rfl) ?_ (fun hHeld => ?_)
  · exact trivial
  refine wpAnyH_take (i := 0) (v := ?_) rfl (by kernel_rfl) (by kernel_rfl) (by kernel_rfl) (fun _ _ _ h => h) (Or.inl ⟨by rfl, ?_⟩) (by assumption) ?_
  rotate_left
  · intro w hSw; (try dsimp only at hSw); go_simp; try with_reducible rfl
  go_simp
  refine wpAnyH_take (i := 1) (v := ?_) rfl (by kernel_rfl) (by kernel_rfl) (by kernel_rfl) (fun _ _ _ h => h) (Or.inl ⟨by rfl, ?_⟩) (by assumption) ?_
  rotate_left
  · intro w hSw; (try dsimp only at hSw); go_simp; try with_reducible rfl
  go_simp
  refine wpAnyH_take (i := 2) (v := ?_) rfl (by kernel_rfl) (by kernel_rfl) (by kernel_rfl) (fun _ _ _ h => h) (Or.inl ⟨by rfl, ?_⟩) (by assumption) ?_
  rotate_left
  · intro w hSw; (try dsimp only at hSw); go_simp; try with_reducible rfl
  go_simp
  refine wpAnyH_take (i := 3) (v := ?_) rfl (by kernel_rfl) (by kernel_rfl) (by kernel_rfl) (fun _ _ _ h => h) (Or.inl ⟨by rfl, ?_⟩) (by assumption) ?_
  rotate_left
  · intro w hSw; (try dsimp only at hSw); go_simp; try with_reducible rfl
  go_simp
  refine wpAnyH_take (i := 4) (v := ?_) rfl (by kernel_rfl) (by kernel_rfl) (by kernel_rfl) (fun _ _ _ h => h) (Or.inl ⟨by rfl, ?_⟩) (by assumption) ?_
  rotate_left
  · intro w hSw; (try dsimp only at hSw); go_simp; try with_reducible rfl
  go_simp
  refine wpAnyH_take (i := 5) (v := ?_) rfl (by kernel_rfl) (by kernel_rfl) (by kernel_rfl) (fun _ _ _ h => h) (Or.inl ⟨by rfl, ?_⟩) (by assumption) ?_
  rotate_left
  · intro w hSw; (try dsimp only at hSw); go_simp; try with_reducible rfl
  go_simp
  refine wpAnyH_take (i := 7) (v := ?_) rfl (by kernel_rfl) (by kernel_rfl) (by kernel_rfl) (fun _ _ _ h => h) (Or.inl ⟨by rfl, ?_⟩) (by assumption) ?_
  rotate_left
  · intro w hSw; (try dsimp only at hSw); go_simp; try with_reducible rfl
  go_simp
  refine wpAnyH_ready (rs := [6]) (by kernel_rfl) (by simp) ?_
  refine AllReadyH.cons rfl (fun K hK => ?_) AllReadyH.nil
  go_simp
  refine (HEL.out _ ((Below.refl _ _).drew)).mono ?_
  rintro e w2 ⟨rfl, hb2⟩
  refine hK.out _ _ ?_ (fun hHeld => ?_)
  · exact trivial
  clear hK K
  go_simp
  refine wpAnyH_take (i := 8) (v := ?_) rfl (by kernel_rfl) (by kernel_rfl) (by kernel_rfl) (fun _ _ _ h => h) (Or.inl ⟨by rfl, ?_⟩) (by assumption) ?_
  rotate_left
  · intro w hSw; (try dsimp only at hSw); go_simp; try with_reducible rfl
  go_simp
  refine wpAnyH_ready (rs := [9]) (by kernel_rfl) (by simp) ?_
  refine AllReadyH.cons rfl (fun K hK => ?_) AllReadyH.nil
  go_simp
  refine hK.out _ _ ?_ (fun hHeld => ?_)
  · exact trivial
  clear hK K
  go_simp
  refine wpAnyH_ready (rs := [10]) (by kernel_rfl) (by simp) ?_
  refine AllReadyH.cons rfl (fun K hK => ?_) AllReadyH.nil
  go_simp
  have hb2' : Below w1.heap.size w1 w2 := (Below.refl w1.heap.size w1).drew.trans hb2
  obtain ⟨w3, hw3⟩ : ∃ x, w2.alloc (.cells #[.int .i64 (next : Int), .int .i64 now, .bool (elicF qs), .slice fa fn fc] 63) = x := ⟨_, rfl⟩
  have hb3 : Below w1.heap.size w1 w3 := hw3 ▸ hb2'.alloc hb2'.size _
  have hrd : Rd w3 w3.heap.size (some ⟨w2.heap.size, 0, none⟩) (1 * 4) (pks [⟨next, now, elicF qs, fa, fn, fc⟩]) := by
    rw [← hw3]
    exact rd_new _ _ _ _ _ _ _ rfl (by simp) rfl rfl
  have HPU := Lib.hid (put1_led w3 lo p 4 _ cur _ next behind (H2.out.keep hb3) now (elicF qs) fa fn fc qs HQL.out ((HFX.out.below hb3 (Nat.le_refl _)).more hb3.size) (fun q hq => (HFQ.out q hq).below hb3) HFN.out (by omega) (some ⟨w2.heap.size, 0, none⟩) 1 (Nat.le_refl _) hrd)
  have HB3 := Lib.hid hb3
  rw [hw3]
  clear hrd hb3 hb2' hw3 hb2 HEL
  refine HPU.out.mono ?_
  rintro e w4 ⟨rfl, cur', k', qs', e1, e2, e3, e4, e5, ho, hq, hl, hs, hm⟩
  replace e4 : k'.fn = fn := e4
  replace e5 : qs'.length = fn := e5
  have HS : Hid (SendP2 w1 lo p s kq next behind wd now qs w4) := by
    have hlt := HP.out.lt
    have hlo : lo ≤ w3.heap.size := Nat.le_trans (Nat.le_of_lt (Nat.lt_of_le_of_lt hlt.1 hlt.2)) HB3.out.size
    have hm' : Moved lo p w1 w4 := (Moved.of HB3.out (Nat.le_of_lt (Nat.lt_of_le_of_lt hlt.1 hlt.2))).trans hm
    have hlen : qs'.length = qs.length := by rw [e5]; exact HQL.out.symm
    have hbz : w1.heap.size ≤ w3.heap.size := HB3.out.size
    have hrow : ∀ lo', lo' ≤ w3.heap.size → FrRow w4 lo' k' qs' := fun lo' hlo' => by
      refine ⟨by rw [e4, e5], by have := HFN.out; show k'.fn ≤ _; omega, by rw [e2]; exact HNOW.out, own_base ho hlo', fun q' hq' => ?_⟩
      obtain ⟨i, hi, e⟩ := List.mem_iff_getElem.1 hq'
      have h2 : qs'[i]? = some q' := by rw [List.getElem?_eq_getElem hi, e]
      have hi' : i < qs'.length := hi
      obtain ⟨q0, hq0⟩ : ∃ q0, qs[i]? = some q0 := ⟨_, List.getElem?_eq_getElem (by omega)⟩
      obtain ⟨_, f2⟩ := hq i q0 q' hq0 h2
      exact ⟨own_base f2.1 hlo', own_base f2.2 hlo'⟩
    refine ⟨k', qs', e1, e2, e3, hlen, fun i q q' h1 h2 => (hq i q q' h1 h2).1, HP.out.led H1.out hl hs hm' (by simp) (fun x hx => ?_), hm', hrow _ hbz⟩
    rcases List.mem_append.1 hx with hx | hx
    · exact .inl hx
    · right
      obtain rfl : x = (k', qs') := by simpa using hx
      exact hrow _ hlo
  clear e1 e2 e3 e4 e5 ho hq hl hs hm HPU
  refine hK.out _ _ ?_ (fun hHeld => ?_)
  · exact trivial
  clear hK K
  go_simp
  refine wpAnyH_done (by kernel_rfl) ?_ _
  go_wp2_with fail
  go_ret
  exact ⟨rfl, HS.out⟩

end
/-- A frame of package frame's texts as a ledger's. -/
theorem fq_of {w : World} {f : Fr} {cs : List Value} (h : FrC w f cs) (hok : OkF f) : ∃ q, cs = fqC q ∧ FqOwn w 0 q ∧ PlQ q ∧ FqOk w q := by
  obtain ⟨A, n, c, A2, n2, c2, rfl, h1, h2, h3, h4⟩ := h
  have hn : n ≤ 120 := by have := hok.data.1; omega
  have hn2 : n2 ≤ 8 := by
    rcases hok.zsp with ⟨_, m, _, hm, hs⟩ | ⟨_, hs⟩
    · have := hs.1
      omega
    · rw [hs] at h2
      simp only [List.length_nil] at h2
      omega
  obtain ⟨_, _, e1, _, _, _, r1⟩ := own_form h3
  obtain ⟨_, _, e2, _, _, _, r2⟩ := own_form h4
  simp only [Value.slice.injEq, true_and] at e1 e2
  obtain ⟨rfl, rfl⟩ := e1
  obtain ⟨rfl, rfl⟩ := e2
  rw [Nat.mul_one] at r1
  refine ⟨⟨f.k, f.id, f.off, f.a, f.b, f.note, f.fin, _, n, _, bv f.data, _, n2, _, ints f.spans⟩, rfl, ⟨h3, h4⟩, Sq.PlQ.of _ f.data f.spans rfl rfl hn2, ⟨r1, fun u hu => ?_, ?_, r2, fun u hu => ?_, ?_⟩⟩
  · obtain ⟨b, _, rfl⟩ := List.mem_map.1 hu
    rfl
  · show n ≤ _; omega
  · obtain ⟨b, _, rfl⟩ := List.mem_map.1 hu
    rfl
  · show n2 ≤ _; omega
theorem fqs_of {w : World} : ∀ {fs : List Fr} {cs : List Value}, FrsC w fs cs → (∀ f ∈ fs, OkF f) → ∃ qs, cs = fqs qs ∧ qs.length = fs.length ∧ ∀ q ∈ qs, FqOwn w 0 q ∧ PlQ q ∧ FqOk w q
  | [], _, h, _ => ⟨[], h, rfl, fun q hq => by cases hq⟩
  | f :: fs, _, ⟨c1, c2, e, h1, h2⟩, hok => by
    obtain ⟨q, e1, hq⟩ := fq_of h1 (hok f (by simp))
    obtain ⟨qs, e2, hl, hqs⟩ := fqs_of h2 fun g hg => hok g (by simp [hg])
    refine ⟨q :: qs, by rw [e, e1, e2]; rfl, by simp [hl], fun x hx => ?_⟩
    rcases List.mem_cons.1 hx with rfl | hx
    · exact hq
    · exact hqs x hx
/-- The hand's Right, as a ledger's frames. -/
theorem right_fqs (K : Nat) (hK : K ≤ 100) (rs : List Rw) (A : Option Addr) (n c : Nat) (w : World) (hr : IsRaws w A c n rs) :
    Calls Try.prog 15 #[.slice A n c, .int .i64 (K : Int)] w fun e w' => ∃ A' n' c' qs, e = .returned (.slice A' n' c') ∧ qs.length = n' ∧ n' ≤ K ∧ w'.ownsRow w.heap.size 28 9 (.slice A' n' c') n' (fqs qs) ∧ (∀ q ∈ qs, FqOwn w' 0 q ∧ PlQ q ∧ FqOk w' q) ∧ Below w.heap.size w w' := by
  refine (hright_any K hK rs A n c w hr).mono ?_
  rintro e w' ⟨A', n', c', fs, rfl, hl, hn, hok, ⟨cells, ho, hc⟩, hb⟩
  obtain ⟨qs, rfl, hq, hqs⟩ := fqs_of hc hok
  rw [hl] at ho
  exact ⟨A', n', c', qs, rfl, hq.trans hl, hn, ho, hqs, hb⟩

/-- The first j have their notes. -/
def noted (j : Nat) (qs : List Fq) : List Fq := qs.mapIdx fun i q => if i < j then { q with note := 100 + (i : Int) } else q
theorem noted_len (j : Nat) (qs : List Fq) : (noted j qs).length = qs.length := by simp [noted]
theorem noted_zero (qs : List Fq) : noted 0 qs = qs := by
  unfold noted
  refine List.ext_getElem? fun i => ?_
  rw [List.getElem?_mapIdx]
  simp
theorem noted_get (j : Nat) (qs : List Fq) (i : Nat) (q : Fq) (h : qs[i]? = some q) : (noted j qs)[i]? = some (if i < j then { q with note := 100 + (i : Int) } else q) := by
  unfold noted
  rw [List.getElem?_mapIdx, h]
  rfl
theorem noted_succ (j : Nat) (qs : List Fq) (q : Fq) (h : qs[j]? = some q) : noted (j + 1) qs = (noted j qs).set j { q with note := 100 + (j : Int) } := by
  have hj : j < qs.length := (List.getElem?_eq_some_iff.1 h).1
  refine List.ext_getElem? fun i => ?_
  rw [List.getElem?_set, noted_len]
  by_cases hij : j = i
  · subst hij
    rw [if_pos rfl, if_pos hj, noted_get _ _ _ _ h, if_pos (by omega)]
  · rw [if_neg hij]
    cases hq : qs[i]? with
    | none =>
      rw [List.getElem?_eq_none (by rw [noted_len]; exact List.getElem?_eq_none_iff.1 hq), List.getElem?_eq_none (by rw [noted_len]; exact List.getElem?_eq_none_iff.1 hq)]
    | some q' =>
      rw [noted_get _ _ _ _ hq, noted_get _ _ _ _ hq]
      by_cases h1 : i < j
      · rw [if_pos h1, if_pos (by omega)]
      · rw [if_neg h1, if_neg (by omega)]
theorem fqs_note : ∀ (l : List Fq) (j : Nat) (q : Fq) (v : Int), l[j]? = some q → (fqs l).set (j * 9 + 5) (.int .i64 v) = fqs (l.set j { q with note := v })
  | [], j, q, v, h => by simp at h
  | x :: r, 0, q, v, h => by
    simp only [List.getElem?_cons_zero, Option.some.injEq] at h
    subst h
    show (fqC x ++ fqs r).set (0 * 9 + 5) _ = fqC _ ++ fqs r
    rw [List.set_append_left _ _ (by show 0 * 9 + 5 < 9; omega)]
    rfl
  | x :: r, j + 1, q, v, h => by
    show (fqC x ++ fqs r).set ((j + 1) * 9 + 5) _ = fqC x ++ fqs (r.set j _)
    have e : (fqC x).length = 9 := rfl
    rw [List.set_append_right _ _ (by omega), e, show (j + 1) * 9 + 5 - 9 = j * 9 + 5 by omega, fqs_note r j q v (by simpa using h)]
theorem noted_own {w : World} {lo : Nat} {qs : List Fq} (j : Nat) (h : ∀ q ∈ qs, FqOwn w lo q ∧ PlQ q ∧ FqOk w q) : ∀ q ∈ noted j qs, FqOwn w lo q ∧ PlQ q ∧ FqOk w q := fun q hq => by
  obtain ⟨i, hi, e⟩ := List.mem_iff_getElem.1 hq
  have hi' : i < qs.length := by rwa [noted_len] at hi
  have h0 : qs[i]? = some qs[i] := List.getElem?_eq_getElem hi'
  have h1 : (noted j qs)[i]? = some q := by rw [List.getElem?_eq_getElem hi, e]
  rw [noted_get _ _ _ _ h0] at h1
  simp only [Option.some.injEq] at h1
  subst h1
  have := h _ (List.getElem_mem hi')
  split
  · exact this
  · exact this
end Go.Proofs.Ytebfjphmlggacaa.Pv
