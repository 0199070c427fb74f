/- A drawn region whose operations come up one by one, but for two in the middle that come up side by side: two orders. Conditions: as each theorem lists them. -/
import Derived.StillTail
import Derived.Test.YtppbhjjkccogkaaRows
set_option linter.unusedSimpArgs false
set_option linter.unusedVariables false

namespace Go.Proofs.Ytppbhjjkccogkaa.Ls
open Go
section
variable {P : Program} {ops : Array Oper} {md : Region.Mode}

theorem wp_post {o : Oper} {a : Act} {w : World} {K : Act → World → Prop} {Q Q' : Exit → Act → World → Prop} (h : ∀ c a w, Q (.panic c) a w → Q' (.panic c) a w) (hl : LetsOut Q → LetsOut Q')
    (hh : o.wp P a w K Q) : o.wp P a w K Q' := by
  unfold Oper.wp at *
  generalize (execOp a.eval o).run P w = r at *
  cases r with
  | ok n w' =>
    cases n <;> simp only [Oper.upon] at hh ⊢ <;>
      first
        | exact hh
        | exact Calls.mono hh (fun e w'' he => by cases e <;> first | exact he | exact h _ _ _ he | exact hl he)
  | halt x w' => cases x <;> simp only [Oper.upon] at hh ⊢ <;> first | exact hh | exact h _ _ _ hh | exact hl hh

/-- The first k are listed, no other. -/
structure Upto (ops : Array Oper) (listed : Array Bool) (k : Nat) : Prop where
  size : listed.size = ops.size
  yes : ∀ j, j < k → j < ops.size → listed.getD j false = true
  no : ∀ j, k ≤ j → j < ops.size → listed.getD j true = false
theorem Upto.zero (ops : Array Oper) : Upto ops (Array.replicate ops.size false) 0 :=
  ⟨by simp, fun j hj => absurd hj (by omega), fun j _ h => by simp [h]⟩
theorem Upto.step {listed : Array Bool} {k : Nat} (h : Upto ops listed k) (hk : k < ops.size) : Upto ops (listed.setIfInBounds k true) (k + 1) :=
  ⟨by simp [h.size], fun j hj hs => by
    by_cases e : j = k
    · subst e; have := h.size; simp [this, hs]
    · rw [getD_set_ne false (Ne.symm e)]; exact h.yes j (by omega) hs, fun j hj hs => by rw [getD_set_ne true (by omega)]; exact h.no j (by omega) hs⟩
theorem Upto.nobody {listed : Array Bool} (h : Upto ops listed ops.size) : Region.ready md ops listed = [] := by
  refine List.eq_nil_iff_forall_not_mem.2 fun i hi => ?_
  obtain ⟨hun, oi, hoi, _⟩ := mem_ready.1 hi
  have hlt : i < ops.size := (Array.getElem?_eq_some_iff.1 hoi).1
  have h1 := h.yes i hlt hlt
  rw [getD_both hun] at h1
  cases h1
/-- Every operation waits for earlier ones alone. -/
def Early (md : Region.Mode) (ops : Array Oper) : Prop := ∀ j oj, ops[j]? = some oj → ∀ e ∈ oj.after, Region.binds md e = true → e.on < j
theorem Upto.ready {listed : Array Bool} {k : Nat} (h : Upto ops listed k) (he : Early md ops) (hk : k < ops.size) : k ∈ Region.ready md ops listed :=
  mem_ready.2 ⟨h.no k (Nat.le_refl _) hk, _, Array.getElem?_eq_getElem hk, fun e hm hb => h.yes e.on (he k _ (Array.getElem?_eq_getElem hk) e hm hb) (Nat.lt_trans (he k _ (Array.getElem?_eq_getElem hk) e hm hb) hk)⟩
theorem waits_not {listed : Array Bool} {i m : Nat} (hw : Region.waitsFor md ops i m = true) (hm : listed.getD m true = false) : i ∉ Region.ready md ops listed := fun hi => by
  obtain ⟨_, oi, hoi, hall⟩ := mem_ready.1 hi
  obtain ⟨o', ho', e, he, hb, hon⟩ := Region.waitsFor_spec hw
  have : o' = oi := Option.some.inj (ho'.symm.trans hoi)
  subst this
  have h2 := hall e he hb
  rw [hon, getD_both hm] at h2
  cases h2

theorem wpAny_of_pre {Q : Exit → Act → World → Prop} (g : Nat) (he : Early md ops) : ∀ (l : List Oper) (k : Nat) (listed : Array Bool) (a : Act) (w : World), (∀ j, j < l.length → l[j]? = ops[k + j]?) → k + l.length ≤ ops.size →
    (∀ c, k ≤ c → c < k + l.length → ∀ i, c < i → i < ops.size → ∃ m, c ≤ m ∧ m < ops.size ∧ Region.waitsFor md ops i m = true) → Upto ops listed k →
    wpList P ops (Exit.then (fun a w => ∀ L, Upto ops L (k + l.length) → wpAny P md ops Q g L a w) Q) l a w → wpAny P md ops Q (l.length + g) listed a w
  | [], k, listed, a, w, _, _, _, hu, h => by
    rw [show ([] : List Oper).length + g = g by simp]
    exact h listed hu
  | o :: l, k, listed, a, w, hl, hs, hc, hu, h => by
    have h0 : ops[k]? = some o := by simpa using (hl 0 (by simp)).symm
    have hks : k < ops.size := (Array.getElem?_eq_some_iff.1 h0).1
    have hr := hu.ready he hks
    rw [show (o :: l).length + g = (l.length + g) + 1 by simp; omega]
    refine ⟨fun h1 => (by rw [h1] at hr; cases hr), fun i hi => ?_⟩
    obtain ⟨hun, oi, hoi, _⟩ := mem_ready.1 hi
    have his : i < ops.size := (Array.getElem?_eq_some_iff.1 hoi).1
    have hik : i = k := by
      rcases Nat.lt_trichotomy i k with h1 | h1 | h1
      · have := hu.yes i h1 his; rw [getD_both hun] at this; cases this
      · exact h1
      · obtain ⟨m, hm1, hm2, hm3⟩ := hc k (Nat.le_refl _) (by simp) i h1 his
        exact absurd hi (waits_not hm3 (hu.no m hm1 hm2))
    subst hik
    have hw : wpOp P ops Q i (wpList P ops (Exit.then (fun a w => ∀ L, Upto ops L (i + 1 + l.length) → wpAny P md ops Q g L a w) Q) l) a w := by
      rw [show i + (o :: l).length = i + 1 + l.length by simp; omega] at h
      unfold wpOp
      simp only [h0]
      simp only [wpList] at h
      split
      · rename_i hc
        rw [if_pos hc] at h
        refine h.imp (wp_post (fun _ _ _ hq => hq) (fun ⟨a, w, hq⟩ => ⟨a, w, hq⟩)) (fun ⟨h1, a, w, hq⟩ => ⟨h1, a, w, hq⟩)
      · rename_i hc
        rw [if_neg hc] at h
        exact h
    exact wpOp_mono (fun a' w' h' => wpAny_of_pre g he l (i + 1) _ a' w' (fun j hj => by have := hl (j + 1) (by simp; omega); simpa [Nat.add_assoc, Nat.add_comm 1 j] using this) (by simp at hs; omega) (fun c h1 h2 => hc c (by omega) (by simp; omega)) (hu.step hks) h') hw

theorem wpAny_of_rest {Q : Exit → Act → World → Prop} (he : Early md ops) (l : List Oper) (k : Nat) (listed : Array Bool) (a : Act) (w : World) (hl : ∀ j, j < l.length → l[j]? = ops[k + j]?) (hs : k + l.length = ops.size)
    (hc : ∀ c, k ≤ c → ∀ i, c < i → i < ops.size → ∃ m, c ≤ m ∧ m < ops.size ∧ Region.waitsFor md ops i m = true) (hu : Upto ops listed k) (h : wpList P ops Q l a w) : wpAny P md ops Q l.length listed a w := by
  refine wpAny_of_pre 0 he l k listed a w hl (by omega) (fun c h1 _ => hc c h1) hu ?_
  have : ∀ (q : List Oper) (a : Act) (w : World), wpList P ops Q q a w → wpList P ops (Exit.then (fun a w => ∀ L, Upto ops L (k + l.length) → wpAny P md ops Q 0 L a w) Q) q a w := by
    intro q
    induction q with
    | nil => intro a w hq L hL; rw [hs] at hL; exact ⟨hL.nobody, hq⟩
    | cons o q ih =>
      intro a w hq
      simp only [wpList] at hq ⊢
      split
      · rename_i hc
        rw [if_pos hc] at hq
        refine hq.imp (fun hq => wp_post (fun _ _ _ hq => hq) (fun ⟨a, w, hq⟩ => ⟨a, w, hq⟩) (Oper.wp_mono ih hq)) (fun ⟨h1, a, w, hq⟩ => ⟨h1, a, w, hq⟩)
      · rename_i hc
        rw [if_neg hc] at hq
        exact ih _ _ hq
  exact this l a w h

theorem op_of_list {Q : Exit → Act → World → Prop} {i : Nat} {o : Oper} {l : List Oper} {a : Act} {w : World} (h0 : ops[i]? = some o) (h : wpList P ops Q (o :: l) a w) : wpOp P ops Q i (wpList P ops Q l) a w := by
  unfold wpOp
  simp only [h0]
  exact h

def swp : List Oper → List Oper
  | x :: y :: r => y :: x :: r
  | r => r
def waitsL (md : Region.Mode) (o : Oper) (m : Nat) : Bool := o.after.toList.any fun e => Nat.beq e.on m && Region.binds md e
/-- Each operation waits for the one ahead of it and for none behind it; number n + 1 waits for n - 1 in the place of n, number n + 2 for n, too. -/
def chainL (md : Region.Mode) (n : Nat) : Nat → List Oper → Bool
  | _, [] => true
  | j, o :: r => (o.after.toList.all fun e => Nat.blt e.on j || !Region.binds md e) && ((match Nat.beq j 0, Nat.beq j (n + 1) with | true, _ => true | _, true => Nat.beq n 0 || waitsL md o (n - 1) | _, _ => waitsL md o (j - 1)) && ((!Nat.beq j (n + 2) || waitsL md o n) && chainL md n (j + 1) r))
theorem chainL_get : ∀ (l : List Oper) (n j : Nat), chainL md n j l = true → ∀ (i : Nat) (o : Oper), l[i]? = some o → (∀ e ∈ o.after, Region.binds md e = true → e.on < j + i) ∧ (j + i ≠ 0 → j + i ≠ n + 1 → waitsL md o (j + i - 1) = true) ∧ (j + i = n + 1 → n ≠ 0 → waitsL md o (n - 1) = true) ∧ (j + i = n + 2 → waitsL md o n = true)
  | [], _, _, _, i, o, h => by simp at h
  | x :: l, n, j, hB, i, o, h => by
    simp only [chainL, Bool.and_eq_true] at hB
    obtain ⟨h1, h2, h3, h4⟩ := hB
    cases i with
    | zero =>
      simp only [List.getElem?_cons_zero, Option.some.injEq] at h
      subst h
      rw [Nat.add_zero]
      refine ⟨fun e he hb => ?_, fun n0 n1 => ?_, fun n1 n0 => ?_, fun n2 => ?_⟩
      · have := List.all_eq_true.1 h1 e (by simpa using he)
        simp only [hb, Bool.not_true, Bool.or_false] at this
        rw [Nat.blt_eq] at this; exact this
      · have e0 : Nat.beq j 0 = false := by cases hx : Nat.beq j 0; rfl; exact absurd (Nat.eq_of_beq_eq_true hx) n0
        have e1 : Nat.beq j (n + 1) = false := by cases hx : Nat.beq j (n + 1); rfl; exact absurd (Nat.eq_of_beq_eq_true hx) n1
        rw [e0, e1] at h2
        exact h2
      · subst n1
        have e0 : Nat.beq (n + 1) 0 = false := rfl
        have e1 : Nat.beq (n + 1) (n + 1) = true := Nat.beq_refl _
        rw [e0, e1] at h2
        have e2 : Nat.beq n 0 = false := by cases hx : Nat.beq n 0; rfl; exact absurd (Nat.eq_of_beq_eq_true hx) n0
        simpa [e2] using h2
      · subst n2
        have e1 : Nat.beq (n + 2) (n + 2) = true := Nat.beq_refl _
        simpa [e1] using h3
    | succ i =>
      have := chainL_get l n (j + 1) h4 i o (by simpa using h)
      rw [show j + (i + 1) = j + 1 + i by omega]
      exact this
theorem waits_of {l : List Oper} {i m : Nat} {o : Oper} (h : l[i]? = some o) (hw : waitsL md o m = true) : Region.waitsFor md l.toArray i m = true := by
  unfold Region.waitsFor
  have h0 : l.toArray[i]? = some o := by simpa using h
  rw [h0]
  obtain ⟨e, he, h2⟩ := List.any_eq_true.1 hw
  simp only [Bool.and_eq_true] at h2
  refine Array.any_eq_true'.2 ⟨e, by simpa using he, ?_⟩
  simp [h2.2, Nat.eq_of_beq_eq_true h2.1]

theorem wp_region_two {id : Nat} {Q : Exit → Act → World → Prop} {a : Act} {w : World} {l : List Oper} (n : Nat) (hm : P.follows .mixedOrders = true) (hn : n + 2 ≤ l.length) (hB : chainL .any n 0 l = true)
    (h : wpList P l.toArray (Exit.then (fun a w => wpList P l.toArray Q (l.drop n) a w ∧ wpList P l.toArray Q (swp (l.drop n)) a w) Q) (l.take n) a w.drew) : (Code.region id l.toArray true).wp P Q a w := by
  have hT := chainL_get l n 0 hB
  have hsz : l.toArray.size = l.length := by simp
  have he : Early .any l.toArray := fun j oj hj e hm hb => by have := (hT j oj (by simpa using hj)).1 e hm hb; omega
  have wait1 : ∀ i, 0 < i → i ≠ n + 1 → i < l.toArray.size → Region.waitsFor .any l.toArray i (i - 1) = true := fun i h0 h1 h2 => by
    have hi := List.getElem?_eq_getElem (l := l) (i := i) (by omega)
    have := (hT i _ hi).2.1 (by omega) (by omega)
    rw [Nat.zero_add] at this
    exact waits_of hi this
  have htl : (l.take n).length = n := by simp; omega
  obtain ⟨x, hx⟩ : ∃ x, l[n]? = some x := ⟨_, List.getElem?_eq_getElem (by omega)⟩
  obtain ⟨y, hy⟩ : ∃ y, l[n + 1]? = some y := ⟨_, List.getElem?_eq_getElem (by omega)⟩
  obtain ⟨r, hr⟩ : ∃ r, l.drop (n + 2) = r := ⟨_, rfl⟩
  have hrl : r.length = l.length - (n + 2) := by rw [← hr]; simp
  have hd : l.drop n = x :: y :: r := by
    rw [← hr, List.drop_eq_getElem_cons (by omega), List.drop_eq_getElem_cons (by omega)]
    rw [List.getElem?_eq_getElem (by omega)] at hx hy
    simp only [Option.some.injEq] at hx hy
    rw [hx, hy]
  have hox : l.toArray[n]? = some x := by simpa using hx
  have hoy : l.toArray[n + 1]? = some y := by simpa using hy
  have hrj : ∀ j, r[j]? = l.toArray[n + 2 + j]? := fun j => by rw [← hr]; simp [List.getElem?_drop]
  have hcT : ∀ c, n + 1 ≤ c → ∀ i, c < i → i < l.toArray.size → ∃ m, c ≤ m ∧ m < l.toArray.size ∧ Region.waitsFor .any l.toArray i m = true := fun c h1 i h2 h3 => ⟨i - 1, by omega, by omega, wait1 i (by omega) (by omega) h3⟩
  refine wp_region_any hm ?_
  have key : ∀ a w, (wpList P l.toArray Q (l.drop n) a w ∧ wpList P l.toArray Q (swp (l.drop n)) a w) → ∀ L, Upto l.toArray L n → wpAny P .any l.toArray Q (r.length + 2) L a w := fun a w ⟨k1, k2⟩ L hL => by
    rw [hd] at k1 k2
    have hr0 := hL.ready he (by omega)
    refine ⟨fun h0 => (by rw [h0] at hr0; cases hr0), fun i hi => ?_⟩
    obtain ⟨hun, oi, hoi, _⟩ := mem_ready.1 hi
    have his : i < l.toArray.size := (Array.getElem?_eq_some_iff.1 hoi).1
    have hcase : i = n ∨ i = n + 1 := by
      rcases Nat.lt_or_ge i n with h1 | h1
      · have := hL.yes i h1 his; rw [getD_both hun] at this; cases this
      · rcases Nat.lt_or_ge i (n + 2) with h2 | h2
        · omega
        · exact absurd hi (waits_not (wait1 i (by omega) (by omega) his) (hL.no (i - 1) (by omega) (by omega)))
    rcases hcase with rfl | rfl
    · refine wpOp_mono (fun a' w' h' => ?_) (op_of_list hox k1)
      exact wpAny_of_rest he (y :: r) (i + 1) _ a' w' (fun j hj => by
        cases j with
        | zero => simpa using hoy.symm
        | succ j => have := hrj j; rw [show i + 1 + (j + 1) = i + 2 + j by omega]; simpa using this) (by simp [hrl]; omega) hcT (hL.step (by omega)) h'
    · refine wpOp_mono (fun a' w' h' => ?_) (op_of_list hoy k2)
      have hns : (n + 1) < L.size := by rw [hL.size]; omega
      have hno : (L.setIfInBounds (n + 1) true).getD n true = false := by rw [getD_set_ne true (by omega)]; exact hL.no n (Nat.le_refl _) (by omega)
      have hrn : n ∈ Region.ready .any l.toArray (L.setIfInBounds (n + 1) true) := mem_ready.2 ⟨hno, x, hox, fun e hm hb => by
        have := he n x hox e hm hb
        rw [getD_set_ne false (by omega)]
        exact hL.yes e.on this (by omega)⟩
      refine ⟨fun h0 => (by rw [h0] at hrn; cases hrn), fun j hj => ?_⟩
      obtain ⟨hun', oj, hoj, _⟩ := mem_ready.1 hj
      have hjs : j < l.toArray.size := (Array.getElem?_eq_some_iff.1 hoj).1
      have hjn : j = n := by
        rcases Nat.lt_trichotomy j n with h1 | h1 | h1
        · have h3 := hL.yes j h1 hjs
          rw [getD_set_ne true (by omega)] at hun'
          rw [getD_both hun'] at h3; cases h3
        · exact h1
        · by_cases h2 : j = n + 1
          · subst h2
            have : (L.setIfInBounds (n + 1) true).getD (n + 1) true = true := by simp [hns]
            rw [this] at hun'; cases hun'
          · by_cases h3 : j = n + 2
            · subst h3
              have hi2 := List.getElem?_eq_getElem (l := l) (i := n + 2) (by omega)
              have := (hT (n + 2) _ hi2).2.2.2 (by omega)
              exact absurd hj (waits_not (waits_of hi2 this) hno)
            · exact absurd hj (waits_not (wait1 j (by omega) h2 hjs) (by rw [getD_set_ne true (by omega)]; exact hL.no (j - 1) (by omega) (by omega)))
      subst hjn
      refine wpOp_mono (fun a'' w'' h'' => ?_) (op_of_list hox h')
      refine wpAny_of_rest he r (j + 2) _ a'' w'' (fun i _ => hrj i) (by simp [hrl]; omega) (fun c h1 => hcT c (by omega)) ?_ h''
      rw [Array.setIfInBounds_comm _ _ (by omega)]
      exact (hL.step (by omega)).step (by omega)
  have hs : l.toArray.size = (l.take n).length + (r.length + 2) := by rw [htl, hrl]; simp; omega
  rw [show wpAny P .any l.toArray Q l.toArray.size = wpAny P .any l.toArray Q ((l.take n).length + (r.length + 2)) by rw [← hs]]
  refine wpAny_of_pre (r.length + 2) he (l.take n) 0 _ a _ (fun j hj => by
    have hj' : j < n := by rw [htl] at hj; exact hj
    simp [hj']) (by omega) (fun c h1 h2 i h3 h4 => ?_) (Upto.zero _) ?_
  · rw [htl] at h2
    by_cases h5 : i = n + 1
    · subst h5
      have hi2 := List.getElem?_eq_getElem (l := l) (i := n + 1) (by omega)
      have := (hT (n + 1) _ hi2).2.2.1 (by omega) (by omega)
      exact ⟨n - 1, by omega, by omega, waits_of hi2 this⟩
    · exact ⟨i - 1, by omega, by omega, wait1 i (by omega) h5 h4⟩
  · have hmono : ∀ (q : List Oper) (a : Act) (w : World), wpList P l.toArray (Exit.then (fun a w => wpList P l.toArray Q (l.drop n) a w ∧ wpList P l.toArray Q (swp (l.drop n)) a w) Q) q a w → wpList P l.toArray (Exit.then (fun a w => ∀ L, Upto l.toArray L (0 + (l.take n).length) → wpAny P .any l.toArray Q (r.length + 2) L a w) Q) q a w := by
      intro q
      induction q with
      | nil => intro a w hq L hL; rw [htl, Nat.zero_add] at hL; exact key a w hq L hL
      | cons o q ih =>
        intro a w hq
        simp only [wpList] at hq ⊢
        split
        · rename_i hc
          rw [if_pos hc] at hq
          refine hq.imp (fun hq => wp_post (fun _ _ _ hq => hq) (fun ⟨a, w, hq⟩ => ⟨a, w, hq⟩) (Oper.wp_mono ih hq)) (fun ⟨h1, a, w, hq⟩ => ⟨h1, a, w, hq⟩)
        · rename_i hc
          rw [if_neg hc] at hq
          exact ih _ _ hq
    exact hmono _ _ _ h
end
end Go.Proofs.Ytppbhjjkccogkaa.Ls
