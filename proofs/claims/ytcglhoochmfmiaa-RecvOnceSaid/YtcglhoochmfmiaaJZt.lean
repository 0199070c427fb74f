/- RecvOnce, plainly, and in memory: a stream, what was written, what was taken, and what came as a row of bools. Conditions: as each theorem lists them. -/
import Derived.Test.YtcglhoochmfmiaaJZs0
import Derived.Test.YtcglhoochmfmiaaJZr
import Derived.Test.YtcglhoochmfmiaaJZn
set_option linter.unusedSimpArgs false
set_option linter.unusedVariables false

namespace Go.Proofs.Ytcglhoochmfmiaa.Re
open Go Go.RowKit Go.Proofs.Ytcglhoochmfmiaa Go.Proofs.Ytcglhoochmfmiaa.Sp Go.Proofs.Ytcglhoochmfmiaa.Se Go.Maps

structure OnP (al : List Nat) (t : Nat) (hd : Nat → Bool) (s : Rs) : Prop where
  ri : RI s (fun k => al.getD k 0)
  rd : s.rd = s.tk
  tl : s.tl = 400
  br : s.br = false
  tk : s.tk = (t : Int)
  tL : t ≤ al.length
  top : s.top ≤ (al.length : Int)
  en : s.en = true → s.top = (al.length : Int)
  fin : 0 < al.length → hd (al.length - 1) = true → s.en = true
  mem : ∀ x : Nat, x < al.length → Sp.mem s.es (x : Int) = hd x
theorem OnP.new (al : List Nat) : OnP al 0 (fun _ => false) newR :=
  ⟨newR_RI _, rfl, rfl, rfl, rfl, Nat.zero_le _, by show (0 : Int) ≤ _; omega, (fun h => by cases h), (fun _ h => by cases h), fun x _ => by simp [newR, Sp.mem, up, oddB]⟩
theorem OnP.congr {al : List Nat} {t : Nat} {hd hd' : Nat → Bool} {s : Rs} (h : OnP al t hd s) (he : ∀ x, x < al.length → hd x = hd' x) : OnP al t hd' s :=
  ⟨h.ri, h.rd, h.tl, h.br, h.tk, h.tL, h.top, h.en, fun h0 h1 => h.fin h0 (by rw [he _ (by omega)]; exact h1), fun x hx => (h.mem x hx).trans (he x hx)⟩
theorem OnP.put {al : List Nat} {t : Nat} {hd : Nat → Bool} {s : Rs} (h : OnP al t hd s) (hL : al.length ≤ 400) (a n : Nat) (han : a + n ≤ al.length) :
    ∃ s1 f, putS s (a : Int) (decide (a + n = al.length)) ((al.drop a).take n) = (f, 0, s1) ∧ OnP al t (fun x => decide (a ≤ x ∧ x < a + n) || hd x) s1 ∧ f = s1.top - s.top ∧ (a + n = al.length → s1.en = true) := by
  have hl := sub_len al a n han
  have htl := h.tl
  have htp := h.top
  obtain ⟨fin, hfin⟩ : ∃ b, decide (a + n = al.length) = b := ⟨_, rfl⟩
  have hfe : fin = true ↔ a + n = al.length := by rw [← hfin]; simp
  rw [hfin]
  have hr : refuseS s ((a : Int) + (((al.drop a).take n).length : Int)) fin = 0 := by
    rw [hl]
    unfold refuseS
    rw [if_neg (by omega), if_neg]
    simp only [Bool.or_eq_true, Bool.and_eq_true, decide_eq_true_eq, not_or, not_and]
    exact ⟨fun he => by have := h.en he; omega, fun he => by have := hfe.1 he; omega⟩
  have h1 := put_form s a fin _ (by rw [hl]; omega) hr
  have h2 := h.ri.put a fin _ (fun i hi => by
    rw [hl] at hi
    rw [List.getD_eq_getElem?_getD, List.getD_eq_getElem?_getD, List.getElem?_take_of_lt hi, List.getElem?_drop]) hr
  rw [hl] at h1 h2
  obtain ⟨T1, hT1⟩ : ∃ x, topS s ((a : Int) + (n : Int)) fin n = x := ⟨_, rfl⟩
  have hT : T1 ≤ (al.length : Int) ∧ s.top ≤ T1 ∧ (fin = true → T1 = (al.length : Int)) := by
    rw [← hT1]
    unfold topS
    by_cases hc : n = 0 ∧ fin = false
    · rw [if_pos hc]; exact ⟨htp, Int.le_refl _, fun hf => by rw [hc.2] at hf; cases hf⟩
    · rw [if_neg hc]; exact ⟨by omega, by omega, fun hf => by have := hfe.1 hf; omega⟩
  rw [hT1] at h1
  rw [h1] at h2
  refine ⟨_, _, h1, ⟨h2.1, h.rd, h.tl, h.br, h.tk, h.tL, hT.1, fun he => ?_, fun h0 hh => ?_, fun x hx => ?_⟩, rfl, fun he => ?_⟩
  · show T1 = _
    have he' : (s.en || fin) = true := he
    rw [Bool.or_eq_true] at he'
    rcases he' with he' | he'
    · have := h.en he'; omega
    · exact hT.2.2 he'
  · show (s.en || fin) = true
    rw [Bool.or_eq_true]
    have hh' : (decide (a ≤ al.length - 1 ∧ al.length - 1 < a + n) || hd (al.length - 1)) = true := hh
    rw [Bool.or_eq_true, decide_eq_true_eq] at hh'
    rcases hh' with hh' | hh'
    · exact .inr (hfe.2 (by omega))
    · exact .inl (h.fin h0 hh')
  · rw [h2.2, h.mem x hx]
    congr 1
    exact decide_eq_decide.2 (by omega)
  · show (s.en || fin) = true
    rw [hfe.2 he]; simp
theorem OnP.take {al : List Nat} {t : Nat} {hd : Nat → Bool} {s : Rs} (h : OnP al t hd s) (most : Int) (m : Nat) (hm : nS s most = (m : Int)) (K' : Nat → Nat) (hK : ∀ x, t + m ≤ x → K' x = s.K x) :
    OnP al (t + m) hd (takenS s m K') ∧ seqK s.K t m = (al.drop t).take m ∧ t + m ≤ al.length ∧ overS (takenS s m K') = (if s.en = true ∧ t + m = al.length then 1 else 0) := by
  have htk := h.tk
  have hin := nS_in h.ri.num h.ri.ok most
  have h1 := h.ri.take most m t hm htk K' hK
  have htL : t + m ≤ al.length := by
    have h2 := h1.1.tk.2
    have h3 : s.tk + (m : Int) ≤ s.top := h2
    have h4 := h.top
    omega
  have htk' : (takenS s m K').tk = ((t + m : Nat) : Int) := by show s.tk + (m : Int) = _; omega
  refine ⟨⟨h1.1, ?_, h.tl, h.br, htk', htL, h.top, h.en, h.fin, h.mem⟩, ?_, htL, ?_⟩
  · show s.rd + Cr.eatF (m : Int) = s.tk + (m : Int)
    rw [h.rd]
    unfold Cr.eatF
    omega
  · rw [h1.2]
    exact take_next al t m htL
  · unfold overS
    rw [htk']
    show (if (s.br && _) = true then (2 : Int) else if (s.en && !s.br && decide (((t + m : Nat) : Int) = s.top)) = true then 1 else 0) = _
    rw [h.br]
    simp only [Bool.false_and, Bool.false_eq_true, if_false, Bool.not_false, Bool.and_true, Bool.and_eq_true, decide_eq_true_eq]
    by_cases hc : s.en = true
    · rw [h.en hc]
      by_cases ht : t + m = al.length
      · rw [if_pos ⟨hc, by omega⟩, if_pos ⟨hc, ht⟩]
      · rw [if_neg (fun hx => ht (by have := hx.2; omega)), if_neg (fun hx => ht hx.2)]
    · rw [if_neg (fun hx => hc hx.1), if_neg (fun hx => hc hx.1)]
/-- What is taken came; as much is taken as may be. -/
theorem OnP.least {al : List Nat} {t : Nat} {hd : Nat → Bool} {s : Rs} (h : OnP al t hd s) (mo : Int) (h0 : 0 ≤ mo ∧ mo ≤ 400) (m : Nat) (hm : nS s mo = (m : Int)) (f : Nat) (hf : f ≤ al.length) (hp : ∀ x, x < f → hd x = true) (hn : f = al.length ∨ hd f = false) :
    t + m ≤ f ∧ (m : Int) ≤ mo ∧ min mo ((f : Int) - (t : Int)) ≤ (m : Int) := by
  have htk := h.tk
  have hin := nS_in h.ri.num h.ri.ok mo
  have h1 := h.ri.take mo m t hm htk s.K (fun _ _ => rfl)
  have htL : t + m ≤ al.length := by
    have h3 : s.tk + (m : Int) ≤ s.top := h1.1.tk.2
    have h4 := h.top
    omega
  refine ⟨?_, ?_, ?_⟩
  · by_cases hc : t + m ≤ f
    · exact hc
    · exfalso
      have h5 : Sp.mem s.es (f : Int) = true := h1.1.had f (by omega) (by show (f : Int) < s.tk + (m : Int); omega)
      rw [h.mem f (by omega)] at h5
      rcases hn with hn | hn
      · omega
      · rw [hn] at h5; cases h5
  · unfold nS at hm; omega
  · have hfs := first_spec h.ri.ok s.tk
    have hq : (f : Int) ≤ firstF s.es s.tk ∨ f ≤ t := by
      by_cases hc : (f : Int) ≤ firstF s.es s.tk
      · exact .inl hc
      · refine .inr ?_
        by_cases hc2 : f ≤ t
        · exact hc2
        · exfalso
          obtain ⟨q, hq⟩ : ∃ q : Nat, firstF s.es s.tk = (q : Int) := ⟨(firstF s.es s.tk).toNat, by omega⟩
          have h5 := hfs.2.1
          rw [hq, h.mem q (by omega), hp q (by omega)] at h5
          cases h5
    have hft : (f : Int) ≤ s.top := by
      rcases Nat.eq_zero_or_pos f with hz | hz
      · have := h.ri.top; omega
      · have h5 := h.mem (f - 1) (by omega)
        rw [hp (f - 1) (by omega)] at h5
        have := (h.ri.lt _ h5).2
        omega
    unfold nS readyS at hm
    rw [h.br] at hm
    simp only [Bool.false_eq_true, if_false] at hm
    omega
theorem OnP.rd_num {al : List Nat} {t : Nat} {hd : Nat → Bool} {s : Rs} (h : OnP al t hd s) (hL : al.length ≤ 400) : 0 ≤ s.rd ∧ s.rd ≤ 1152921504606846976 := by
  have h1 := h.rd
  have h2 := h.tk
  have h3 := h.tL
  omega
/-- All came: Take takes as much as it may. -/
theorem OnP.last {al : List Nat} {t : Nat} {hd : Nat → Bool} {s : Rs} (h : OnP al t hd s) (hL : al.length ≤ 400) (ha : ∀ x, x < al.length → hd x = true) (mo : Int) (h0 : 1 ≤ mo ∧ mo ≤ 400) (m : Nat) (hm : nS s mo = (m : Int)) (ht : t < al.length) : 0 < m := by
  have := h.least mo (by omega) m hm al.length (Nat.le_refl _) ha (.inl rfl)
  omega

def HadB (w : World) (g : Nat) (had : List Bool) : Prop := w.heap[g]? = some (.cells (had.map Value.bool).toArray 4 (0, 0))
theorem HadB.get {w : World} {g : Nat} {had : List Bool} (h : HadB w g had) (k : Nat) (hk : k < had.length) : w.cell? ⟨g, k, none⟩ = some (.bool (had.getD k false)) ∧ w.frozen? ⟨g, k, none⟩ = false :=
  ⟨cell_slot h (by simp [List.getD, hk]), free_slot h⟩
theorem HadB.set {w : World} {g : Nat} {had : List Bool} (h : HadB w g had) (k : Nat) : HadB (w.setCell ⟨g, k, none⟩ (.bool true)) g (had.set k true) := by
  have := set_slot h k (.bool true)
  unfold HadB
  rw [this]
  simp [List.map_set]
theorem getD_setB (had : List Bool) (q j : Nat) (hq : q < had.length) : (had.set q true).getD j false = (decide (j = q) || had.getD j false) := by
  simp only [List.getD]
  by_cases e : j = q
  · subst e; simp [List.getElem?_set, hq]
  · rw [List.getElem?_set_ne (fun h => e h.symm), decide_eq_false e, Bool.false_or]
structure SO (w wr : World) (p n : Nat) (F : List Nat) (s : Rs) (A1 : Option Addr) (al : List Nat) (v : Value) (t g : Nat) (had : List Bool) : Prop where
  si : SI w wr p n F s A1 al v t
  hd : HadB wr g had
  gF : g ∉ F
  gv : g ∉ fp v
  gA : 0 < al.length → ∀ a, A1 = some a → a.block ≠ g
  glo : w.heap.size ≤ g
section
variable {w wr w' : World} {p n n' g : Nat} {F F' : List Nat} {s s' : Rs} {A1 : Option Addr} {al : List Nat} {v v' : Value} {t m : Nat} {had : List Bool}
theorem SO.call (h : SO w wr p n F s A1 al v t g had) (h1 : HR w w' p n' F' s') (hg : Goes wr w' F F') : SO w w' p n' F' s' A1 al v t g had :=
  ⟨h.si.call h1 hg, (hg.1.block g (lt_of_block h.hd) h.gF).trans h.hd, fun hm => (hg.2 g hm).elim h.gF (fun hh => by have := lt_of_block h.hd; omega), h.gv, h.gA, h.glo⟩
theorem SO.below (h : SO w wr p n F s A1 al v t g had) (hb : Below wr.heap.size wr w') : SO w w' p n F s A1 al v t g had := h.call (h.si.hr.below hb) (Goes.below F hb)
theorem SO.push (h : SO w wr p n F s A1 al v t g had) (hg : wr.grownBy w' v.ownBlock) (ho : w'.ownsRow w.heap.size 5 1 v' (t + m) (bv (al.take t) ++ bv ((al.drop t).take m))) (hn : ∀ k ∈ fp v', k ∈ fp v ∨ k = wr.heap.size) : SO w w' p n F s A1 al v' (t + m) g had :=
  ⟨h.si.push hg ho hn, (hg.block g (lt_of_block h.hd) (fun e => h.gv (fp_own.2 e.symm))).trans h.hd, h.gF, fun hm => (hn g hm).elim h.gv (fun e => by have := lt_of_block h.hd; omega), h.gA, h.glo⟩
theorem SO.set (h : SO w wr p n F s A1 al v t g had) (k : Nat) : SO w (wr.setCell ⟨g, k, none⟩ (.bool true)) p n F s A1 al v t g (had.set k true) := by
  have hk : Kept [g] wr (wr.setCell ⟨g, k, none⟩ (.bool true)) := ⟨rfl, rfl, rfl, by simp [World.setCell], fun q _ hn => Below.heap_setCell _ _ _ _ (by simpa using hn)⟩
  obtain ⟨⟨⟨⟨a, b, h1⟩, h2, h3⟩, h4, h5, h6, h7⟩, h8, h9, h10, h11, h12⟩ := h
  refine ⟨⟨⟨⟨a, b, h1.kept hk fun q hq hm => h9 (by simp at hm; exact hm ▸ hq)⟩, h2, h3.trans (hk.below h3.size (fun q hq => by simp at hq; omega))⟩, ⟨rd_kept h4.1 hk (fun h0 z ez hm => h11 h0 z ez (by simpa using hm)), h4.2⟩, h5, own_kept h6 hk (fun q hq hm => h10 (by simp at hm; exact hm ▸ hq)), h7⟩, h8.set k, h9, h10, h11, h12⟩
end
theorem infoBo : (Try.prog.info? 4).map (fun i => (i.zero, i.size, i.bytes)) = some (some (.bool false), 1, 1) := by kernel_rfl
end Go.Proofs.Ytcglhoochmfmiaa.Re
