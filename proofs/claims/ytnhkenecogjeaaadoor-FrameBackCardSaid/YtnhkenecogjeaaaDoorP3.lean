/- The reader of package frame, plainly: what was laid is read again. Conditions: none. The reader of package frame, plainly: a right frame that was laid is read again, a list of them too. Conditions: none. -/
import Derived.Test.YtnhkenecogjeaaaDoorR7
import Derived.Test.YtnhkenecogjeaaaDoorP1
namespace Go.Proofs.YtnhkenecogjeaaaDoor
open Go Go.RowKit

theorem num_enc (n : Int) (r : List Nat) (h : wid n ≠ 0) : numR ⟨encB n ++ r, 0⟩ = (n, ⟨r, 0⟩) := by
  have h0 := wid_ok h
  unfold numR
  simp only [dec_enc n h r, if_true]
  rw [List.drop_left' (encB_len n), Int.toNat_of_nonneg h0.1]
theorem need_ok (bs : List Nat) (ok : Bool) (e : Int) (h : ok = true) : needR ⟨bs, 0⟩ ok e = ⟨bs, 0⟩ := by
  unfold needR; rw [if_neg (by rw [h]; simp)]
theorem run_enc (lo last : Int) (r : List Nat) (h0 : 0 ≤ lo) (h1 : lo ≤ last) (h2 : last ≤ 4611686018427387903) : runS ⟨encB (last - lo) ++ r, 0⟩ last = (lo, ⟨r, 0⟩) := by
  unfold runS
  rw [need_ok _ _ _ (decide_eq_true (by omega)), num_enc _ _ (wid_in (by omega) (by omega)), need_ok _ _ _ (decide_eq_true (by simp only; omega))]
  simp only
  rw [IntWalk.wrap64_in _ (by omega), show last - (last - lo) = lo by omega]

/-- A run's bytes; those from the q-th on. -/
def grp (es : List Int) (q : Nat) : List Nat := encB (runG es q) ++ encB (es.getD (2 * q + 1) 0 - es.getD (2 * q) 0)
def grps (es : List Int) : Nat → Nat → List Nat
  | _, 0 => []
  | q, d + 1 => grp es q ++ grps es (q + 1) d
theorem encsB_app (a b : List Int) : encsB (a ++ b) = encsB a ++ encsB b := by simp [encsB]
theorem runN_grps (es : List Int) : ∀ d q, encsB (runN es (q + d)) = encsB (runN es q) ++ grps es q d
  | 0, q => by simp [grps]
  | d + 1, q => by
    have h := runN_grps es d (q + 1)
    rw [show q + (d + 1) = q + 1 + d by omega, h]
    simp only [runN, encsB_app, grps, grp, List.append_assoc]
    congr 1
    simp [encsB]

theorem take_two (es : List Int) (q : Nat) (h : 2 * (q + 1) ≤ es.length) : es.take (2 * (q + 1)) = es.take (2 * q) ++ [es.getD (2 * q) 0, es.getD (2 * q + 1) 0] := by
  have e0 : es.getD (2 * q) 0 = es[2 * q]'(by omega) := by simp [List.getD, List.getElem?_eq_getElem (show 2 * q < es.length by omega)]
  have e1 : es.getD (2 * q + 1) 0 = es[2 * q + 1]'(by omega) := by simp [List.getD, List.getElem?_eq_getElem (show 2 * q + 1 < es.length by omega)]
  rw [e0, e1, show 2 * (q + 1) = 2 * q + 1 + 1 by omega, take_snoc' es (2 * q + 1) (by omega), take_snoc' es (2 * q) (by omega), List.append_assoc]
  rfl

theorem getD_take (es : List Int) (j n : Nat) (h : j < n) : (es.take n).getD j 0 = es.getD j 0 := by
  simp [List.getD, List.getElem?_take, h]

theorem runs_enc {es : List Int} {m : Nat} (hs : SpsOk es m) (r : List Nat) : ∀ q, q + 1 ≤ m → ∀ x, x = (es.take 2, (⟨grps es 1 (m - 1) ++ r, 0⟩ : Rs)) → runsS x q = (es.take (2 * (q + 1)), ⟨grps es (q + 1) (m - (q + 1)) ++ r, 0⟩)
  | 0, _, x, hx => by rw [hx]; rfl
  | q + 1, hq, x, hx => by
    have ih := runs_enc hs r q (by omega) x hx
    show stepS (runsS x q) q = _
    rw [ih]
    obtain ⟨h1, h2, h3, h4⟩ := hs.2 (q + 1) (by omega)
    obtain ⟨g1, g2, g3, _⟩ := hs.2 q (by omega)
    have h4' := h4 (by omega)
    rw [show q + 1 - 1 = q by omega] at h4'
    have hl := hs.1
    have hd : m - (q + 1) = (m - (q + 1 + 1)) + 1 := by omega
    unfold stepS
    simp only
    rw [hd]
    simp only [grps, grp, List.append_assoc]
    have hrg : runG es (q + 1) = es.getD (2 * q) 0 - es.getD (2 * (q + 1) + 1) 0 := by unfold runG; rw [if_neg (by omega), show q + 1 - 1 = q by omega]
    rw [hrg, num_enc _ _ (wid_in (by omega) (by omega))]
    simp only
    rw [need_ok _ _ _ (decide_eq_true (by omega)), getD_take es (2 * q) _ (by omega)]
    rw [IntWalk.wrap64_in _ (by omega), show es.getD (2 * q) 0 - (es.getD (2 * q) 0 - es.getD (2 * (q + 1) + 1) 0) = es.getD (2 * (q + 1) + 1) 0 by omega]
    rw [run_enc _ _ _ h1 h2 h3, take_two es (q + 1) (by omega)]

theorem spans_enc {es : List Int} {m : Nat} (hs : SpsOk es m) (h1 : 1 ≤ m) (h8 : m ≤ 8) (r : List Nat) : spansR ⟨encB ((m : Nat) : Int) ++ (encsB (runN es m) ++ r), 0⟩ = (es, ⟨r, 0⟩) := by
  have hl := hs.1
  have hr := runN_grps es m 0
  rw [Nat.zero_add] at hr
  obtain ⟨d, rfl⟩ : ∃ d, m = d + 1 := ⟨m - 1, by omega⟩
  obtain ⟨g1, g2, g3, _⟩ := hs.2 0 (by omega)
  simp only [Nat.mul_zero, Nat.zero_add] at g1 g2 g3
  have hr' : encsB (runN es (d + 1)) = encB (es.getD 1 0) ++ (encB (es.getD 1 0 - es.getD 0 0) ++ grps es 1 d) := by
    rw [hr]
    show encsB [] ++ (grp es 0 ++ grps es 1 d) = _
    simp [grp, runG, encsB]
  rw [hr']
  simp only [List.append_assoc]
  unfold spansR
  rw [num_enc _ _ (wid_in (by omega) (by omega))]
  simp only
  have hok : okS ((d + 1 : Nat) : Int) = true := by unfold okS; simp only [Bool.and_eq_true, decide_eq_true_eq]; omega
  rw [need_ok _ _ _ hok, if_pos rfl, num_enc _ _ (wid_in (by omega) (by omega))]
  simp only
  rw [run_enc _ _ _ g1 g2 g3]
  simp only
  rw [show (((d + 1 : Nat) : Int)).toNat - 1 = d by omega]
  rw [runs_enc hs r d (Nat.le_refl _) _ (by
    have h2 := take_two es 0 (by omega)
    simp only [Nat.mul_zero, Nat.zero_add, Nat.mul_one, List.take_zero, List.nil_append] at h2
    rw [h2, show d + 1 - 1 = d by omega])]
  rw [List.take_of_length_le (by omega), show d + 1 - (d + 1) = 0 by omega]
  rfl

theorem data_enc (data : List Nat) (h : data.length ≤ 120) (r : List Nat) : dataR ⟨encB ((data.length : Nat) : Int) ++ (data ++ r), 0⟩ = (data, ⟨r, 0⟩) := by
  unfold dataR
  rw [num_enc _ _ (wid_in (by omega) (by omega))]
  simp only
  rw [need_ok _ _ _ (decide_eq_true (by omega))]
  simp only
  rw [need_ok _ _ _ (decide_eq_true (by simp only [List.length_append]; omega)), if_pos rfl, Int.toNat_natCast, List.take_left' rfl, List.drop_left' rfl]
theorem flag_enc (b : Bool) (r : List Nat) : flagR ⟨encB (bitI b) ++ r, 0⟩ = (b, ⟨r, 0⟩) := by
  unfold flagR
  rw [num_enc _ _ (by cases b <;> decide), need_ok _ _ _ (by cases b <;> rfl)]
  cases b <;> rfl
end Go.Proofs.YtnhkenecogjeaaaDoor

namespace Go.Proofs.YtnhkenecogjeaaaDoor
open Go Go.RowKit

def eN (b : Bool) (v : Int) : List Nat := match b with | true => encB v | false => []
theorem optN_enc (b : Bool) (v : Int) (r : List Nat) (hw : wid v ≠ 0) (h0 : b = false → v = 0) : optN b ⟨eN b v ++ r, 0⟩ = (v, ⟨r, 0⟩) := by
  cases b
  · rw [h0 rfl]; rfl
  · exact num_enc v r hw
theorem optF_enc (b : Bool) (v : Bool) (r : List Nat) (h0 : b = false → v = false) : optF b ⟨eN b (bitI v) ++ r, 0⟩ = (v, ⟨r, 0⟩) := by
  cases b
  · rw [h0 rfl]; rfl
  · exact flag_enc v r
theorem optD_enc (b : Bool) (d : List Nat) (r : List Nat) (hl : d.length ≤ 120) (h0 : b = false → d = []) : optD b ⟨eN b ((d.length : Nat) : Int) ++ (d ++ r), 0⟩ = (d, ⟨r, 0⟩) := by
  cases b
  · rw [h0 rfl]; rfl
  · exact data_enc d hl r
theorem selN_enc (b : Nat → Bool) (v : Nat → Int) (k : Nat) : encsB (selN b v (k + 1)) = encsB (selN b v k) ++ eN (b k) (v k) := by
  simp only [selN, encsB_app]
  congr 1
  cases b k <;> simp [eN, encsB]

theorem fr_facts {f : Fr} (h : OkF f) : (nbit f.k 0 = false → f.id = 0) ∧ (nbit f.k 1 = false → f.a = 0) ∧ (nbit f.k 2 = false → f.off = 0) ∧ (nbit f.k 3 = false → f.b = 0) ∧ (nbit f.k 4 = false → f.fin = false) ∧ (nbit f.k 5 = false → f.data = []) ∧ (nbit f.k 6 = false → f.k ≠ 2) ∧ (nbit f.k 6 = true → f.k = 2) ∧ (f.k = 2 → f.data = []) := by
  have hid := h.zid
  have ha := h.za
  have hoff := h.zoff
  have hb := h.zb
  have hfin := h.zfin
  have hdata := h.zdata
  obtain ⟨h1, h2⟩ := h.k
  have hk : f.k = 1 ∨ f.k = 2 ∨ f.k = 3 ∨ f.k = 4 ∨ f.k = 5 ∨ f.k = 6 ∨ f.k = 7 ∨ f.k = 8 ∨ f.k = 9 ∨ f.k = 10 ∨ f.k = 11 ∨ f.k = 12 := by omega
  clear h h1 h2
  rcases hk with e | e | e | e | e | e | e | e | e | e | e | e
  all_goals
    rw [e] at hid ha hoff hb hfin hdata
    rw [e]
    simp at hid ha hoff hb hfin hdata
    refine ⟨fun hx => ?_, fun hx => ?_, fun hx => ?_, fun hx => ?_, fun hx => ?_, fun hx => ?_, fun hx => ?_, fun hx => ?_, fun hx => ?_⟩
    all_goals first | assumption | (exact absurd hx (by decide)) | decide | rfl

def bare (f : Fr) : Fr := ⟨f.k, f.id, f.off, f.a, f.b, 0, f.fin, f.data, f.spans⟩

theorem frame_enc {f : Fr} (h : OkF f) (r : List Nat) : frameR ⟨encF f ++ r, 0⟩ = (bare f, ⟨r, 0⟩) := by
  obtain ⟨f0, f1, f2, f3, f4, f5, f6, f7, f8⟩ := fr_facts h
  obtain ⟨n1, n2, n3, n4⟩ := h.num
  have hk := wid_in (n := f.k) (by have := h.k; omega) (by have := h.k; omega)
  have hdl := h.data.1
  obtain ⟨F, hF⟩ : ∃ F, nbit f.k = F := ⟨_, rfl⟩
  rw [hF] at f0 f1 f2 f3 f4 f5 f6 f7
  have hE : encF f ++ r = encB f.k ++ (eN (F 0) f.id ++ (eN (F 1) f.a ++ (eN (F 2) f.off ++ (eN (F 3) f.b ++ (eN (F 4) (bitI f.fin) ++ (eN (F 5) ((f.data.length : Nat) : Int) ++ (eN (F 6) ((f.spans.length / 2 : Nat) : Int) ++ (encsB (runN f.spans (f.spans.length / 2)) ++ (f.data ++ r))))))))) := by
    unfold encF nums
    rw [hF, encsB_app, show encsB (f.k :: selN F (numV f) 7) = encB f.k ++ encsB (selN F (numV f) 7) from rfl]
    have v0 : numV f 0 = f.id := rfl
    have v1 : numV f 1 = f.a := rfl
    have v2 : numV f 2 = f.off := rfl
    have v3 : numV f 3 = f.b := rfl
    have v4 : numV f 4 = bitI f.fin := rfl
    have v5 : numV f 5 = (f.data.length : Int) := rfl
    have v6 : numV f 6 = ((f.spans.length / 2 : Nat) : Int) := rfl
    have s0 : encsB (selN F (numV f) 0) = [] := rfl
    simp only [selN_enc, List.append_assoc, v0, v1, v2, v3, v4, v5, v6, s0, List.nil_append]
  have hr := right_ok h
  have hrb : rightB (bare f) = true := by
    have : rightB (bare f) = rightB f := by simp only [rightB, bare]
    rw [this, hr]
  rw [hE]
  unfold frameR
  rw [num_enc _ _ hk]
  simp only
  rw [hF]
  unfold bodyR
  simp only
  rw [optN_enc _ _ _ n1 f0]; simp only
  rw [optN_enc _ _ _ n3 f1]; simp only
  rw [optN_enc _ _ _ n2 f2]; simp only
  rw [optN_enc _ _ _ n4 f3]; simp only
  rw [optF_enc _ _ _ f4]; simp only
  by_cases h6 : f.k = 2
  · have hd := f8 h6
    have hF6 : F 6 = true := by
      cases hc : F 6 with
      | true => rfl
      | false => exact absurd h6 (f6 hc)
    have hF5 : F 5 = false := by rw [← hF, h6]; rfl
    rcases h.zsp with ⟨_, m, hm1, hm8, hs⟩ | ⟨hne, _⟩
    · rw [hF5, hF6, hd, sps_half hs]
      simp only [eN, List.nil_append, optD, optS]
      rw [spans_enc hs hm1 hm8]
      simp only
      have e : (⟨f.k, f.id, f.off, f.a, f.b, 0, f.fin, [], f.spans⟩ : Fr) = bare f := by unfold bare; rw [hd]
      rw [e, hrb, need_ok _ _ _ rfl]
    · exact absurd h6 hne
  · have hF6 : F 6 = false := by
      cases hc : F 6 with
      | true => exact absurd (f7 hc) h6
      | false => rfl
    rcases h.zsp with ⟨h2, _⟩ | ⟨_, hs⟩
    · exact absurd h2 h6
    · rw [hF6, hs]
      have e2 : encsB (runN [] (([] : List Int).length / 2)) = [] := rfl
      rw [e2]
      simp only [eN, List.nil_append, optS]
      have := optD_enc (F 5) f.data r hdl f5
      unfold eN at this
      rw [this]
      simp only
      have e : (⟨f.k, f.id, f.off, f.a, f.b, 0, f.fin, f.data, []⟩ : Fr) = bare f := by unfold bare; rw [hs]
      rw [e, hrb, need_ok _ _ _ rfl]

theorem encF_pos {f : Fr} (h : OkF f) : 0 < (encF f).length := by
  unfold encF nums
  have hk := wid_in (n := f.k) (by have := h.k; omega) (by have := h.k; omega)
  rw [encsB_app, show encsB (f.k :: selN (nbit f.k) (numV f) 7) = encB f.k ++ encsB (selN (nbit f.k) (numV f) 7) from rfl]
  simp only [List.length_append, encB_len]
  omega

theorem read_enc : ∀ (fs : List Fr) (n : Nat), (∀ f ∈ fs, OkF f) → (layF fs).length ≤ n → readN n ⟨layF fs, 0⟩ = (fs.map bare, ⟨[], 0⟩)
  | [], n, _, _ => by cases n <;> rfl
  | f :: fs, n, h, hn => by
    have hf := h f (by simp)
    have hp := encF_pos hf
    have e : layF (f :: fs) = encF f ++ layF fs := rfl
    rw [e, List.length_append] at hn
    obtain ⟨n, rfl⟩ : ∃ m, n = m + 1 := ⟨n - 1, by omega⟩
    unfold readN
    rw [if_neg (by rw [e]; simp only [List.length_append]; omega), e, frame_enc hf]
    simp only [if_true]
    rw [read_enc fs n (fun g hg => h g (by simp [hg])) (by omega)]
    rfl
end Go.Proofs.YtnhkenecogjeaaaDoor
