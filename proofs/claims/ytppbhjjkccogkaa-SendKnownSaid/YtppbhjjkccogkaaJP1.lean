/- Frames that are right, plainly: the program's own look says so; their numbers may be. Conditions: none. -/
import Derived.Test.YtppbhjjkccogkaaJF6
set_option linter.unusedSimpArgs false
set_option linter.unusedVariables false

namespace Go.Proofs.Ytppbhjjkccogkaa
open Go Go.RowKit

theorem bits_of (b0 b1 b2 b3 b4 b5 b6 : Bool) (n : Nat) (h : ((b0 && !(n.testBit 0)) || (b1 && !(n.testBit 1)) || (b2 && !(n.testBit 2)) || (b3 && !(n.testBit 3)) || (b4 && !(n.testBit 4)) || (b5 && !(n.testBit 5)) || (b6 && !(n.testBit 6))) = false) (hn : n = 0 ∨ n = 64 ∨ n = 53 ∨ n = 15 ∨ n = 3 ∨ n = 2 ∨ n = 18 ∨ n = 32 ∨ n = 1) :
    (bits .andNot .i64 (carI (seven b0 b1 b2 b3 b4 b5 b6) 7) (n : Int) == 0) = true := by
  rcases hn with rfl | rfl | rfl | rfl | rfl | rfl | rfl | rfl | rfl
  all_goals
    revert h
    cases b0 <;> cases b1 <;> cases b2 <;> cases b3 <;> cases b4 <;> cases b5 <;> cases b6 <;> first | (intro _; rfl) | (intro h; exact absurd h (by decide))

theorem car_ok {f : Fr} (h : OkF f) : (bits .andNot .i64 (carI (carB f.id f.off f.a f.b f.fin f.data.length (f.spans.length / 2)) 7) (nm f.k : Int) == 0) = true := by
  have hid := h.zid
  have ha := h.za
  have hoff := h.zoff
  have hb := h.zb
  have hfin := h.zfin
  have hdata := h.zdata
  have hsp := h.zsp
  obtain ⟨h1, h2⟩ := h.k
  have hk : f.k = 1 ∨ f.k = 2 ∨ f.k = 3 ∨ f.k = 4 ∨ f.k = 5 ∨ f.k = 6 ∨ f.k = 7 ∨ f.k = 8 ∨ f.k = 9 ∨ f.k = 10 ∨ f.k = 11 ∨ f.k = 12 := by omega
  clear h h1 h2
  unfold carB
  rcases hk with e | e | e | e | e | e | e | e | e | e | e | e
  all_goals
    rw [e] at hid ha hoff hb hfin hdata hsp
    rw [e]
    simp at hid ha hoff hb hfin hdata hsp
    refine bits_of _ _ _ _ _ _ _ (nm _) ?_ (by decide)
    simp [nm, Nat.testBit, *]

theorem spk_ok {es : List Int} {m : Nat} (h : SpsOk es m) (k : Nat) (hk : k < m) : spK es k = true := by
  obtain ⟨h1, h2, h3, h4⟩ := h.2 k hk
  unfold spK
  simp only [Bool.and_eq_true, Bool.or_eq_true, decide_eq_true_eq]
  refine ⟨⟨⟨h1, h3⟩, h2⟩, ?_⟩
  by_cases h0 : k = 0
  · exact .inl h0
  · have := h4 (by omega)
    obtain ⟨g1, g2, g3, _⟩ := h.2 (k - 1) (by omega)
    refine .inr ?_
    rw [IntWalk.wrap64_in _ (by omega)]
    omega

theorem sps_half {es : List Int} {m : Nat} (h : SpsOk es m) : es.length / 2 = m := by have := h.1; omega
/-- The spans of a right frame, as a list that is right, however many. -/
theorem OkF.sps {f : Fr} (h : OkF f) : ∃ m, m ≤ 8 ∧ SpsOk f.spans m := by
  rcases h.zsp with ⟨_, m, _, h8, hs⟩ | ⟨_, hs⟩
  · exact ⟨m, h8, hs⟩
  · exact ⟨0, by omega, by rw [hs]; exact ⟨rfl, fun k h => by omega⟩⟩

theorem wid_ok {n : Int} (h : wid n ≠ 0) : 0 ≤ n ∧ n ≤ 4611686018427387903 := by
  unfold wid at h
  split at h
  · exact absurd rfl h
  · omega

theorem right_ok {f : Fr} (h : OkF f) : rightB f = true := by
  have hk := h.k
  have hkn : kn f.k = true := by unfold kn; simp only [Bool.and_eq_true, decide_eq_true_eq]; exact hk
  obtain ⟨n1, n2, n3, n4⟩ := h.num
  have hrn : rnB f.id f.a f.off f.b = true := by
    unfold rnB
    simp only [Bool.and_eq_true, decide_eq_true_eq]
    refine ⟨fun n hn => ?_, h.bo⟩
    simp only [List.mem_cons, List.not_mem_nil, or_false] at hn
    rcases hn with rfl | rfl | rfl | rfl <;> assumption
  have hrd : rdB f.k f.off f.data.length = true := by
    unfold rdB
    have := wid_ok n2
    have hr := h.room
    rw [IntWalk.wrap64_in _ (by omega)]
    simp only [Bool.and_eq_true, Bool.or_eq_true, decide_eq_true_eq, Bool.not_eq_true', decide_eq_false_iff_not]
    refine ⟨⟨h.data.1, by omega⟩, ?_⟩
    by_cases h9 : f.k = 9
    · have := h.dg h9
      refine .inl (List.length_pos_iff.2 this)
    · exact .inr h9
  have hsp : ((bits .and .i64 (nm f.k : Int) 64 == 0) || rsB f.spans (f.spans.length / 2)) = true := by
    rcases h.zsp with ⟨h2, m, h1, h8, hs⟩ | ⟨h2, hs⟩
    · rw [sps_half hs, rsB_all (fun k hk => spk_ok hs k hk)]
      simp [h1, h8]
    · have : (bits .and .i64 (nm f.k : Int) 64 == 0) = true := by
        have hkk : f.k = 1 ∨ f.k = 3 ∨ f.k = 4 ∨ f.k = 5 ∨ f.k = 6 ∨ f.k = 7 ∨ f.k = 8 ∨ f.k = 9 ∨ f.k = 10 ∨ f.k = 11 ∨ f.k = 12 := by omega
        rcases hkk with e | e | e | e | e | e | e | e | e | e | e <;> rw [e] <;> rfl
      rw [this]; rfl
  unfold rightB
  rw [hkn, hrn, car_ok h, hrd, hsp]
  rfl

theorem selN_mem {b : Nat → Bool} {v : Nat → Int} : ∀ {k : Nat} {x : Int}, x ∈ selN b v k → ∃ j, j < k ∧ x = v j
  | 0, x, h => by cases h
  | k + 1, x, h => by
    simp only [selN, List.mem_append] at h
    rcases h with h | h
    · obtain ⟨j, hj, e⟩ := selN_mem h
      exact ⟨j, by omega, e⟩
    · split at h
      · simp only [List.mem_cons, List.not_mem_nil, or_false] at h
        exact ⟨k, by omega, h⟩
      · cases h
theorem runN_may {es : List Int} {m : Nat} (h : SpsOk es m) : ∀ q, q ≤ m → ∀ x ∈ runN es q, wid x ≠ 0
  | 0, _, x, hx => by cases hx
  | q + 1, hq, x, hx => by
    simp only [runN, List.mem_append, List.mem_cons, List.not_mem_nil, or_false] at hx
    obtain ⟨h1, h2, h3, h4⟩ := h.2 q (by omega)
    rcases hx with hx | rfl | rfl
    · exact runN_may h q (by omega) x hx
    · unfold runG
      split
      · rename_i h0
        rw [h0] at h1 h2 h3
        simp only [Nat.mul_zero, Nat.zero_add] at h1 h2 h3
        exact wid_in (by omega) h3
      · have := h4 (by omega)
        obtain ⟨g1, g2, g3, _⟩ := h.2 (q - 1) (by omega)
        exact wid_in (by omega) (by omega)
    · exact wid_in (by omega) (by omega)
theorem nums_may {f : Fr} (h : OkF f) : allMay (nums f) := fun x hx => by
  obtain ⟨m, hm, hs⟩ := h.sps
  unfold nums at hx
  simp only [List.mem_append, List.mem_cons] at hx
  rcases hx with (rfl | hx) | hx
  · exact wid_in (by have := h.k; omega) (by have := h.k; omega)
  · obtain ⟨j, hj, rfl⟩ := selN_mem hx
    obtain ⟨n1, n2, n3, n4⟩ := h.num
    have hjc : j = 0 ∨ j = 1 ∨ j = 2 ∨ j = 3 ∨ j = 4 ∨ j = 5 ∨ j = 6 := by omega
    rcases hjc with rfl | rfl | rfl | rfl | rfl | rfl | rfl
    · exact n1
    · exact n3
    · exact n2
    · exact n4
    · show wid (bitI f.fin) ≠ 0
      cases f.fin <;> decide
    · exact wid_in (by show (0 : Int) ≤ (f.data.length : Int); omega) (by have := h.data.1; show (f.data.length : Int) ≤ _; omega)
    · have e := sps_half hs
      exact wid_in (by show (0 : Int) ≤ ((f.spans.length / 2 : Nat) : Int); omega) (by show ((f.spans.length / 2 : Nat) : Int) ≤ _; omega)
  · rw [sps_half hs] at hx
    exact runN_may hs m (Nat.le_refl _) x hx

/-- A frame's bytes. -/
def encF (f : Fr) : List Nat := encsB (nums f) ++ f.data
def layF (fs : List Fr) : List Nat := fs.flatMap encF
theorem layF_snoc (fs : List Fr) (k : Nat) (f : Fr) (hf : fs[k]? = some f) : layF (fs.take (k + 1)) = layF (fs.take k) ++ encF f := by
  obtain ⟨hl, rfl⟩ := List.getElem?_eq_some_iff.1 hf
  unfold layF
  rw [List.take_succ_eq_append_getElem hl, List.flatMap_append]
  simp
theorem runN_len (es : List Int) : ∀ q, (runN es q).length = 2 * q
  | 0 => rfl
  | q + 1 => by rw [runN, List.length_append, runN_len es q]; simp; omega
theorem selN_len (b : Nat → Bool) (v : Nat → Int) : ∀ k, (selN b v k).length ≤ k
  | 0 => by simp [selN]
  | k + 1 => by rw [selN, List.length_append]; have := selN_len b v k; split <;> simp <;> omega
theorem encF_len {f : Fr} (h : OkF f) : (encF f).length ≤ 312 := by
  obtain ⟨m, hm, hs⟩ := h.sps
  have h1 := sumW_le (nums f)
  have h2 : (nums f).length ≤ 24 := by
    unfold nums
    rw [List.length_append, List.length_cons, runN_len, sps_half hs]
    have := selN_len (nbit f.k) (numV f) 7
    omega
  have h3 := h.data.1
  unfold encF
  rw [List.length_append, encsB_len]
  omega
theorem encF_lt {f : Fr} (h : OkF f) : ∀ c ∈ encF f, c < 256 := fun c hc => by
  unfold encF at hc
  rcases List.mem_append.1 hc with h1 | h1
  · exact encsB_lt _ c h1
  · exact h.data.2 c h1
end Go.Proofs.Ytppbhjjkccogkaa
