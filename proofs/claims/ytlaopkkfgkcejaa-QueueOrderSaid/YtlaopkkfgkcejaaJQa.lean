/- Items as they lie, the queue in memory; slices.Clone of bytes, the hand's Text: contracts. Conditions: as each theorem lists them. -/
import Derived.Test.YtlaopkkfgkcejaaJOp
import Derived.Lib.SliceRun
import Derived.Deep.DeepCutAuto
import Derived.Deep.CutBlock
import Derived.Deep.RegionHeld
import Derived.Deep.RegionHeld3
import Derived.Laws.ResultCell
set_option linter.unusedSimpArgs false
set_option linter.unusedVariables false

namespace Go.Proofs.Ytlaopkkfgkcejaa.Qu
open Go Go.RowKit Go.Proofs.Ytlaopkkfgkcejaa

theorem infoU8 : (Try.prog.info? 5).map (fun i => (i.zero, i.size, i.bytes)) = some (some (.int .u8 0), 1, 1) := by kernel_rfl
theorem infoIt : (Try.prog.info? 24).map (fun i => (i.zero, i.size, i.bytes)) = some (some (.agg #[.int .i64 0, .slice none 0 0]), 2, 32) := by kernel_rfl

set_option maxRecDepth 100000 in
theorem clone_bytes (n c : Nat) (A : Option Addr) (xs : List Value) (w : World) (hx : Rd w w.heap.size A (n * 1) xs) (h1 : ones xs) (hn : n * 1 ≤ 140737488355328) :
    Calls Try.prog 24 #[.slice A n c] w fun e w' => ∃ v', e = .returned v' ∧ w'.ownsRow w.heap.size 5 1 v' n xs ∧ Below w.heap.size w w' := by
  obtain ⟨i0, hi, hz0, hz1, hz2⟩ := info_parts infoU8
  have HI := Lib.hid (And.intro hi (And.intro hz0 (And.intro hz1 hz2)))
  have heq := fun (W : World) => Lib.run_eql_slice_nil (P := Try.prog) W 22 5 A n c 0 0 Try.underlying22
  have HX := Lib.hid hx
  have H1 := Lib.hid h1
  have HN := Lib.hid hn
  clear hi hz0 hz1 hz2 hx h1 hn
  cases A with
  | none =>
    have h0 : n = 0 := by
      rcases Nat.eq_zero_or_pos n with h | h
      · exact h
      · obtain ⟨_, _, e, _⟩ := HX.out.2 (by omega)
        cases e
    subst h0
    have hxs : xs = [] := List.eq_nil_of_length_eq_zero (by have := HX.out.1; omega)
    subst hxs
    go_enter Try.func24, Try.ntmps24
    go_wp2
    go_ret
    exact ⟨_, rfl, own_nil _ _ _ _, Below.refl _ _⟩
  | some a =>
    have hd2 : Hid (0 + n ≤ maxLen) := by have := HN.out; show _ ≤ _; unfold maxLen; omega
    have hd3 : Hid ((0 + n) * 1 ≤ 140737488355328) := by rw [Nat.zero_add]; exact HN.out
    have hb : Below w.heap.size w (w.alloc (.cells #[] 5)) := (Below.refl _ _).alloc (Nat.le_refl _) _
    have hd4 : Hid (w.heap.size ≤ (w.alloc (.cells #[] 5)).heap.size) := hb.size
    have hd1 : Hid (Rd (w.alloc (.cells #[] 5)) w.heap.size (some a) (n * 1) xs) := HX.out.below hb (Nat.le_refl _)
    have hd5 : Hid ((w.alloc (.cells #[] 5)).ownsRow w.heap.size 5 1 (.slice (some ⟨w.heap.size, 0, none⟩) 0 0) 0 []) := own_new w #[] _ 1 0 w.heap.size w.heap.size rfl rfl (by unfold maxLen; omega) (Nat.le_refl _)
    have HB := Lib.hid hb
    clear hb
    go_enter Try.func24, Try.ntmps24
    go_wp2_with (at_builtin; refine wpList_app _ rfl (.tmp 5) (.tmp 6) 22 rfl w.heap.size 5 i0 (.int .u8 0) 1 1 Try.underlying22 HI.out.1 HI.out.2.1 HI.out.2.2.1 HI.out.2.2.2 rfl (by decide) (.slice (some ⟨w.heap.size, 0, none⟩) 0 0) 0 [] rfl hd5.out w.heap.size (some a) n c xs rfl hd1.out H1.out hd2.out hd3.out hd4.out ?_)
    intro v5 w5 ho5 hg5
    have HF : Hid (w5.ownsRow w.heap.size 5 1 v5 n xs ∧ Below w.heap.size w w5) := by
      exact ⟨by simpa using ho5, HB.out.grown hg5 hd4.out (fun g hg => by simp [Value.ownBlock] at hg; omega)⟩
    clear ho5 hg5
    obtain ⟨A5, c5, e5, _⟩ := own_form HF.out.1
    subst e5
    go_wp2_with fail
    go_ret
    exact ⟨_, rfl, HF.out⟩

def TextW (w wr : World) (v : Value) (k : Nat) : Prop := ∃ out : List Nat, out.length = k ∧ (∀ c ∈ out, c < 256) ∧ wr.ownsRow w.heap.size 5 1 v k (bv out) ∧ Below w.heap.size w wr
def TextP (w : World) (n : Nat) (e : Ending) (w' : World) : Prop := ∃ A c, e = .returned (.slice A n c) ∧ TextW w w' (.slice A n c) n
theorem u8_in (x : Int) : 0 ≤ IntKind.u8.wrap x ∧ IntKind.u8.wrap x < 256 := by
  have : IntKind.u8.wrap x = x % 256 := by simp [IntKind.wrap, IntKind.signed, IntKind.bits]
  rw [this]; omega

set_option maxRecDepth 100000 in
set_option maxHeartbeats 4000000 in
theorem text_any (bs : List Nat) (A : Option Addr) (cap : Nat) (n : Nat) (w : World) (hx : Rd w w.heap.size A bs.length (bv bs)) (hn : n ≤ 1000000) (hl : bs.length ≤ cap) (hm : bs.length ≤ 140737488355328) :
    Calls Try.prog 15 #[.slice A bs.length cap, .int .i64 (n : Int)] w (TextP w n) := by
  have HX := Lib.hid hx
  obtain ⟨i0, hi, hz0, hz1, hz2⟩ := info_parts infoB
  have HI := Lib.hid (And.intro hi (And.intro hz0 (And.intro hz1 hz2)))
  have hnI : (n : Int) ≤ 1000000 := by omega
  have hlI : (bs.length : Int) ≤ (cap : Int) := by omega
  have hmI : (bs.length : Int) ≤ 140737488355328 := by omega
  clear hx hi hz0 hz1 hz2
  go_enter Try.func15, Try.ntmps15
  go_wp2_with fail
  go_loopw [5, 6, 7] (fun v i _ wr => ∃ k : Nat, k ≤ n ∧ i = .int .i64 (k : Int) ∧ Hid (TextW w wr v k)) (fun _ i _ _ => n - (intOf i).toNat)
  case atStart => exact ⟨0, Nat.zero_le _, rfl, [], rfl, (fun c hc => by cases hc), own_nil _ _ _ _, Below.refl _ _⟩
  case round =>
    obtain ⟨k, hk, rfl, HK⟩ := hrel
    by_cases hlt : k < n
    · have hlti : (k : Int) < (n : Int) := by omega
      have hki : (k : Int) ≤ 1000000 := by omega
      obtain ⟨out, ho1, ho2, ho3, ho4⟩ := HK.out
      obtain ⟨Ao, co, eo, _⟩ := own_form ho3
      subst eo
      have HO := Lib.hid ho3
      have HB := Lib.hid ho4
      have HN : ∀ (c : Nat) (w2 : World) (v2 : Value), c < 256 → w2.ownsRow w.heap.size 5 1 v2 (k + 1) (bv out ++ [.int .u8 (c : Int)]) → Below w.heap.size w w2 → TextW w w2 v2 (k + 1) := fun c w2 v2 hc h1 h2 =>
        ⟨out ++ [c], by simp [ho1], fun x hx => by simp at hx; rcases hx with hx | rfl; exact ho2 x hx; exact hc, by rw [bv_app]; exact h1, h2⟩
      have HNN := Lib.hid HN
      have HSZ : Hid (w.heap.size ≤ wr.heap.size) := ho4.size
      clear ho1 ho2 ho3 ho4 HN HK
      by_cases hb0 : bs.length = 0
      · have hb0I : decide (0 < bs.length) = false := decide_eq_false (by omega)
        have HB0 := Lib.hid hb0
        clear hb0
        obtain ⟨c, hc⟩ : ∃ c : Nat, IntKind.u8.wrap ((k : Int) * 7) = (c : Int) := ⟨(IntKind.u8.wrap ((k : Int) * 7)).toNat, by have := u8_in ((k : Int) * 7); omega⟩
        have HC : Hid (c < 256) := by have := u8_in ((k : Int) * 7); show _ < _; omega
        have hd1 : Hid (Rd (wr.alloc (.cells #[.int .u8 (c : Int)] 5)) (wr.heap.size + 1) (some ⟨wr.heap.size, 0, none⟩) (1 * 1) [.int .u8 (c : Int)]) := rd_new _ _ _ _ _ _ _ rfl (by omega) rfl rfl
        have hd2 : Hid (k + 1 ≤ maxLen ∧ (k + 1) * 1 ≤ 140737488355328) := ⟨by unfold maxLen; omega, by omega⟩
        have hd4 : Hid (w.heap.size ≤ (wr.alloc (.cells #[.int .u8 (c : Int)] 5)).heap.size) := by have := HSZ.out; show _ ≤ _; simp only [World.size_alloc]; omega
        have hd5 : Hid (ones [Value.int .u8 (c : Int)]) := fun u hu => by simp at hu; subst hu; rfl
        go_wp2_with (at_builtin; refine wpList_app _ rfl (.tmp 28) (.tmp 30) 22 rfl w.heap.size 5 i0 (.int .u8 0) 1 1 Try.underlying22 HI.out.1 HI.out.2.1 HI.out.2.2.1 HI.out.2.2.2 rfl (by decide) (.slice Ao k co) k (bv out) rfl (HO.out.alloc _) (wr.heap.size + 1) (some ⟨wr.heap.size, 0, none⟩) 1 _ [.int .u8 (c : Int)] rfl hd1.out hd5.out hd2.out.1 hd2.out.2 hd4.out ?_)
        intro v3 w3 hown3 hgrow3
        have HT3 : Hid (TextW w w3 v3 (k + 1)) := HNN.out c w3 v3 HC.out hown3 ((HB.out.alloc HSZ.out _).grown hgrow3 hd4.out (fun g hg => (HO.out.lt g hg).1))
        obtain ⟨A3, c3, e3, _⟩ := own_form hown3
        subst e3
        clear hown3 hgrow3
        go_wp2_with fail
        go_roundw
        case rel => first | exact ⟨k + 1, by omega, by go_num, HT3⟩ | exact ⟨_, _, _, _, _, _, _, _, _, _, _, _, _, _, _, _, _, _, _, _, _, _, _, _, _, _, _, ⟨k + 1, by omega, by go_num, HT3⟩, rfl⟩
        case measure => simp [intOf]; omega
      · have hb1I : 0 < (bs.length : Int) := by omega
        have hb2I : (bs.length : Int) ≠ 0 := by omega
        obtain ⟨b, off, hA, hbn, hcs⟩ := HX.out.2 (by omega)
        subst hA
        obtain ⟨q, hq⟩ : ∃ q, k % bs.length = q := ⟨_, rfl⟩
        have hql : q < bs.length := by rw [← hq]; exact Nat.mod_lt _ (by omega)
        have hmod : (k : Int).tmod (bs.length : Int) = (q : Int) := by rw [← hq]; exact (Int.ofNat_tmod k bs.length).symm
        have hqI : (q : Int) < (bs.length : Int) := by omega
        have hcell : wr.cell? ⟨b, off + q, none⟩ = some (.int .u8 ((bs.getD q 0 : Nat) : Int)) := by
          rw [HB.out.cell (p := ⟨b, off + q, none⟩) hbn]
          exact hcs q _ (bv_get bs q hql)
        obtain ⟨y, hy⟩ : ∃ y : Int, ((bs.getD q 0 : Nat) : Int) = y := ⟨_, rfl⟩
        rw [hy] at hcell
        obtain ⟨c0, hc0⟩ : ∃ c : Int, IntKind.u8.wrap ((k : Int) * 7) = c := ⟨_, rfl⟩
        obtain ⟨c, hc⟩ : ∃ c : Nat, IntKind.u8.wrap (c0 + y) = (c : Int) := ⟨(IntKind.u8.wrap (c0 + y)).toNat, by have := u8_in (c0 + y); omega⟩
        have HC : Hid (c < 256) := by have := u8_in (c0 + y); show _ < _; omega
        have nx := World.new_ne wr _ hcell
        clear hq hcs hy hb0 hb2I
        have hd1 : Hid (Rd (wr.alloc (.cells #[.int .u8 (c : Int)] 5)) (wr.heap.size + 1) (some ⟨wr.heap.size, 0, none⟩) (1 * 1) [.int .u8 (c : Int)]) := rd_new _ _ _ _ _ _ _ rfl (by omega) rfl rfl
        have hd2 : Hid (k + 1 ≤ maxLen ∧ (k + 1) * 1 ≤ 140737488355328) := ⟨by unfold maxLen; omega, by omega⟩
        have hd4 : Hid (w.heap.size ≤ (wr.alloc (.cells #[.int .u8 (c : Int)] 5)).heap.size) := by have := HSZ.out; show _ ≤ _; simp only [World.size_alloc]; omega
        have hd5 : Hid (ones [Value.int .u8 (c : Int)]) := fun u hu => by simp at hu; subst hu; rfl
        go_wp2_with (at_builtin; refine wpList_app _ rfl (.tmp 28) (.tmp 30) 22 rfl w.heap.size 5 i0 (.int .u8 0) 1 1 Try.underlying22 HI.out.1 HI.out.2.1 HI.out.2.2.1 HI.out.2.2.2 rfl (by decide) (.slice Ao k co) k (bv out) rfl (HO.out.alloc _) (wr.heap.size + 1) (some ⟨wr.heap.size, 0, none⟩) 1 _ [.int .u8 (c : Int)] rfl hd1.out hd5.out hd2.out.1 hd2.out.2 hd4.out ?_)
        intro v3 w3 hown3 hgrow3
        have HT3 : Hid (TextW w w3 v3 (k + 1)) := HNN.out c w3 v3 HC.out hown3 ((HB.out.alloc HSZ.out _).grown hgrow3 hd4.out (fun g hg => (HO.out.lt g hg).1))
        obtain ⟨A3, c3, e3, _⟩ := own_form hown3
        subst e3
        clear hown3 hgrow3
        go_wp2_with fail
        go_roundw
        case rel => exact ⟨k + 1, by omega, by go_num, HT3⟩
        case measure => simp [intOf]; omega
    · have hlti : ¬ (k : Int) < (n : Int) := by omega
      obtain rfl : k = n := by omega
      have HT := HK
      obtain ⟨out, ho1, ho2, ho3, ho4⟩ := HK.out
      obtain ⟨Ao, co, eo, _⟩ := own_form ho3
      subst eo
      clear ho1 ho2 ho3 ho4 HK
      go_wp2_with fail
      go_ret
      exact ⟨_, _, rfl, HT.out⟩


/-- Cells that lie in block lo or behind it. -/
def At (w : World) (lo : Nat) (A : Option Addr) (n : Nat) (xs : List Value) : Prop :=
  xs.length = n ∧ (0 < n → ∃ b off, A = some ⟨b, off, none⟩ ∧ lo ≤ b ∧ b < w.heap.size ∧ ∀ j u, xs[j]? = some u → w.cell? ⟨b, off + j, none⟩ = some u)
theorem At.rd {w : World} {lo n : Nat} {A : Option Addr} {xs : List Value} (h : At w lo A n xs) : Rd w w.heap.size A n xs :=
  ⟨h.1, fun hn => by obtain ⟨b, off, e, _, h2, h3⟩ := h.2 hn; exact ⟨b, off, e, h2, h3⟩⟩
theorem At.less {w : World} {lo lo' n : Nat} {A : Option Addr} {xs : List Value} (h : At w lo A n xs) (hl : lo' ≤ lo) : At w lo' A n xs :=
  ⟨h.1, fun hn => by obtain ⟨b, off, e, h1, h2, h3⟩ := h.2 hn; exact ⟨b, off, e, Nat.le_trans hl h1, h2, h3⟩⟩
theorem At.same {w w' : World} {lo n : Nat} {A : Option Addr} {xs : List Value} (h : At w lo A n xs) (hs : w.heap.size ≤ w'.heap.size) (hb : ∀ b, lo ≤ b → b < w.heap.size → w'.heap[b]? = w.heap[b]?) : At w' lo A n xs :=
  ⟨h.1, fun hn => by
    obtain ⟨b, off, e, h1, h2, h3⟩ := h.2 hn
    refine ⟨b, off, e, h1, by omega, fun j u hu => ?_⟩
    have := h3 j u hu
    simp only [World.cell?, hb b h1 h2] at this ⊢
    exact this⟩
theorem At.grown {w w' : World} {lo n p : Nat} {A : Option Addr} {xs : List Value} (h : At w lo A n xs) (hg : w.grownBy w' (some p)) (hp : p < lo) : At w' lo A n xs :=
  h.same hg.size fun b h1 h2 => hg.block b h2 (by simp; omega)
theorem At.below {w w' : World} {lo n : Nat} {A : Option Addr} {xs : List Value} (h : At w lo A n xs) (hb : Below w.heap.size w w') : At w' lo A n xs :=
  h.same hb.size fun b _ h2 => hb.block b h2
theorem At.drewN {w : World} {lo n : Nat} {A : Option Addr} {xs : List Value} (h : At w lo A n xs) (m : Nat) : At (w.drewN m) lo A n xs := h
theorem At.of_own {w : World} {base e size n c : Nat} {A : Option Addr} {xs : List Value} (h : w.ownsRow base e size (.slice A n c) n xs) : At w base A (n * size) xs := by
  refine ⟨h.1, fun hn => ?_⟩
  rcases h.2 with ⟨e1, e2⟩ | ⟨g, cap, cur, hv, hb, hh, _, _, _, htake⟩
  · subst e2; omega
  · simp only [Value.slice.injEq] at hv
    obtain ⟨rfl, _, rfl⟩ := hv
    have hlt := (Array.getElem?_eq_some_iff.1 hh).1
    refine ⟨g, 0, rfl, hb, hlt, fun j u hu => ?_⟩
    rw [Nat.zero_add, Am.cell_of w g j cur e (0, 0) hh]
    rw [← htake, List.getElem?_take] at hu
    split at hu
    · simpa using hu
    · cases hu

/-- An item as it lies: its note, its bytes. -/
structure It where
  k : Int
  A : Option Addr
  n : Nat
  c : Nat
  bs : List Nat
def itC (q : It) : List Value := [.int .i64 q.k, .slice q.A q.n q.c]
def its (qs : List It) : List Value := qs.flatMap itC
/-- What an item says. -/
def dat (q : It) : Int × List Nat := (q.k, q.bs)
theorem its_app (a b : List It) : its (a ++ b) = its a ++ its b := by simp [its]
theorem its_len : ∀ l : List It, (its l).length = l.length * 2
  | [] => rfl
  | k :: r => by
    show (itC k ++ its r).length = (r.length + 1) * 2
    rw [List.length_append, its_len r]
    show 2 + _ = _
    omega
theorem ones_its (l : List It) : ones (its l) := fun u hu => by
  simp only [its, List.mem_flatMap] at hu
  obtain ⟨q, _, hq⟩ := hu
  simp [itC] at hq
  rcases hq with rfl | rfl <;> rfl
theorem its_get : ∀ (l : List It) (i : Nat) (k : It), l[i]? = some k → ∀ j, j < 2 → (its l)[i * 2 + j]? = (itC k)[j]?
  | [], i, k, h, _, _ => by simp at h
  | x :: r, 0, k, h, j, hj => by
    simp only [List.length_cons, List.getElem?_cons_zero, Option.some.injEq] at h
    subst h
    show (itC x ++ its r)[0 * 2 + j]? = _
    rw [Nat.zero_mul, Nat.zero_add, List.getElem?_append_left (by show j < 2; exact hj)]
  | x :: r, i + 1, k, h, j, hj => by
    show (itC x ++ its r)[(i + 1) * 2 + j]? = _
    rw [show (i + 1) * 2 + j = 2 + (i * 2 + j) by omega, List.getElem?_append_right (by show 2 ≤ _; omega)]
    rw [show 2 + (i * 2 + j) - (itC x).length = i * 2 + j by show 2 + (i * 2 + j) - 2 = _; omega]
    exact its_get r i k (by simpa using h) j hj
/-- A cell of a row of items is a cell of one of them. -/
theorem its_at {l : List It} {j : Nat} {u : Value} (h : (its l)[j]? = some u) : ∃ q, l[j / 2]? = some q ∧ (itC q)[j % 2]? = some u := by
  have hj : j < l.length * 2 := by have := (List.getElem?_eq_some_iff.1 h).1; rwa [its_len] at this
  obtain ⟨q, hq⟩ : ∃ q, l[j / 2]? = some q := ⟨_, List.getElem?_eq_getElem (by omega)⟩
  refine ⟨q, hq, ?_⟩
  rw [← its_get l (j / 2) q hq (j % 2) (Nat.mod_lt _ (by omega)), show j / 2 * 2 + j % 2 = j by omega]
  exact h

/-- An item's bytes lie in block lo or behind it. -/
structure ItOk (w : World) (lo : Nat) (q : It) : Prop where
  at' : At w lo q.A q.n (bv q.bs)
  cap : q.n ≤ q.c
  lt : ∀ x ∈ q.bs, x < 256
theorem ItOk.len {w : World} {lo : Nat} {q : It} (h : ItOk w lo q) : q.bs.length = q.n := by have := h.at'.1; simpa [bv] using this
theorem ItOk.same {w w' : World} {lo : Nat} {q : It} (h : ItOk w lo q) (hs : w.heap.size ≤ w'.heap.size) (hb : ∀ b, lo ≤ b → b < w.heap.size → w'.heap[b]? = w.heap[b]?) : ItOk w' lo q := ⟨h.at'.same hs hb, h.cap, h.lt⟩
theorem ItOk.grown {w w' : World} {lo p : Nat} {q : It} (h : ItOk w lo q) (hg : w.grownBy w' (some p)) (hp : p < lo) : ItOk w' lo q := ⟨h.at'.grown hg hp, h.cap, h.lt⟩
theorem ItOk.below {w w' : World} {lo : Nat} {q : It} (h : ItOk w lo q) (hb : Below w.heap.size w w') : ItOk w' lo q := ⟨h.at'.below hb, h.cap, h.lt⟩
theorem ItOk.less {w : World} {lo lo' : Nat} {q : It} (h : ItOk w lo q) (hl : lo' ≤ lo) : ItOk w lo' q := ⟨h.at'.less hl, h.cap, h.lt⟩

/-- The queue's block: what waits lies at its beginning, then whatever; the number that it says. -/
structure QAt (w : World) (p lo : Nat) (ks : List It) (m : Nat) : Prop where
  cells : ∀ j u, (its ks)[j]? = some u → w.cell? ⟨p, j, none⟩ = some u
  num : w.cell? ⟨p, 64, none⟩ = some (.int .i64 (m : Int))
  room : ∀ j, j < 65 → (w.cell? ⟨p, j, none⟩).isSome = true ∧ w.frozen? ⟨p, j, none⟩ = false
  plo : p < lo
  lt : p < w.heap.size
  le : ks.length ≤ 32
  items : ∀ q ∈ ks, ItOk w lo q ∧ 0 < q.n ∧ q.n ≤ 116
/-- The queue. -/
def QIn (w : World) (p lo : Nat) (ks : List It) : Prop := QAt w p lo ks ks.length
theorem QAt.same {w w' : World} {p lo m : Nat} {ks : List It} (h : QAt w p lo ks m) (hs : w.heap.size ≤ w'.heap.size) (hp : w'.heap[p]? = w.heap[p]?) (hb : ∀ b, lo ≤ b → b < w.heap.size → w'.heap[b]? = w.heap[b]?) : QAt w' p lo ks m := by
  have hc : ∀ j, w'.cell? ⟨p, j, none⟩ = w.cell? ⟨p, j, none⟩ := fun j => by simp only [World.cell?, hp]
  have hf : ∀ j, w'.frozen? ⟨p, j, none⟩ = w.frozen? ⟨p, j, none⟩ := fun j => by simp only [World.frozen?, hp]
  exact ⟨fun j u hu => (hc j).trans (h.cells j u hu), (hc 64).trans h.num, fun j hj => ⟨by rw [hc]; exact (h.room j hj).1, by rw [hf]; exact (h.room j hj).2⟩, h.plo, Nat.lt_of_lt_of_le h.lt hs, h.le, fun q hq => ⟨(h.items q hq).1.same hs hb, (h.items q hq).2⟩⟩
theorem QAt.below {w w' : World} {p lo m : Nat} {ks : List It} (h : QAt w p lo ks m) (hb : Below w.heap.size w w') : QAt w' p lo ks m := h.same hb.size (hb.block p h.lt) fun b _ h2 => hb.block b h2
theorem QIn.below {w w' : World} {p lo : Nat} {ks : List It} (h : QIn w p lo ks) (hb : Below w.heap.size w w') : QIn w' p lo ks := QAt.below h hb
theorem QIn.lt {w : World} {p lo : Nat} {ks : List It} (h : QIn w p lo ks) : p < w.heap.size := QAt.lt h
theorem QIn.first {w : World} {p lo : Nat} {q : It} {ks : List It} (h : QIn w p lo (q :: ks)) : w.cell? ⟨p, 0, none⟩ = some (.int .i64 q.k) ∧ w.cell? ⟨p, 1, none⟩ = some (.slice q.A q.n q.c) :=
  ⟨h.cells 0 _ rfl, h.cells 1 _ rfl⟩

/-- What a call that tells an item leaves: an item that says the same, its bytes in new memory. -/
def ItNew (w w' : World) (d : Int × List Nat) (q : It) : Prop := dat q = d ∧ ItOk w' w.heap.size q ∧ Below w.heap.size w w'

/-- An item is read where its two cells are known. -/
theorem load_it {w : World} {g : Nat} {k : Int} {A : Option Addr} {n c : Nat} (h0 : w.cell? ⟨g, 0, none⟩ = some (.int .i64 k)) (h1 : w.cell? ⟨g, 1, none⟩ = some (.slice A n c)) :
    (loadVar 24 ⟨g, 0, none⟩).run Try.prog w = .ok (.agg #[.int .i64 k, .slice A n c]) w := by
  have hl := run_loadCells_list (P := Try.prog) w ⟨g, 0, none⟩ [.int .i64 k, .slice A n c] (fun j u hu => by
    rw [Addr.add_lit]
    match j, hu with
    | 0, hu => rw [h0]; simpa using hu
    | 1, hu => rw [h1]; simpa using hu
    | j + 2, hu => simp at hu)
  have hagg : (isAgg 24).run Try.prog w = .ok true w := by
    unfold isAgg
    rw [Sem.run_bind, run_underlying Try.underlying24 w]
    rfl
  obtain ⟨i0, hi, hz0, hz1, hz2⟩ := info_parts infoIt
  simp only [List.length_cons, List.length_nil, Nat.zero_add] at hl
  simp [loadVar, Sem.run_bind, hagg, sizeOf, typeInfo, hi, hz1, hl]
theorem ret_it1 {fn : Func} {t : Tmp} {Post : Ending → World → Prop} (h : fn.results = #[.cell t 24]) {tmps : Array Value} {w : World} {g : Nat} {k : Int} {A : Option Addr} {n c : Nat}
    (hp : tmps.getD t undef = .pointer (some ⟨g, 0, none⟩)) (h0 : w.cell? ⟨g, 0, none⟩ = some (.int .i64 k)) (h1 : w.cell? ⟨g, 1, none⟩ = some (.slice A n c)) (hP : Post (.returned (.agg #[.int .i64 k, .slice A n c])) w) :
    bodyPost Try.prog fn Post .ret { tmps := tmps, defers := [] } w := by
  have hp' : tmps[t]?.getD undef = .pointer (some ⟨g, 0, none⟩) := by simpa using hp
  exact bodyPost_ret (by simp [results, h, hp', asAddr, load_it h0 h1]) rfl hP
theorem ret_it2 {fn : Func} {t u : Tmp} {Post : Ending → World → Prop} (h : fn.results = #[.cell t 24, .tmp u]) {tmps : Array Value} {w : World} {g : Nat} {k : Int} {A : Option Addr} {n c : Nat} {x : Value}
    (hp : tmps.getD t undef = .pointer (some ⟨g, 0, none⟩)) (hx : tmps.getD u undef = x) (h0 : w.cell? ⟨g, 0, none⟩ = some (.int .i64 k)) (h1 : w.cell? ⟨g, 1, none⟩ = some (.slice A n c)) (hP : Post (.returned (.tuple #[.agg #[.int .i64 k, .slice A n c], x])) w) :
    bodyPost Try.prog fn Post .ret { tmps := tmps, defers := [] } w := by
  refine bodyPost_ret (v := .tuple #[.agg #[.int .i64 k, .slice A n c], x]) ?_ rfl hP
  rw [results_cell_tmp h tmps _ w, hp, hx]
  simp [asAddr, load_it h0 h1, Result.andThen_ok]

set_option maxRecDepth 100000 in
set_option maxHeartbeats 4000000 in
theorem copied_any (q : It) (lo : Nat) (w : World) (h : ItOk w lo q) (hn : q.n ≤ 140737488355328) :
    Calls Try.prog 18 #[.agg #[.int .i64 q.k, .slice q.A q.n q.c]] w fun e w' => ∃ q', e = .returned (.agg #[.int .i64 q'.k, .slice q'.A q'.n q'.c]) ∧ ItNew w w' (dat q) q' := by
  obtain ⟨k, A, n, c, bs⟩ := q
  simp only at hn ⊢
  have hl : bs.length = n := h.len
  obtain ⟨S, hS⟩ : ∃ S : World → Prop, S = (fun W : World => Below w.heap.size w W ∧ w.heap.size + 2 ≤ W.heap.size ∧ W.cell? ⟨w.heap.size, 0, none⟩ = some (.int .i64 k) ∧ W.cell? ⟨w.heap.size, 1, none⟩ = some (.slice A n c) ∧ (∃ u, W.cell? ⟨w.heap.size + 1, 0, none⟩ = some u) ∧ (∃ u, W.cell? ⟨w.heap.size + 1, 1, none⟩ = some u) ∧ W.frozen? ⟨w.heap.size + 1, 0, none⟩ = false ∧ W.frozen? ⟨w.heap.size + 1, 1, none⟩ = false) := ⟨_, rfl⟩
  have HC : Hid (∀ W, S W → Calls Try.prog 24 #[.slice A n c] W fun e w' => ∃ A' c', e = .returned (.slice A' n c') ∧ At w' (w.heap.size + 2) A' n (bv bs) ∧ n ≤ c' ∧ S w') := fun W hSW => by
    subst hS
    obtain ⟨hb, hsz, c0, c1, ⟨u2, c2⟩, ⟨u3, c3⟩, f0, f1⟩ := hSW
    refine (clone_bytes n c A (bv bs) W (by rw [Nat.mul_one]; exact (h.at'.below hb).rd) (ones_bv _) (by omega)).mono ?_
    rintro e w' ⟨v', rfl, ho, hb'⟩
    obtain ⟨A', c', rfl, hc, _⟩ := own_form ho
    have ha := At.of_own ho
    rw [Nat.mul_one] at ha
    refine ⟨A', c', rfl, ha.less hsz, hc, hb.trans (hb'.mono hb.size), Nat.le_trans hsz hb'.size, ?_, ?_, ?_, ?_, ?_, ?_⟩
    · exact (hb'.cell (p := ⟨w.heap.size, 0, none⟩) (by simp; omega)).trans c0
    · exact (hb'.cell (p := ⟨w.heap.size, 1, none⟩) (by simp; omega)).trans c1
    · exact ⟨_, (hb'.cell (p := ⟨w.heap.size + 1, 0, none⟩) (by simp; omega)).trans c2⟩
    · exact ⟨_, (hb'.cell (p := ⟨w.heap.size + 1, 1, none⟩) (by simp; omega)).trans c3⟩
    · exact (hb'.frozen (p := ⟨w.heap.size + 1, 0, none⟩) (by simp; omega)).trans f0
    · exact (hb'.frozen (p := ⟨w.heap.size + 1, 1, none⟩) (by simp; omega)).trans f1
  have HS0 : Hid (S (((w.alloc (.cells #[.int .i64 k, .slice A n c] 24)).alloc (.cells #[.int .i64 0, .slice none 0 0] 24)).drew)) := by
    subst hS
    refine ⟨(((Below.refl _ _).alloc (Nat.le_refl _) _).alloc (by simp) _).drew, by show w.heap.size + 2 ≤ ((w.alloc _).alloc _).heap.size; simp, ?_, ?_, ?_, ?_, ?_, ?_⟩ <;> simp
  subst hS
  have HLT := Lib.hid h.lt
  clear h hl
  go_enter Try.func18, Try.ntmps18
  go_wp2_with fail
  refine wp_region_held_drew (S := (fun W : World => Below w.heap.size w W ∧ w.heap.size + 2 ≤ W.heap.size ∧ W.cell? ⟨w.heap.size, 0, none⟩ = some (.int .i64 k) ∧ W.cell? ⟨w.heap.size, 1, none⟩ = some (.slice A n c) ∧ (∃ u, W.cell? ⟨w.heap.size + 1, 0, none⟩ = some u) ∧ (∃ u, W.cell? ⟨w.heap.size + 1, 1, none⟩ = some u) ∧ W.frozen? ⟨w.heap.size + 1, 0, none⟩ = false ∧ W.frozen? ⟨w.heap.size + 1, 1, none⟩ = false)) (by kernel_rfl) ?_ (fun hHeld => ?_)
  · exact HS0.out
  refine wpAnyH_take (i := 0) (v := ?_) rfl (by kernel_rfl) (by kernel_rfl) (by kernel_rfl) (fun _ _ _ h => h) (Or.inl ⟨by rfl, ?_⟩) (by assumption) ?_
  rotate_left
  · intro w hSw; (try dsimp only at hSw); go_simp; try with_reducible rfl
  go_simp
  refine wpAnyH_take (i := 1) (v := ?_) rfl (by kernel_rfl) (by kernel_rfl) (by kernel_rfl) (fun _ _ _ h => h) (Or.inl ⟨by rfl, ?_⟩) (by assumption) ?_
  rotate_left
  · intro w hSw; (try dsimp only at hSw); go_simp; try with_reducible rfl
  go_simp
  refine wpAnyH_take (i := 2) (v := ?_) rfl (by kernel_rfl) (by kernel_rfl) (by kernel_rfl) (fun _ _ _ h => h) (Or.inl ⟨by rfl, ?_⟩) (by assumption) ?_
  rotate_left
  · intro w hSw; (try dsimp only at hSw); go_simp; try with_reducible rfl
  go_simp
  refine wpAnyH_take (i := 3) (v := ?_) rfl (by kernel_rfl) (by kernel_rfl) (by kernel_rfl) (fun _ _ _ h => h) (Or.inl ⟨by rfl, ?_⟩) (by assumption) ?_
  rotate_left
  · intro w hSw; (try dsimp only at hSw); go_simp; try with_reducible rfl
  go_simp
  refine wpAnyH_ready (rs := [4]) (by kernel_rfl) (by simp) ?_
  refine AllReadyH.cons rfl (fun K hK => ?_) AllReadyH.nil
  go_simp
  refine (HC.out _ hHeld).mono ?_
  rintro e w5 ⟨A5, c5, rfl, hA5, hL5, hS5⟩
  have HA5 := Lib.hid hA5
  have HL5 := Lib.hid hL5
  have HS5 := Lib.hid hS5
  clear hA5 hL5 hS5
  refine hK.out _ _ ?_ (fun hHeld => ?_)
  · exact HS5.out
  clear hK K
  go_simp
  refine wpAnyH_take (i := 5) (v := ?_) rfl (by kernel_rfl) (by kernel_rfl) (by kernel_rfl) (fun _ _ _ h => h) (Or.inl ⟨by rfl, ?_⟩) (by assumption) ?_
  rotate_left
  · intro w hSw; (try dsimp only at hSw); go_simp; try with_reducible rfl
  go_simp
  refine wpAnyH_ready (rs := [6]) (by kernel_rfl) (by simp) ?_
  refine AllReadyH.cons rfl (fun K hK => ?_) AllReadyH.nil
  go_simp
  obtain ⟨hb5, hsz5, c50, c51, ⟨u2, c52⟩, ⟨u3, c53⟩, f50, f51⟩ := HS5.out
  go_simp
  refine hK.out _ _ ?_ (fun hHeld => ?_)
  · exact (by
    refine ⟨(HS5.out.1.setCell (p := ⟨w.heap.size + 1, 0, none⟩) (by simp) _).setCell (p := ⟨w.heap.size + 1, 1, none⟩) (by simp) _, by simp [World.setCell]; exact HS5.out.2.1, ?_, ?_, ?_, ?_, ?_, ?_⟩
    · rw [World.cell?_setCell_other _ _ _ _ (by simp), World.cell?_setCell_other _ _ _ _ (by simp)]; exact HS5.out.2.2.1
    · rw [World.cell?_setCell_other _ _ _ _ (by simp), World.cell?_setCell_other _ _ _ _ (by simp)]; exact HS5.out.2.2.2.1
    · rw [World.cell?_setCell_other _ _ _ _ (by simp)]; exact ⟨_, World.cell?_setCell_same _ _ _ c52⟩
    · exact ⟨_, World.cell?_setCell_same _ _ _ ((World.cell?_setCell_other _ _ _ _ (by simp)).trans c53)⟩
    · rw [World.frozen?_setCell, World.frozen?_setCell]; exact f50
    · rw [World.frozen?_setCell, World.frozen?_setCell]; exact f51)
  clear hK K
  go_simp
  refine wpAnyH_done (by kernel_rfl) ?_ _
  obtain ⟨hb5, hsz5, c50, c51, ⟨u2, c52⟩, ⟨u3, c53⟩, f50, f51⟩ := HS5.out
  have c62 : ((w5.setCell ⟨w.heap.size + 1, 0, none⟩ (.int .i64 k)).setCell ⟨w.heap.size + 1, 1, none⟩ (.slice A5 n c5)).cell? ⟨w.heap.size + 1, 0, none⟩ = some (.int .i64 k) := (World.cell?_setCell_other _ _ _ _ (by simp)).trans (World.cell?_setCell_same _ _ _ c52)
  have c63 : ((w5.setCell ⟨w.heap.size + 1, 0, none⟩ (.int .i64 k)).setCell ⟨w.heap.size + 1, 1, none⟩ (.slice A5 n c5)).cell? ⟨w.heap.size + 1, 1, none⟩ = some (.slice A5 n c5) := World.cell?_setCell_same _ _ _ ((World.cell?_setCell_other _ _ _ _ (by simp)).trans c53)
  go_wp2_with fail
  refine ret_it1 rfl rfl c62 c63 ?_
  have hne : ∀ (v : Value) (j : Nat) (W : World) (b : Nat), b ≠ w.heap.size + 1 → (W.setCell ⟨w.heap.size + 1, j, none⟩ v).heap[b]? = W.heap[b]? := fun v j W b hb => Below.heap_setCell _ _ _ _ (fun e => hb e)
  refine ⟨⟨k, A5, n, c5, bs⟩, rfl, rfl, ⟨(HA5.out.same (by simp [World.setCell]) (fun b h1 h2 => ?_)).less (by omega), HL5.out, HLT.out⟩, ?_⟩
  · exact (hne _ _ _ _ (by omega)).trans (hne _ _ _ _ (by omega))
  · exact (hb5.setCell (p := ⟨w.heap.size + 1, 0, none⟩) (by simp) _).setCell (p := ⟨w.heap.size + 1, 1, none⟩) (by simp) _
end Go.Proofs.Ytlaopkkfgkcejaa.Qu
