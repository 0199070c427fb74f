/- slices.Index, Contains of numbers, the closure of Drop, slices.IndexFunc, DeleteFunc of items: contracts. Conditions: as each theorem lists them. -/
import Derived.Test.YtlaopkkfgkcejaaJQd
set_option linter.unusedSimpArgs false
set_option linter.unusedVariables false

namespace Go.Proofs.Ytlaopkkfgkcejaa.Qu
open Go Go.RowKit Go.Proofs.Ytlaopkkfgkcejaa

theorem take_one {α : Type} (l : List α) (j : Nat) (x : α) (h : l[j]? = some x) : l.take (j + 1) = l.take j ++ [x] := by
  rw [List.take_add_one, h]; rfl

/-- What slices.Index tells. -/
def IndexP (l : List Int) (x : Int) (w : World) (e : Ending) (w' : World) : Prop := ∃ r : Int, e = .returned (.int .i64 r) ∧ decide (0 ≤ r) = decide (x ∈ l) ∧ w' = w
set_option maxRecDepth 100000 in
set_option maxHeartbeats 4000000 in
theorem index_any (l : List Int) (n c : Nat) (A : Option Addr) (x : Int) (w : World) (hx : Rd w w.heap.size A n (ints l)) (hn : n ≤ c) (hnb : n ≤ 1000000) :
    Calls Try.prog 26 #[.slice A n c, .int .i64 x] w (IndexP l x w) := by
  have hl : l.length = n := by have := hx.1; simpa [ints] using this
  have HL := Lib.hid hl
  have HX := Lib.hid hx
  have hnI : (n : Int) ≤ 1000000 := by omega
  have hncI : (n : Int) ≤ (c : Int) := by omega
  clear hx hl
  go_enter Try.func26, Try.ntmps26
  go_wp2_with fail
  go_loopw [8] (fun i wr => ∃ j : Nat, j ≤ n ∧ i = .int .i64 (j : Int) ∧ wr = w ∧ Hid (x ∉ l.take j)) (fun i _ => n - (intOf i).toNat)
  case atStart => exact ⟨0, Nat.zero_le _, rfl, rfl, by show _ ∉ _; simp⟩
  case round =>
    obtain ⟨j, hj, rfl, rfl, HK⟩ := hrel
    by_cases hlt : j < n
    · have hltI : (j : Int) < (n : Int) := by omega
      have hjI : (0 : Int) ≤ (j : Int) := by omega
      obtain ⟨b, off, rfl, hb, hc⟩ := HX.out.2 (by omega)
      obtain ⟨y, hy⟩ : ∃ y, l[j]? = some y := ⟨_, List.getElem?_eq_getElem (by have := HL.out; omega)⟩
      have c0 := hc j (.int .i64 y) (by simp [ints, hy])
      have HM : Hid (y ∈ l) := List.mem_of_getElem? hy
      have HT : Hid (l.take (j + 1) = l.take j ++ [y]) := take_one l j y hy
      clear hy hc
      by_cases he : x = y
      · subst he
        go_wp2_with fail
        go_ret
        exact ⟨_, rfl, (by rw [decide_eq_true hjI, decide_eq_true HM.out] : decide (0 ≤ (j : Int)) = decide (x ∈ l)), rfl⟩
      · have HNE : Hid (x ∉ l.take (j + 1)) := by show _ ∉ _; rw [HT.out]; simpa [he] using HK.out
        have heb : (x == y) = false := by simpa using he
        clear HK HM HT
        go_wp2_with fail
        refine ⟨⟨j + 1, by omega, by go_num, by first | rfl | trivial, HNE⟩, ?_⟩
        simp [intOf]; omega
    · have hltI : ¬ (j : Int) < (n : Int) := by omega
      obtain rfl : j = n := by omega
      have hk := HK.out
      rw [List.take_of_length_le (by have := HL.out; omega)] at hk
      have HN : Hid (decide (x ∈ l) = false) := decide_eq_false hk
      clear hk HK
      go_wp2_with fail
      go_ret
      exact ⟨_, rfl, (by rw [HN.out]; rfl : decide (0 ≤ (-1 : Int)) = decide (x ∈ l)), rfl⟩

theorem contains_any (l : List Int) (n c : Nat) (A : Option Addr) (x : Int) (w : World) (hx : Rd w w.heap.size A n (ints l)) (hn : n ≤ c) (hnb : n ≤ 1000000) :
    Calls Try.prog 21 #[.slice A n c, .int .i64 x] w fun e w' => e = .returned (.bool (decide (x ∈ l))) ∧ w' = w := by
  have H := Lib.hid (index_any l n c A x w hx hn hnb)
  clear hx hn hnb
  go_enter Try.func21, Try.ntmps21
  go_wp2_with fail
  go_at_call 26
  refine H.out.mono ?_
  rintro e w5 ⟨r, rfl, hr, rfl⟩
  have HR := Lib.hid hr
  clear hr
  go_wp2_with fail
  go_ret
  exact ⟨by rw [← HR.out]; rfl, rfl⟩

/-- Drop's closure: is the item's note among these? The notes lie in a block of their own. -/
structure NotesIn (w : World) (p h : Nat) (B : Option Addr) (m c : Nat) (l : List Int) : Prop where
  box : w.cell? ⟨h, 0, none⟩ = some (.slice B m c)
  ph : p < h
  at' : At w (p + 1) B m (ints l)
  cap : m ≤ c
  few : m ≤ 1000000
theorem NotesIn.grown {w w' : World} {p h : Nat} {B : Option Addr} {m c : Nat} {l : List Int} (hN : NotesIn w p h B m c l) (hg : w.grownBy w' (some p)) : NotesIn w' p h B m c l :=
  ⟨hg.cell hN.box (by have := hN.ph; simp; omega), hN.ph, hN.at'.grown hg (by omega), hN.cap, hN.few⟩
theorem NotesIn.below {w w' : World} {p h : Nat} {B : Option Addr} {m c : Nat} {l : List Int} (hN : NotesIn w p h B m c l) (hb : Below w.heap.size w w') : NotesIn w' p h B m c l := hN.grown (grown_of_below p hb)

set_option maxRecDepth 100000 in
theorem drop1_any (l : List Int) (p h m c : Nat) (B : Option Addr) (k : Int) (A : Option Addr) (n ca : Nat) (w : World) (hN : NotesIn w p h B m c l) :
    Calls Try.prog 20 #[.agg #[.int .i64 k, .slice A n ca], .pointer (some ⟨h, 0, none⟩)] w fun e w' => e = .returned (.bool (decide (k ∈ l))) ∧ Below w.heap.size w w' := by
  have hb : Below w.heap.size w (w.alloc (.cells #[.int .i64 k, .slice A n ca] 24)) := (Below.refl _ _).alloc (Nat.le_refl _) _
  have H := Lib.hid (contains_any l m c B k _ ((hN.at'.below hb).rd) hN.cap hN.few)
  have HB := Lib.hid hb
  have c0 := hN.box
  have hhl := cell_lt c0
  have hhn : h ≠ w.heap.size := by omega
  clear hN hb
  go_enter Try.func20, Try.ntmps20
  go_wp2_with fail
  go_at_call 21
  refine H.out.mono ?_
  rintro e w5 ⟨rfl, rfl⟩
  go_wp2_with fail
  go_ret
  exact ⟨rfl, HB.out⟩

/-- Its note is not among these. -/
def keeps (l : List Int) (q : It) : Bool := !decide (q.k ∈ l)
/-- What slices.IndexFunc tells of Drop's closure. -/
def IndexFP (l : List Int) (ks : List It) (w : World) (e : Ending) (w' : World) : Prop :=
  (e = .returned (.int .i64 (-1)) ∧ ks.filter (keeps l) = ks ∨ ∃ j : Nat, j < ks.length ∧ e = .returned (.int .i64 (j : Int)) ∧ (ks.take (j + 1)).filter (keeps l) = ks.take j) ∧ Below w.heap.size w w'

set_option maxRecDepth 100000 in
set_option maxHeartbeats 4000000 in
theorem indexfunc_any {w : World} {p lo m0 : Nat} {ks : List It} (hq : QAt w p lo ks m0) (l : List Int) (h m c : Nat) (B : Option Addr) (hN : NotesIn w p h B m c l) :
    Calls Try.prog 25 #[.slice (some ⟨p, 0, none⟩) ks.length 32, .func (.func 20) #[] #[.pointer (some ⟨h, 0, none⟩)]] w (IndexFP l ks w) := by
  obtain ⟨n, hn⟩ : ∃ n, ks.length = n := ⟨_, rfl⟩
  have HL := Lib.hid hn
  have HQ := Lib.hid hq
  have HN := Lib.hid hN
  have hnI : (n : Int) ≤ 32 := by have := hq.le; omega
  rw [hn]
  clear hq hN
  go_enter Try.func25, Try.ntmps25
  go_wp2_with fail
  go_loopw [8] (fun i wr => ∃ j : Nat, j ≤ n ∧ i = .int .i64 (j : Int) ∧ Hid ((ks.take j).filter (keeps l) = ks.take j ∧ Below w.heap.size w wr)) (fun i _ => n - (intOf i).toNat)
  case atStart => exact ⟨0, Nat.zero_le _, rfl, rfl, Below.refl _ _⟩
  case round =>
    obtain ⟨j, hj, rfl, HK⟩ := hrel
    by_cases hlt : j < n
    · have hltI : (j : Int) < (n : Int) := by omega
      obtain ⟨q, hqj⟩ : ∃ q, ks[j]? = some q := ⟨_, List.getElem?_eq_getElem (by have := HL.out; omega)⟩
      obtain ⟨he, hb⟩ := HK.out
      have hq1 := HQ.out.below hb
      have c0 : wr.cell? ⟨p, j * 2, none⟩ = some (.int .i64 q.k) := hq1.cells (j * 2) _ (by have := its_get ks j q hqj 0 (by omega); simpa [itC] using this)
      have c1 : wr.cell? ⟨p, j * 2 + 1, none⟩ = some (.slice q.A q.n q.c) := hq1.cells (j * 2 + 1) _ (by have := its_get ks j q hqj 1 (by omega); simpa [itC] using this)
      have HT : Hid (ks.take (j + 1) = ks.take j ++ [q]) := take_one ks j q hqj
      have HF : Hid ((ks.take j).filter (keeps l) = ks.take j) := he
      have HC := Lib.hid (drop1_any l p h m c B q.k q.A q.n q.c wr (HN.out.below hb))
      have HB := Lib.hid hb
      have HD : Hid (keeps l q = !decide (q.k ∈ l)) := rfl
      obtain ⟨d, hd⟩ : ∃ d, decide (q.k ∈ l) = d := ⟨_, rfl⟩
      rw [hd] at HC HD
      clear he hb hq1 HK hqj hd
      cases d
      · go_wp2_with fail
        go_at_call 20
        refine HC.out.mono ?_
        rintro e w5 ⟨rfl, hb5⟩
        have HB5 : Hid (Below w.heap.size w w5) := HB.out.trans (hb5.mono HB.out.size)
        clear hb5
        go_wp2_with fail
        refine ⟨⟨j + 1, by omega, by go_num, by rw [HT.out, List.filter_append, HF.out]; simp [HD.out], HB5.out⟩, ?_⟩
        simp [intOf]; omega
      · go_wp2_with fail
        go_at_call 20
        refine HC.out.mono ?_
        rintro e w5 ⟨rfl, hb5⟩
        have HB5 : Hid (Below w.heap.size w w5) := HB.out.trans (hb5.mono HB.out.size)
        clear hb5
        go_wp2_with fail
        go_ret
        exact ⟨.inr ⟨j, by rw [hn]; exact hlt, rfl, (by rw [HT.out, List.filter_append, HF.out]; simp [HD.out] : (ks.take (j + 1)).filter (keeps l) = ks.take j)⟩, HB5.out⟩
    · have hltI : ¬ (j : Int) < (n : Int) := by omega
      obtain rfl : j = n := by omega
      have HF : Hid (ks.filter (keeps l) = ks) := by have := HK.out.1; rw [List.take_of_length_le (by have := HL.out; omega)] at this; exact this
      have HB := Lib.hid HK.out.2
      clear HK
      go_wp2_with fail
      go_ret
      exact ⟨.inl ⟨rfl, HF.out⟩, HB.out⟩
end Go.Proofs.Ytlaopkkfgkcejaa.Qu
