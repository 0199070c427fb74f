/- The seal's steps, in plain numbers. Conditions: none. -/
import Derived.Test.YtegfaecbealnhabBy
namespace Go.Proofs.Ytegfaecbealnhab
def Kn : Nat := 15485907386658061715
def Kin : Nat := 14982988110149298331
theorem K_eq : Kn = 0xd6e8feb86659fd93 := by decide
def rotN (h : Nat) : Nat := h * 8192 % 2 ^ 64 + h / 2 ^ 51
def stpN (h c : Nat) : Nat := (rotN h ^^^ c) * Kn % 2 ^ 64
theorem stpN_lt (h c : Nat) : stpN h c < 2 ^ 64 := Nat.mod_lt _ (by decide)
theorem rotN_lt (h : Nat) (hh : h < 2 ^ 64) : rotN h < 2 ^ 64 := by unfold rotN; omega
theorem rot_inj {a b : Nat} (ha : a < 2 ^ 64) (hb : b < 2 ^ 64) (h : rotN a = rotN b) : a = b := by
  unfold rotN at h
  have e : ∀ x, x * 8192 % 2 ^ 64 = x % 2 ^ 51 * 8192 := fun x => by omega
  rw [e, e] at h
  have h1 : a / 2 ^ 51 < 8192 := by omega
  have h2 : b / 2 ^ 51 < 8192 := by omega
  have := Nat.div_add_mod a (2 ^ 51)
  have := Nat.div_add_mod b (2 ^ 51)
  generalize a % 2 ^ 51 = x at *
  generalize b % 2 ^ 51 = y at *
  generalize a / 2 ^ 51 = p at *
  generalize b / 2 ^ 51 = q at *
  obtain rfl : p = q := by omega
  obtain rfl : x = y := by omega
  omega
theorem mul_inj {a b : Nat} (ha : a < 2 ^ 64) (hb : b < 2 ^ 64) (h : a * Kn % 2 ^ 64 = b * Kn % 2 ^ 64) : a = b := by
  have e : ∀ x, x < 2 ^ 64 → x * Kn % 2 ^ 64 * Kin % 2 ^ 64 = x := fun x hx => by
    rw [Nat.mod_mul_mod, Nat.mul_assoc, Nat.mul_mod, show Kn * Kin % 2 ^ 64 = 1 by decide, Nat.mul_one, Nat.mod_mod, Nat.mod_eq_of_lt hx]
  rw [← e a ha, ← e b hb, h]
theorem xlt {a b : Nat} (ha : a < 2 ^ 64) (hb : b < 2 ^ 64) : a ^^^ b < 2 ^ 64 := Nat.xor_lt_two_pow (n := 64) ha hb
theorem xor_c {a b c : Nat} (h : a ^^^ b = a ^^^ c) : b = c := by
  have := congrArg (a ^^^ ·) h
  simpa [← Nat.xor_assoc] using this
theorem xor_h {a b c : Nat} (h : a ^^^ c = b ^^^ c) : a = b := by
  rw [Nat.xor_comm a, Nat.xor_comm b] at h; exact xor_c h
theorem stp_c {h c d : Nat} (hh : h < 2 ^ 64) (hc : c < 2 ^ 64) (hd : d < 2 ^ 64) (e : stpN h c = stpN h d) : c = d :=
  xor_c (mul_inj (xlt (rotN_lt h hh) hc) (xlt (rotN_lt h hh) hd) e)
theorem stp_h {g h c : Nat} (hg : g < 2 ^ 64) (hh : h < 2 ^ 64) (hc : c < 2 ^ 64) (e : stpN g c = stpN h c) : g = h :=
  rot_inj hg hh (xor_h (mul_inj (xlt (rotN_lt g hg) hc) (xlt (rotN_lt h hh) hc) e))
theorem lt64 {x : Nat} (h : x < 256) : x < 2 ^ 64 := Nat.lt_trans h (by decide)
/-- The steps of a part's bytes. -/
def byN (h : Nat) (l : List Nat) : Nat := l.foldl stpN h
def partN (h : Nat) (l : List Nat) : Nat := stpN (byN h l) (256 + l.length)
def tagN (h : Nat) (ps : List (List Nat)) : Nat := ps.foldl partN h
theorem byN_lt (l : List Nat) (h : Nat) (hh : h < 2 ^ 64) : byN h l < 2 ^ 64 := by
  induction l generalizing h with
  | nil => exact hh
  | cons c l ih => exact ih _ (stpN_lt _ _)
theorem partN_lt (h : Nat) (l : List Nat) : partN h l < 2 ^ 64 := stpN_lt _ _
theorem tagN_lt (ps : List (List Nat)) (h : Nat) (hh : h < 2 ^ 64) : tagN h ps < 2 ^ 64 := by
  induction ps generalizing h with
  | nil => exact hh
  | cons c l ih => exact ih _ (partN_lt _ _)
theorem byN_snoc (h : Nat) (l : List Nat) (c : Nat) : byN h (l ++ [c]) = stpN (byN h l) c := by unfold byN; rw [List.foldl_append, List.foldl_cons, List.foldl_nil]
theorem byN_h (l : List Nat) {g h : Nat} (hl : ∀ c ∈ l, c < 256) (hg : g < 2 ^ 64) (hh : h < 2 ^ 64) (e : byN g l = byN h l) : g = h := by
  induction l generalizing g h with
  | nil => exact e
  | cons c l ih =>
    have := ih (fun x hx => hl x (by simp [hx])) (stpN_lt g c) (stpN_lt h c) e
    exact stp_h hg hh (lt64 (hl c (by simp))) this
/-- One byte that is another one makes another state. -/
theorem byN_one (l : List Nat) (h k x : Nat) (hl : ∀ c ∈ l, c < 256) (hh : h < 2 ^ 64) (hx : x < 256) (hk : k < l.length) (e : byN h (l.set k x) = byN h l) : l.getD k 0 = x := by
  induction l generalizing h k with
  | nil => simp at hk
  | cons c l ih =>
    cases k with
    | zero =>
      have h1 := byN_h l (fun x hx => hl x (by simp [hx])) (stpN_lt h x) (stpN_lt h c) e
      simpa using (stp_c hh (lt64 hx) (lt64 (hl c (by simp))) h1).symm
    | succ k => simpa using ih (stpN h c) k (fun x hx => hl x (by simp [hx])) (stpN_lt h c) (by simpa using hk) e
theorem partN_h (l : List Nat) {g h : Nat} (hl : ∀ c ∈ l, c < 256) (hn : l.length < 2 ^ 63) (hg : g < 2 ^ 64) (hh : h < 2 ^ 64) (e : partN g l = partN h l) : g = h :=
  byN_h l hl hg hh (stp_h (byN_lt l g hg) (byN_lt l h hh) (by omega) e)
theorem partN_one (l : List Nat) (h k x : Nat) (hn : l.length < 2 ^ 63) (hl : ∀ c ∈ l, c < 256) (hh : h < 2 ^ 64) (hx : x < 256) (hk : k < l.length) (e : partN h (l.set k x) = partN h l) : l.getD k 0 = x := by
  unfold partN at e
  rw [List.length_set] at e
  exact byN_one l h k x hl hh hx hk (stp_h (byN_lt _ h hh) (byN_lt l h hh) (by omega) e)
end Go.Proofs.Ytegfaecbealnhab
