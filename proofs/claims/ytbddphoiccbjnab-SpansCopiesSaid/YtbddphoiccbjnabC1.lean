/- SpansCopies: plain facts; what is held. Conditions: as each theorem lists them. -/
import Derived.Test.YtbddphoiccbjnabO1
import Derived.Test.YtbddphoiccbjnabO2
import Derived.BigGuardPart
namespace Go.Proofs.Ytbddphoiccbjnab
open Go Go.RowKit

theorem Sm.of_mem {N : Nat} {es : List Int} (h : Ok es) (hm : ∀ n, (N : Int) ≤ n → mem es n = false) : Sm N es := by
  refine ⟨h, fun e he => ?_⟩
  have hpos : 0 < es.length := List.length_pos_of_mem he
  have hlast : es.getD (es.length - 1) 0 ≤ (N : Int) := by
    rcases Int.lt_or_le (N : Int) (es.getD (es.length - 1) 0) with h1 | h1
    · have hu : up es (es.getD (es.length - 1) 0 - 1) = es.length - 1 := up_at h.1 _ (by omega) _ (fun i hi => by
        have := get_mono h.1 i (es.length - 1) hi (by omega); omega) (by omega)
      have := hm (es.getD (es.length - 1) 0 - 1) (by omega)
      unfold mem oddB at this
      rw [hu] at this
      have h2 := h.2.1
      simp at this
      omega
    · exact h1
  obtain ⟨i, hi, rfl⟩ := List.mem_iff_getElem.1 he
  rw [show es[i] = es.getD i 0 by simp [List.getD, hi]]
  rcases Nat.lt_or_ge i (es.length - 1) with h1 | h1
  · have := get_mono h.1 i (es.length - 1) h1 (by omega); omega
  · rw [show i = es.length - 1 by omega]; exact hlast

/-- Numbers that are read stay when cells of a block that none of them is in are written. -/
theorem Rd.past {w w' : World} {B n : Nat} {A : Option Addr} {xs : List Value} {q : Nat} (h : Rd w B A n xs) (hB : B ≤ w.heap.size) (hg : w.grownBy w' (some q)) (hq : ∀ a, A = some a → a.block ≠ q) : Rd w' B A n xs := by
  refine ⟨h.1, fun hn => ?_⟩
  obtain ⟨b, off, e, hlt, hc⟩ := h.2 hn
  exact ⟨b, off, e, hlt, fun j u hu => hg.cell (hc j u hu) (by have := hq _ e; simpa using this)⟩

def tens (l : List Int) (k : Nat) : List Int := (l.take k).map (· % 90)
theorem tens_snoc (l : List Int) (k : Nat) (h : k < l.length) (x y : Int) (hx : l[k] = x) (hy : x % 90 = y) : ints (tens l (k + 1)) = ints (tens l k) ++ [.int .i64 y] := by
  unfold tens
  rw [List.take_succ_eq_append_getElem h, List.map_append, hx]; simp [hy, ints]
theorem tens_len (l : List Int) (k : Nat) (h : k ≤ l.length) : (tens l k).length = k := by
  unfold tens; rw [List.length_map, List.length_take]; omega
theorem tens_in (l : List Int) (k : Nat) : ∀ v ∈ tens l k, 0 ≤ v ∧ v < 90 := fun v hv => by
  unfold tens at hv
  rw [List.mem_map] at hv
  obtain ⟨x, _, rfl⟩ := hv
  omega
theorem tens_mem (l : List Int) (k : Nat) (es : List Int) (h : ∀ n, mem es n = (mayN n && (tens l k).contains n)) (n : Int) (hn : 90 ≤ n) : mem es n = false := by
  rw [h n]
  have : (tens l k).contains n = false := by
    rw [Bool.eq_false_iff]
    intro hc
    have := tens_in l k n (by simpa using hc)
    omega
  rw [this, Bool.and_false]

namespace Copies
/-- What the walk holds while it goes through the calls: s, its copy, the union; the copy in the list; what was told. -/
structure St (ps pt pl pu : Nat) (As : Option Addr) (cs N : Nat) (Aw : Option Addr) (w wr : World) (es e1 et eu : List Int) : Prop where
  s : SetIn wr ps e1
  t : SetIn wr pt et
  u : SetIn wr pu eu
  l : wr.cell? ⟨pl, 0, none⟩ = some (.slice As es.length cs)
  v : Rd wr wr.heap.size As es.length (ints es)
  was : Rd wr wr.heap.size Aw (N * 2) (ints es)
  be : Below w.heap.size w wr
  lt : w.heap.size ≤ ps ∧ ps < pt ∧ pt < pl ∧ pl < pu
theorem St.below {ps pt pl pu : Nat} {As : Option Addr} {cs N : Nat} {Aw : Option Addr} {w wr wy : World} {es e1 et eu : List Int} (h : St ps pt pl pu As cs N Aw w wr es e1 et eu) (hb : Below wr.heap.size wr wy) : St ps pt pl pu As cs N Aw w wy es e1 et eu := by
  have h1 := h.s.lt; have h2 := h.u.lt; have h3 := h.lt
  exact ⟨h.s.below hb, h.t.below hb, h.u.below hb, (hb.cell (p := ⟨pl, 0, none⟩) (by show pl < _; omega)).trans h.l, (h.v.below hb (Nat.le_refl _)).more hb.size, (h.was.below hb (Nat.le_refl _)).more hb.size, h.be.trans (hb.mono (by omega)), h.lt⟩
theorem St.putS {ps pt pl pu : Nat} {As : Option Addr} {cs N : Nat} {Aw : Option Addr} {w wr wy : World} {es e1 et eu e2 : List Int} (h : St ps pt pl pu As cs N Aw w wr es e1 et eu) (h1 : SetIn wy ps e2) (h2 : wr.grownBy wy (some ps)) : St ps pt pl pu As cs N Aw w wy es e2 et eu := by
  have hl := h.s.lt; have h3 := h.lt
  obtain ⟨_, A0, c0, hh0, _⟩ := h.s
  exact ⟨h1, h.t.but h2 h.s (by omega), h.u.but h2 h.s (by omega), h2.cell h.l (by simp; omega), (h.v.but (Nat.le_refl _) h2 hh0).more h2.size, (h.was.but (Nat.le_refl _) h2 hh0).more h2.size, h.be.trans (grown_below h2 (by omega) (by omega)), h.lt⟩
theorem St.putT {ps pt pl pu : Nat} {As : Option Addr} {cs N : Nat} {Aw : Option Addr} {w wr wy : World} {es e1 et eu e2 : List Int} (h : St ps pt pl pu As cs N Aw w wr es e1 et eu) (h1 : SetIn wy pt e2) (h2 : wr.grownBy wy (some pt)) : St ps pt pl pu As cs N Aw w wy es e1 e2 eu := by
  have hl := h.s.lt; have h3 := h.lt
  obtain ⟨_, A0, c0, hh0, _⟩ := h.t
  exact ⟨h.s.but h2 h.t (by omega), h1, h.u.but h2 h.t (by omega), h2.cell h.l (by simp; omega), (h.v.but (Nat.le_refl _) h2 hh0).more h2.size, (h.was.but (Nat.le_refl _) h2 hh0).more h2.size, h.be.trans (grown_below h2 (by omega) (by omega)), h.lt⟩
theorem St.putU {ps pt pl pu : Nat} {As : Option Addr} {cs N : Nat} {Aw : Option Addr} {w wr wy : World} {es e1 et eu e2 : List Int} (h : St ps pt pl pu As cs N Aw w wr es e1 et eu) (h1 : SetIn wy pu e2) (h2 : wr.grownBy wy (some pu)) : St ps pt pl pu As cs N Aw w wy es e1 et e2 := by
  have hl := h.s.lt; have h3 := h.lt
  obtain ⟨_, A0, c0, hh0, _⟩ := h.u
  exact ⟨h.s.but h2 h.u (by omega), h.t.but h2 h.u (by omega), h1, h2.cell h.l (by simp; omega), (h.v.but (Nat.le_refl _) h2 hh0).more h2.size, (h.was.but (Nat.le_refl _) h2 hh0).more h2.size, h.be.trans (grown_below h2 (by omega) (by omega)), h.lt⟩
/-- What is held at the end. -/
structure Fin (ps pt pv : Nat) (Aw An : Option Addr) (N N2 : Nat) (w wr : World) (eu et e2 : List Int) : Prop where
  s : SetIn wr ps e2
  t : SetIn wr pt et
  v : SetIn wr pv eu
  was : Rd wr wr.heap.size Aw (N * 2) (ints eu)
  now : Rd wr wr.heap.size An (N2 * 2) (ints et)
  be : Below w.heap.size w wr
theorem Fin.below {ps pt pv : Nat} {Aw An : Option Addr} {N N2 : Nat} {w wr wy : World} {eu et e2 : List Int} (h : Fin ps pt pv Aw An N N2 w wr eu et e2) (hb : Below wr.heap.size wr wy) : Fin ps pt pv Aw An N N2 w wy eu et e2 :=
  ⟨h.s.below hb, h.t.below hb, h.v.below hb, (h.was.below hb (Nat.le_refl _)).more hb.size, (h.now.below hb (Nat.le_refl _)).more hb.size, h.be.trans (hb.mono h.be.size)⟩
end Copies
end Go.Proofs.Ytbddphoiccbjnab
