/- append onto a full slice; bytes as a string. Conditions: as each theorem lists them. -/
import Derived.Test.YtmdmkjkdfagcfaaDoorLawK
import Derived.Test.YtmdmkjkdfagcfaaDoorAm8
namespace Go.Proofs.YtmdmkjkdfagcfaaDoor
open Go Go.RowKit

/-- append(v, x...) where v's capacity is its length: what was there stays. -/
theorem app_full {P : Program} (w : World) (base : Nat) (t ty e : TypeId) (i : TypeInfo) (z : Value) (bytes : Nat) (ht : P.underlying t = some (.slice e)) (hi : P.info? e = some i) (hz : i.zero = some z) (hsize : i.size = 1) (hby : i.bytes = bytes) (hzs : z.cells.size = 1)
    (g n : Nat) (xs : List Value) (hown : w.ownsRow base e 1 (.slice (some ⟨g, 0, none⟩) n n) n xs) (B : Nat) (A : Option Addr) (m c : Nat) (news : List Value) (hx : Rd w B A m news)
    (h63 : n + m ≤ maxLen) (hbytes : (n + m) * bytes ≤ 140737488355328) (hbase : base ≤ w.heap.size) :
    ∃ v' w', (Builtin.append_ #[t, t] ty #[.slice (some ⟨g, 0, none⟩) n n, .slice A m c]).run P w = .ok v' w' ∧ w'.ownsRow base e 1 v' (n + m) (xs ++ news) ∧ Below w.heap.size w w' := by
  have hmax : maxLen = 9223372036854775807 := rfl
  rw [hmax] at h63
  rcases Nat.eq_zero_or_pos m with h0 | h0
  · subst h0
    have hn : news = [] := List.eq_nil_of_length_eq_zero hx.1
    subst hn
    have hnews : Am.News P ⟨0, fun _ => (0, 0), fun _ => 0, fun _ => 0⟩ w t i.size (.slice A 0 c) 0 [] [] :=
      ⟨.inl ⟨e, ht⟩, fun _ => rfl, by cases A <;> simp [Builtin.firstCells, loadCells, loadCellsFrom], by cases A <;> simp [Builtin.firstCells, loadCells, loadCellsFrom], rfl, fun i v u h _ => by simp at h⟩
    exact ⟨_, w, Am.append_nothing ht hi (Nat.le_refl _) hnews rfl ty, by simpa using hown, Below.refl _ _⟩
  · obtain ⟨b, off, rfl, _, hc⟩ := hx.2 h0
    have holds : ∀ j u, xs[j]? = some u → w.cell? ((⟨g, 0, none⟩ : Addr).add j) = some u := hown.cells (g := g) rfl
    have hr := run_append_grow (P := P) w t ty e i z ht hi hz ⟨g, 0, none⟩ n n xs (by rw [hown.1, hsize]) holds ⟨b, off, none⟩ m c news (by rw [hx.1, hsize]; omega) (fun j u hu => by rw [Addr.add_lit]; exact hc j u hu) (by omega) (by omega) (growslice_fits (by omega) (by rw [hby]; exact hbytes))
    have hge := grownCap_ge w (n + m) n e
    have hcm : grownCap w (n + m) n e ≤ maxLen := grownCap_le_maxLen w (n + m) n e (by rw [hmax]; exact h63)
    have hxl : xs.length = n := by simpa using hown.1
    refine ⟨_, _, hr, ⟨by rw [List.length_append, hx.1, hxl, Nat.mul_one], .inr ⟨w.heap.size, _, _, rfl, hbase, heap_alloc_new w.drew _, hge, hcm, ?_, ?_⟩⟩, (Below.refl _ _).drew.alloc (Nat.le_refl _) _⟩
    · simp only [Array.size_append, List.size_toArray, size_zeroCells, hzs, hxl, hx.1]
      omega
    · simp only [Array.toList_append, List.append_assoc, Nat.mul_one]
      rw [← List.append_assoc]
      exact List.take_left' (by rw [List.length_append, hx.1, hxl])

theorem wpList_appf {P : Program} (w : World) {ops : Array Oper} {rest : List Oper} {o : Oper} {a : Act} {Q : Exit → Act → World → Prop} (hgd : o.guard = none) (s x : Operand) (t : TypeId)
    (ho : o.op = .call { callee := .builtin .append, args := #[s, x], argTypes := #[t, t] })
    (base : Nat) (e : TypeId) (i : TypeInfo) (z : Value) (bytes : Nat) (ht : P.underlying t = some (.slice e)) (hi : P.info? e = some i) (hz : i.zero = some z) (hsize : i.size = 1) (hby : i.bytes = bytes) (hzs : z.cells.size = 1)
    (g n : Nat) (xs : List Value) (hs : a.eval s = .slice (some ⟨g, 0, none⟩) n n) (hown : w.ownsRow base e 1 (.slice (some ⟨g, 0, none⟩) n n) n xs) (B : Nat) (A : Option Addr) (m c : Nat) (news : List Value) (hxv : a.eval x = .slice A m c) (hx : Rd w B A m news)
    (h63 : n + m ≤ maxLen) (hbytes : (n + m) * bytes ≤ 140737488355328) (hbase : base ≤ w.heap.size)
    (h : ∀ v' w', w'.ownsRow base e 1 v' (n + m) (xs ++ news) → Below w.heap.size w w' → wpList P ops Q rest (a.put o.dst v') w') : wpList P ops Q (o :: rest) a w :=
  wpList_plain hgd fun K hK => by
    obtain ⟨v', w', hr, h2, h3⟩ := app_full (P := P) w base t o.type e i z bytes ht hi hz hsize hby hzs g n xs hown B A m c news hx h63 hbytes hbase
    unfold Oper.wp execOp
    simp only [ho, resolve, invoke, builtin, Sem.run_bind, Sem.run_pure, Result.andThen_ok, List.map_toArray, List.map_cons, List.map_nil, hs, hxv, hr]
    exact hK _ _ (h v' w' h2 h3)

/-- The bytes as a string. -/
def strOf (bs : List Nat) : ByteArray := ⟨(bs.map UInt8.ofNat).toArray⟩

theorem conv_run {P : Program} (w : World) (src dst e : TypeId) (hs : P.underlying src = some (.slice e)) (he : P.underlying e = some (.int .u8)) (hd : P.underlying dst = some .string) (B : Nat) (A : Option Addr) (n c : Nat) (bs : List Nat) (hx : Rd w B A n (bv bs)) :
    (convert src dst (.slice A n c)).run P w = .ok (.string (strOf bs)) w := by
  have hl : bs.length = n := by simpa [bv] using hx.1
  rcases Nat.eq_zero_or_pos n with h0 | h0
  · subst h0
    have : bs = [] := List.eq_nil_of_length_eq_zero hl
    subst this
    cases A with
    | none => simp [convert, run_underlying hs, run_underlying hd, run_underlying he, Conv.bytesToString, strOf]; rfl
    | some a =>
      have := run_bytesToString (P := P) w a 0 c [] (by simp [loadCells, loadCellsFrom])
      simp only [convert, Sem.run_bind, run_underlying hs, run_underlying hd, Result.andThen_ok, run_underlying he, this]
      rfl
  · obtain ⟨b, off, rfl, _, hc⟩ := hx.2 h0
    have hld := run_loadCells_list (P := P) w ⟨b, off, none⟩ (bv bs) (fun j u hu => by rw [Addr.add_lit]; exact hc j u hu)
    rw [show (bv bs).length = n from hx.1] at hld
    have e1 : bv bs = (bs.map (fun b : Nat => (b : Int))).map (Value.int .u8) := by simp [bv]
    rw [e1] at hld
    have := run_bytesToString (P := P) w ⟨b, off, none⟩ n c _ hld
    rw [Am.fold_push] at this
    simp only [convert, Sem.run_bind, run_underlying hs, run_underlying hd, Result.andThen_ok, run_underlying he, this]
    congr 3
    simp [ByteArray.empty, ByteArray.emptyWithCapacity, Function.comp_def]
    rfl
end Go.Proofs.YtmdmkjkdfagcfaaDoor
