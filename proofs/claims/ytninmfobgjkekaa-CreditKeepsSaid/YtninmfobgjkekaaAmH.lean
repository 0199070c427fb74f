/- Loads that no operation of a region changes: values that stand for one value of the model's alone; what is held throughout a region. Conditions: as each theorem lists them. -/
import Derived.Test.YtninmfobgjkekaaAmR
import Derived.OrdersHeld
set_option linter.unusedSimpArgs false
set_option linter.unusedVariables false
namespace Go.Am
open Go Go.RowKit

variable {P : Program} {G : Nat} {w0 w : World} {c c0 : Ctx} {g : Gh} {S S' : St} {a a' ac : Act} {o : Oper} {v : Value}

/-- Values that stand for one of the model's alone. -/
def det (n0 : Nat) : Nat → Value → Bool
  | 0, _ => false
  | f + 1, v => match v with
    | .pointer (some ⟨b, _, none⟩) => decide (b < n0)
    | .slice (some ⟨b, _, none⟩) n k => decide (b < n0) && (decide (0 < n) && decide (0 < k))
    | .agg xs => xs.toList.all (det n0 f)
    | .bool _ | .int _ _ | .string _ | .pointer none | .slice none 0 0 | .nilFunc | .nilIface => true
    | _ => false

def conc (c : Ctx) : Nat → Value → Value
  | 0, v => v
  | f + 1, v => match v with
    | .pointer (some ⟨b, off, none⟩) => .pointer (some ⟨(c.loc b).1, (c.loc b).2 + off, none⟩)
    | .slice (some ⟨b, off, none⟩) n k => .slice (some ⟨(c.loc b).1, (c.loc b).2 + off, none⟩) n (k - 1)
    | .agg xs => .agg (xs.map (conc c f))
    | v => v

theorem det_conc (hc : c0.le c) : ∀ (f : Nat) (v u : Value), det c0.n f v = true → VR c v u → u = conc c0 f v
  | 0, v, u, h, _ => by simp [det] at h
  | f + 1, v, u, h, hv => by
    cases hv with
    | ptr b off hb =>
      simp only [det, decide_eq_true_eq] at h
      simp only [conc]
      rw [hc.loc b h]
    | slice b off n k m hb hn hk hcap =>
      simp only [det, Bool.and_eq_true, decide_eq_true_eq] at h
      simp only [conc]
      rw [hc.loc b h.1]
      have : k - 1 = m := by omega
      rw [this]
    | empty b off k a hb hk => simp [det] at h
    | agg xs ys hl hh =>
      simp only [det] at h
      simp only [conc]
      congr 1
      apply Array.ext
      · simp [hl]
      · intro i h1 h2
        have h3 : i < xs.size := by simpa using h2
        rw [Array.getElem_map]
        exact det_conc hc f _ _ (all_get h (Array.getElem?_eq_getElem h3)) (hh i _ _ (Array.getElem?_eq_getElem h3) (Array.getElem?_eq_getElem h1))
    | tuple xs ys hl hh => simp [det] at h
    | iface t x y hh => simp [det] at h
    | func fn xs ys xs' ys' hl hh hl' hh' => simp [det] at h
    | _ => first | rfl | simp [det] at h

/-- Are these the same? (Where it says no they may be so all the same.) -/
def veq : Nat → Value → Value → Bool
  | 0, _, _ => false
  | f + 1, x, y => match x, y with
    | .bool p, .bool q => decide (p = q)
    | .int k n, .int k' n' => decide (k = k') && decide (n = n')
    | .string s, .string t => decide (s = t)
    | .pointer none, .pointer none => true
    | .pointer (some ⟨b, i, none⟩), .pointer (some ⟨b', i', none⟩) => decide (b = b') && decide (i = i')
    | .slice none n k, .slice none n' k' => decide (n = n') && decide (k = k')
    | .slice (some ⟨b, i, none⟩) n k, .slice (some ⟨b', i', none⟩) n' k' => decide (b = b') && (decide (i = i') && (decide (n = n') && decide (k = k')))
    | .agg xs, .agg ys => decide (xs.size = ys.size) && (xs.toList.zip ys.toList).all fun p => veq f p.1 p.2
    | .nilFunc, .nilFunc => true
    | .nilIface, .nilIface => true
    | _, _ => false

theorem veq_eq : ∀ (f : Nat) (x y : Value), veq f x y = true → x = y
  | 0, _, _, h => by simp [veq] at h
  | f + 1, x, y, h => by
    unfold veq at h
    split at h
    · rw [of_decide_eq_true h]
    · simp only [Bool.and_eq_true, decide_eq_true_eq] at h; rw [h.1, h.2]
    · rw [of_decide_eq_true h]
    · rfl
    · simp only [Bool.and_eq_true, decide_eq_true_eq] at h; rw [h.1, h.2]
    · simp only [Bool.and_eq_true, decide_eq_true_eq] at h; rw [h.1, h.2]
    · simp only [Bool.and_eq_true, decide_eq_true_eq] at h; rw [h.1, h.2.1, h.2.2.1, h.2.2.2]
    · rename_i xs ys
      simp only [Bool.and_eq_true, decide_eq_true_eq, List.all_eq_true] at h
      congr 1
      apply Array.ext h.1
      intro i h1 h2
      have hl1 : i < xs.toList.length := by simpa using h1
      have hl2 : i < ys.toList.length := by simpa using h2
      have hz : (xs.toList.zip ys.toList)[i]'(by rw [List.length_zip]; omega) = (xs.toList[i], ys.toList[i]) := List.getElem_zip
      have := h.2 _ (List.getElem_mem (show i < (xs.toList.zip ys.toList).length by rw [List.length_zip]; omega))
      rw [hz] at this
      have := veq_eq f _ _ this
      simpa using this
    · rfl
    · rfl
    · cases h

/-- A load, and what it gives: type, block, place, value. -/
abbrev Hold := TypeId × Nat × Nat × Value

def holds (P : Program) (S : St) (H : List Hold) : Bool := H.all fun h => match ldA P S h.1 h.2.1 h.2.2.1 with
  | some v => veq 6 h.2.2.2 v
  | none => false

def HeldC (P : Program) (c : Ctx) (H : List Hold) (w : World) : Prop := ∀ h ∈ H, (loadVar h.1 ⟨(c.loc h.2.1).1, (c.loc h.2.1).2 + h.2.2.1, none⟩).run P w = .ok (conc c 6 h.2.2.2) w
def HOK (c : Ctx) (H : List Hold) : Prop := ∀ h ∈ H, h.2.1 < c.n ∧ det c.n 6 h.2.2.2 = true ∧ VR c h.2.2.2 (conc c 6 h.2.2.2)

theorem holds_ok (hR : Rel G w0 c g S w) (hc : c0.le c) {H : List Hold} (hd : HOK c0 H) (h : holds P S H = true) : HeldC P c0 H w := fun x hx => by
  obtain ⟨h1, h2, _⟩ := hd x hx
  have := List.all_eq_true.1 h x hx
  split at this
  · rename_i v hv
    have e := veq_eq 6 _ _ this
    subst e
    obtain ⟨_, u, hrun, hvr⟩ := ldA_run hR hv
    rw [det_conc hc 6 _ _ h2 hvr] at hrun
    rw [hc.loc _ h1] at hrun
    exact hrun
  · cases this

def loadOf (a : Act) (o : Oper) : Option (TypeId × Nat × Nat) := match o.op with
  | .load t x => match a.eval x with
    | .pointer (some ⟨b, off, none⟩) => some (t, b, off)
    | _ => none
  | _ => none

def findH : List Hold → TypeId → Nat → Nat → Option Value
  | [], _, _, _ => none
  | (t, b, i, v) :: r, t', b', i' => if t = t' ∧ b = b' ∧ i = i' then some v else findH r t' b' i'

theorem findH_mem : ∀ {H : List Hold} {t : TypeId} {b i : Nat} {v : Value}, findH H t b i = some v → (t, b, i, v) ∈ H
  | [], _, _, _, _, h => by cases h
  | (t, b, i, v) :: r, t', b', i', v', h => by
    unfold findH at h
    split at h
    · rename_i e
      obtain ⟨rfl, rfl, rfl⟩ := e
      cases h
      simp
    · exact List.mem_cons_of_mem _ (findH_mem h)

theorem load_held (hR : Rel G w0 c g S w) (hA : ActR c a ac) (hc : c0.le c) {H : List Hold} (hd : HOK c0 H) {t : TypeId} {b i : Nat} (ho : loadOf a o = some (t, b, i)) (hop : o.op.operands.toList.all (okOpnd G) = true) (hm : (t, b, i, v) ∈ H) :
    ∃ u, VR c v u ∧ ∀ w, HeldC P c0 H w → (execOp ac.eval o).run P w = .ok (.value u) w := by
  unfold loadOf at ho
  split at ho
  · rename_i t' x hx
    split at ho
    · rename_i b' off he
      cases ho
      obtain ⟨h1, _, h3⟩ := hd _ hm
      simp only at h1 h3
      have hv := (⟨hR, hA, hop⟩ : Pre G w0 c g S w a ac o).ev (x := x) (by simp [hx, Op.operands])
      rw [he] at hv
      refine ⟨conc c0 6 v, h3.mono hc, fun w hw => ?_⟩
      have hl := hw _ hm
      simp only at hl
      have hu : ac.eval x = .pointer (some ⟨(c0.loc b).1, (c0.loc b).2 + i, none⟩) := by
        generalize ac.eval x = u at hv
        cases hv with
        | ptr _ _ _ => rw [hc.loc b h1]
      simp only [execOp, hx, hu, Instr.loadAt, Instr.sureAddr]
      simp [hl]
    · cases ho
  · cases ho
end Go.Am
