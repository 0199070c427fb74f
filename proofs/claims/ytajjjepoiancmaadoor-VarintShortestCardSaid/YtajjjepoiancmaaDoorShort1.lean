/- VarintShortest returns true: of two numbers the lesser takes no more bytes; what is taken, put again, takes no more than it took. Conditions: the two listed tables of math/bits read as listed. -/
import Derived.Test.YtajjjepoiancmaaDoorLawK
namespace Go.Proofs.YtajjjepoiancmaaDoor.Short
open Go Go.RowKit

set_option maxHeartbeats 2000000 in
theorem walk_c (P : Int) (x y n m : Int) (bs : List Nat) (A : Option Addr) (cap : Nat) (w : World) (hL : laidMetH Tryd.prog laids w) (hq : ((wid x : Nat) : Int) = P) (hpc : P = 1 ∨ P = 2 ∨ P = 4 ∨ P = 8)
    (wx : Hid (wid x ≠ 0)) (wy : Hid (wid y ≠ 0)) (hcase : (x ≤ y ∧ P ≤ (wid y : Int)) ∨ decide (x ≤ y) = false)
    (HN : Hid (∀ W, Calls Tryd.prog 18 #[.int .i64 n] W fun e w' => e = .returned (.int .i64 x) ∧ W = w')) (HM : Hid (∀ W, Calls Tryd.prog 18 #[.int .i64 m] W fun e w' => e = .returned (.int .i64 y) ∧ W = w'))
    (hx : Rd w w.heap.size A bs.length (bv bs)) (hb : ∀ c ∈ bs, c < 256) (hn : bs.length ≤ cap) (hm : bs.length ≤ 140737488351232) :
    Calls Tryd.prog 6 #[.int .i64 n, .int .i64 m, .slice A bs.length cap] w fun e w' => e = .returned (.bool true) ∧ Below w.heap.size w w' := by
  have HT := Lib.hid (tabs_of hL)
  have HL := Lib.hid hL
  have HX := Lib.hid hx
  have HB := Lib.hid hb
  clear hL hx hb
  have hfin : ∀ w1 : World, Below w.heap.size w w1 → (dec bs = none ∧ Calls Tryd.prog 11 #[.slice A bs.length cap] w1 (fun e w' => e = .returned (.tuple #[.int .i64 0, .slice none 0 0, .int .i64 3]) ∧ w1 = w')) ∨
      ∃ v W, dec bs = some (v, W) ∧ Calls Tryd.prog 11 #[.slice A bs.length cap] w1 (fun e w' => ∃ A' c', e = .returned (.tuple #[.int .i64 ((v : Nat) : Int), .slice A' (bs.length - W) c', .int .i64 0]) ∧
        Hid (bs.length - W ≤ c' ∧ okA A' (bs.length - W) c' ∧ Rd w' w'.heap.size A' (bs.length - W) (bv (bs.drop W)) ∧ Below w1.heap.size w1 w')) := fun w1 hb1 => by
    have hr := HX.out.below hb1 (Nat.le_refl _)
    cases hd : dec bs with
    | none => exact .inl ⟨rfl, take_none bs _ A cap w1 hr HB.out hn hm hd⟩
    | some q => exact .inr ⟨q.1, q.2, rfl, take_yes bs _ A cap w1 hr hb1.size HB.out hn hm q.1 q.2 hd⟩
  have HF := Lib.hid hfin
  clear hfin
  rcases hpc with rfl | rfl | rfl | rfl
  all_goals
    rcases hcase with ⟨h1, h2⟩ | h1
  all_goals
    go_enter Tryd.func6, Tryd.ntmps6
    go_wp2_with fail
    refine (HN.out _).mono ?_; rintro e w' ⟨rfl, rfl⟩
    go_wp2_with fail
    refine (HM.out _).mono ?_; rintro e w' ⟨rfl, rfl⟩
    go_wp2_with fail
    refine (size_one x _ _ (cell_at _ _ _ _ rfl) wx.out).mono ?_; rintro e w' ⟨rfl, rfl⟩
    go_wp2_with fail
    refine (size_one y _ _ (cell_at _ _ _ _ (by simp only [World.size_alloc])) wy.out).mono ?_; rintro e w' ⟨rfl, rfl⟩
    go_wp2_with fail
    refine (put_one x _ _ (cell_at _ _ _ _ (by simp only [World.size_alloc])) (((HT.out.alloc _).alloc _).alloc _) wx.out).mono ?_; rintro e w1 ⟨A1, c1, rfl, hb1⟩
    have HB1 : Hid (Below w.heap.size w w1) := ((((Below.refl _ _).alloc (Nat.le_refl _) _).alloc (by simp) _).alloc (by simp only [World.size_alloc]; omega) _).trans (hb1.mono (by simp only [World.size_alloc]; omega))
    clear hb1
    go_wp2_with fail
    rcases HF.out w1 HB1.out with ⟨hd, H⟩ | ⟨v, W, hd, H⟩
    · have HD := Lib.hid hd
      clear hd
      refine H.mono ?_; rintro e w' ⟨rfl, rfl⟩
      clear H
      go_wp2_with fail
      refine (known_any HL.out HB1.out).mono ?_; rintro e w2 ⟨rfl, hb2⟩
      have HB2 : Hid (Below w.heap.size w w2) := HB1.out.trans (hb2.mono HB1.out.size)
      clear hb2
      go_wp2
      go_ret
      exact ⟨rfl, HB2.out⟩
    · have hwz := dec_wid HB.out hd
      have hdl := dec_le hd
      have HD := Lib.hid hd
      clear hd
      have wz := Lib.hid hwz.1
      have hz1 : ((wid (v : Int) : Nat) : Int) ≤ (W : Int) := by omega
      have hz2 : W ≤ bs.length := hdl.2.1
      clear hwz hdl
      refine H.mono ?_; rintro e w2 ⟨A2, c2, rfl, H2⟩
      clear H
      have HB2 : Hid (Below w.heap.size w w2) := HB1.out.trans (H2.out.2.2.2.mono HB1.out.size)
      go_wp2_with fail
      refine (known_any HL.out HB2.out).mono ?_; rintro e w3 ⟨rfl, hb3⟩
      have HB3 : Hid (Below w.heap.size w w3) := HB2.out.trans (hb3.mono HB2.out.size)
      clear hb3
      go_wp2_with fail
      refine (size_one (v : Int) _ _ (cell_at _ _ _ _ rfl) wz.out).mono ?_; rintro e w' ⟨rfl, rfl⟩
      go_wp2
      go_ret
      exact ⟨by simp; omega, HB3.out.trans ((Below.refl _ _).alloc HB3.out.size _)⟩

theorem walk (n m : Int) (A : Option Addr) (cap : Nat) (bs : List Nat) (w : World) (hL : laidMetH Tryd.prog laids w) (n1 : -9223372036854775808 ≤ n) (n2 : n ≤ 9223372036854775807) (m1 : -9223372036854775808 ≤ m) (m2 : m ≤ 9223372036854775807) (hb : IsBytes w A cap bs) :
    Calls Tryd.prog 6 #[.int .i64 n, .int .i64 m, .slice A bs.length cap] w fun e w' => e = .returned (.bool true) ∧ Below w.heap.size w w' := by
  have hx := wid_may n
  have hy := wid_may m
  have hm := wid_mono hx hy
  refine walk_c (wid (mayF n) : Int) (mayF n) (mayF m) n m bs A cap w hL rfl ?_ hx hy ?_ (fun W => hmay_any n W n1 n2) (fun W => hmay_any m W m1 m2) hb.rd hb.lt hb.cap hb.reach
  · rcases wid_cases _ hx with ⟨h, _⟩ | ⟨h, _⟩ | ⟨h, _⟩ | ⟨h, _⟩ <;> omega
  · by_cases h : mayF n ≤ mayF m
    · exact .inl ⟨h, by have := hm h; omega⟩
    · exact .inr (by simpa using h)
end Go.Proofs.YtajjjepoiancmaaDoor.Short
