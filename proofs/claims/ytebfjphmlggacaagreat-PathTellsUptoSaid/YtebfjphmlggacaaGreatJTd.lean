/- PathTells: the walk. Conditions: the calls' row is an argument's, no more than so many. -/
import Derived.Test.YtebfjphmlggacaaGreatJTa
import Derived.Test.YtebfjphmlggacaaGreatJLx
set_option linter.unusedSimpArgs false
set_option linter.unusedVariables false

namespace Go.Proofs.YtebfjphmlggacaaGreat.Pt
open Go Go.RowKit Go.Proofs.YtebfjphmlggacaaGreat Go.Proofs.YtebfjphmlggacaaGreat.Sp Go.Proofs.YtebfjphmlggacaaGreat.Ld
open Go.Proofs.YtebfjphmlggacaaGreat.Pa (selK PathIn FrRow badL heardS probeF lateS inRs Rc RcOk rcC elicF SendP)
open Go.Proofs.YtebfjphmlggacaaGreat.Xr (RPathIn RLed RSendP)
open Go.Proofs.YtebfjphmlggacaaGreat.Sq (TwinQ PlQ)

/-- The operations of the comparison behind each call: what each waits for, reads, writes. -/
def tab30 : List Lx.Rw3 := [⟨[], [3], some 120, false⟩, ⟨[0], [120], some 121, false⟩, ⟨[], [4], some 122, false⟩, ⟨[2, 1], [122], some 123, false⟩, ⟨[1, 3], [121, 123], some 124, false⟩, ⟨[4, 3], [124], some 125, false⟩, ⟨[5], [3, 125], some 126, false⟩, ⟨[6, 5], [126, 125], some 127, false⟩, ⟨[7, 5], [127, 125], some 128, false⟩, ⟨[8, 5], [128, 125], some 129, false⟩, ⟨[9, 5], [129, 125], some 130, false⟩, ⟨[5], [4, 125], some 131, false⟩, ⟨[11, 5], [131, 125], some 132, false⟩, ⟨[12, 5], [132, 125], some 133, false⟩, ⟨[13, 5], [133, 125], some 134, false⟩, ⟨[14, 5], [134, 125], some 135, false⟩, ⟨[10, 15, 5], [130, 135, 125], some 136, false⟩, ⟨[5, 16], [125, 136], some 137, false⟩, ⟨[17, 5], [137], some 138, false⟩, ⟨[18], [3, 138], some 139, false⟩, ⟨[19, 18], [139, 138], some 140, false⟩, ⟨[20, 18], [140, 138], some 141, false⟩, ⟨[21, 18], [141, 138], some 142, false⟩, ⟨[22, 18], [142, 138], some 143, false⟩, ⟨[18], [4, 138], some 144, false⟩, ⟨[24, 18], [144, 138], some 145, false⟩, ⟨[25, 18], [145, 138], some 146, false⟩, ⟨[26, 18], [146, 138], some 147, false⟩, ⟨[27, 18], [147, 138], some 148, false⟩, ⟨[23, 28, 18], [143, 148, 138], some 149, false⟩, ⟨[18, 29], [138, 149], some 150, false⟩, ⟨[30, 18], [150], some 151, false⟩, ⟨[31], [3, 151], some 152, false⟩, ⟨[32, 31], [152, 151], some 153, false⟩, ⟨[33, 31], [153, 151], some 154, false⟩, ⟨[34, 31], [154, 151], some 155, false⟩, ⟨[35, 31], [155, 151], some 156, false⟩, ⟨[31], [4, 151], some 157, false⟩, ⟨[37, 31], [157, 151], some 158, false⟩, ⟨[38, 31], [158, 151], some 159, false⟩, ⟨[39, 31], [159, 151], some 160, false⟩, ⟨[40, 31], [160, 151], some 161, false⟩, ⟨[36, 41, 31], [156, 161, 151], some 162, false⟩, ⟨[31, 42], [151, 162], some 163, false⟩, ⟨[43, 31], [163], some 164, false⟩, ⟨[44], [3, 164], some 165, false⟩, ⟨[45, 44], [165, 164], some 166, false⟩, ⟨[46, 44], [166, 164], some 167, false⟩, ⟨[47, 44], [167, 164], some 168, false⟩, ⟨[48, 44], [168, 164], some 169, false⟩, ⟨[44], [4, 164], some 170, false⟩, ⟨[50, 44], [170, 164], some 171, false⟩, ⟨[51, 44], [171, 164], some 172, false⟩, ⟨[52, 44], [172, 164], some 173, false⟩, ⟨[53, 44], [173, 164], some 174, false⟩, ⟨[49, 54, 44], [169, 174, 164], some 175, false⟩, ⟨[44, 55], [164, 175], some 176, false⟩, ⟨[56, 44], [176], some 177, false⟩, ⟨[57], [3, 177], some 178, false⟩, ⟨[58, 57], [178, 177], some 179, false⟩, ⟨[59, 57], [179, 177], some 180, false⟩, ⟨[60, 57], [180, 177], some 181, false⟩, ⟨[61, 57], [181, 177], some 182, false⟩, ⟨[57], [4, 177], some 183, false⟩, ⟨[63, 57], [183, 177], some 184, false⟩, ⟨[64, 57], [184, 177], some 185, false⟩, ⟨[65, 57], [185, 177], some 186, false⟩, ⟨[66, 57], [186, 177], some 187, false⟩, ⟨[62, 67, 57], [182, 187, 177], some 188, false⟩, ⟨[57, 68], [177, 188], some 189, false⟩, ⟨[69, 57], [189], some 190, false⟩, ⟨[70], [3, 190], some 191, false⟩, ⟨[71, 70], [191, 190], some 192, false⟩, ⟨[72, 70], [192, 190], some 193, false⟩, ⟨[73, 70], [193, 190], some 194, false⟩, ⟨[74, 70], [194, 190], some 195, false⟩, ⟨[70], [4, 190], some 196, false⟩, ⟨[76, 70], [196, 190], some 197, false⟩, ⟨[77, 70], [197, 190], some 198, false⟩, ⟨[78, 70], [198, 190], some 199, false⟩, ⟨[79, 70], [199, 190], some 200, false⟩, ⟨[75, 80, 70], [195, 200, 190], some 201, false⟩, ⟨[70, 81], [190, 201], some 202, false⟩, ⟨[82, 70], [202], some 203, false⟩, ⟨[83], [3, 203], some 204, false⟩, ⟨[84, 83], [204, 203], some 205, false⟩, ⟨[85, 83], [205, 203], some 206, false⟩, ⟨[86, 83, 83], [206, 203], some 207, false⟩, ⟨[83], [4, 203], some 208, false⟩, ⟨[88, 83], [208, 203], some 209, false⟩, ⟨[89, 83], [209, 203], some 210, false⟩, ⟨[90, 87, 83], [210, 203], some 211, false⟩, ⟨[87, 91, 83], [207, 211, 203], some 212, false⟩, ⟨[83, 92], [203, 212], some 213, false⟩, ⟨[93, 91], [213], some 214, false⟩, ⟨[94], [3, 214], some 215, false⟩, ⟨[95, 94], [215, 214], some 216, false⟩, ⟨[96, 94], [216, 214], some 217, false⟩, ⟨[97, 94, 94], [217, 214], some 218, false⟩, ⟨[94], [4, 214], some 219, false⟩, ⟨[99, 94], [219, 214], some 220, false⟩, ⟨[100, 94], [220, 214], some 221, false⟩, ⟨[101, 94], [221, 214], some 222, false⟩, ⟨[102, 94], [222, 214], some 223, false⟩, ⟨[98, 103, 94], [218, 223, 214], some 224, false⟩, ⟨[94, 104], [214, 224], some 225, false⟩, ⟨[105, 98], [225], some 226, false⟩, ⟨[106], [3, 226], some 227, false⟩, ⟨[107, 106], [227, 226], some 228, false⟩, ⟨[108, 106], [228, 226], some 229, false⟩, ⟨[109, 106, 106], [229, 226], some 230, false⟩, ⟨[106], [4, 226], some 231, false⟩, ⟨[111, 106], [231, 226], some 232, false⟩, ⟨[112, 106], [232, 226], some 233, false⟩, ⟨[113, 106], [233, 226], some 234, false⟩, ⟨[114, 106], [234, 226], some 235, false⟩, ⟨[115, 106], [235, 226], some 236, false⟩, ⟨[110, 116, 106], [230, 236, 226], some 237, false⟩, ⟨[106, 117], [226, 237], some 238, false⟩, ⟨[118, 110], [238], some 239, false⟩, ⟨[119], [3, 239], some 240, false⟩, ⟨[120, 119], [240, 239], some 241, false⟩, ⟨[121, 119], [241, 239], some 242, false⟩, ⟨[122, 119, 119], [242, 239], some 243, false⟩, ⟨[119], [4, 239], some 244, false⟩, ⟨[124, 119], [244, 239], some 245, false⟩, ⟨[125, 119], [245, 239], some 246, false⟩, ⟨[126, 123, 119], [246, 239], some 247, false⟩, ⟨[123, 127, 119], [243, 247, 239], some 248, false⟩, ⟨[119, 128], [239, 248], some 249, false⟩]
theorem own_apart {w : World} {base e size n c m g : Nat} {A : Option Addr} {xs : List Value} {cu : Array Value} {S : TypeId} (h : w.ownsRow base e size (.slice A n c) m xs) (hg : w.heap[g]? = some (.cells cu S (0, 0))) (hS : e ≠ S) : ∀ a, A = some a → a.block ≠ g := fun a ha e' => by
  subst ha
  rcases h.2 with ⟨h2, _⟩ | ⟨g', cap, cu', h2, _, hh, _⟩
  · simp at h2
  · simp only [Value.slice.injEq, Option.some.injEq] at h2
    obtain ⟨rfl, _⟩ := h2
    subst e'
    rw [hg] at hh
    simp only [Option.some.injEq, Obj.cells.injEq, and_true] at hh
    exact hS hh.2.symm
theorem heard_bk (s : Rtt.RS) (l : List (Pk × List Fq)) (bh : Nat) (now : Int) (h : 0 ≤ s.bk) : 0 ≤ (heardS s l bh now).bk ∧ (heardS s l bh now).bk ≤ s.bk := by
  unfold heardS
  split
  · unfold Rtt.samp
    split
    · exact ⟨Int.le_refl _, h⟩
    · exact ⟨Int.le_refl _, h⟩
  · exact ⟨h, Int.le_refl _⟩
theorem raw_keep {W W' : World} {r : Rw} (h : RawOk W r) (hb : Below W.heap.size W W') : RawOk W' r :=
  ⟨h.id, h.off, h.a, h.b, (h.bs.below hb (Nat.le_refl _)).more hb.size, h.bc, h.bm, h.blt, (h.l.below hb (Nat.le_refl _)).more hb.size, h.lc, h.lm, h.llt⟩
theorem raws_keep {W W' : World} {A : Option Addr} {cap n : Nat} {rs : List Rw} (h : IsRaws W A cap n rs) (hb : Below W.heap.size W W') : IsRaws W' A cap n rs :=
  ⟨h.len, h.cap, h.big, fun h0 => by
    obtain ⟨b, off, e, hl, hc⟩ := h.rd h0
    exact ⟨b, off, e, Nat.lt_of_lt_of_le hl hb.size, fun k r hk => ⟨raw_keep (hc k r hk).1 hb, fun j u hu => (hb.cell (p := ⟨b, off + k * 9 + j, none⟩) hl).trans ((hc k r hk).2 j u hu)⟩⟩⟩

set_option maxRecDepth 100000 in
set_option maxHeartbeats 64000000 in
theorem tells_walk (A : Option Addr) (n cap : Nat) (rs : List Rc) (w : World) (hr : Pa.CallsIn w A cap n rs) (hn : n ≤ 1048576) :
    Calls Tryz.prog 3 #[.slice A n cap] w fun e w' => e = .returned (.bool true) ∧ Below w.heap.size w w' := by
  have HR := Lib.hid hr
  have hncap := hr.le
  have hnI : (n : Int) ≤ 1048576 := by omega
  have hncI : (n : Int) ≤ (cap : Int) := by omega
  clear hr
  go_enter Tryz.func3, Tryz.ntmps3
  go_wp2_with fail
  refine (Pa.new_path w).mono ?_
  rintro e w1 ⟨p, rfl, hp1, hb1⟩
  have HP1 := Lib.hid hp1
  have HB1 := Lib.hid hb1
  clear hp1 hb1
  go_wp2_with fail
  refine (rnew_path w1).mono ?_
  rintro e w2 ⟨r, rfl, hr2, hrl, hb2⟩
  have HP2 := Lib.hid (HP1.out.keep hb2)
  have HR2 := Lib.hid hr2
  have HB2 := Lib.hid (HB1.out.trans (hb2.mono HB1.out.size))
  have HRL : Hid (w.heap.size ≤ r) := Nat.le_trans HB1.out.size hrl
  clear hr2 hb2 hrl HP1 HB1
  go_wp2_with fail
  refine (PaKn.known_any w2).mono ?_
  rintro e w3 ⟨rfl, hb3⟩
  have HF3 : Hid (TellI w w3 p r 0 0 0 Rtt.r0 [] [] 0 0 ⟨4, 32, 0, 0⟩) :=
    ⟨HP2.out.keep hb3, HR2.out.keep hb3, HRL.out, trivial, fun x hx => (by cases hx), HB2.out.trans (hb3.mono HB2.out.size), Nat.le_refl _, ⟨by decide, by decide⟩, ⟨by decide, by decide⟩, fun x hx => (by cases hx), Nat.zero_le _⟩
  clear hb3 HP2 HR2 HB2 HRL
  go_wp2_with fail
  go_loopw [5, 28] (fun nw i wr => ∃ (j : Nat) (now : Int) (s : Rtt.RS) (kq kr : List (Pk × List Fq)) (next behind : Nat) (wd : Cg.Win), nw = .int .i64 now ∧ i = .int .i64 (j : Int) ∧ j ≤ n ∧ Hid (TellI w wr p r j j now s kq kr next behind wd)) (fun _ i _ => n - (intOf i).toNat)
  case atStart => exact ⟨0, 0, _, _, _, _, _, _, rfl, rfl, Nat.zero_le _, HF3.out⟩
  case round =>
    clear HF3
    obtain ⟨j, now, s, kq, kr, next, behind, wd, rfl, rfl, hj, HK⟩ := hrel
    by_cases hjn : j < n
    · have hjnI : (j : Int) < (n : Int) := by omega
      obtain ⟨b0, off, hA, hbn, hcs⟩ := HR.out.rd (by omega)
      subst hA
      obtain ⟨rc, hrj⟩ : ∃ r, rs[j]? = some r := ⟨_, List.getElem?_eq_getElem (by have := HR.out.len; omega)⟩
      obtain ⟨hok, hcell⟩ := hcs j rc hrj
      have hrd : ∀ i v, (rcC rc)[i]? = some v → wr.cell? ⟨b0, off + j * 6 + i, none⟩ = some v := fun i v hv => by
        rw [HK.out.below.cell (p := ⟨b0, off + j * 6 + i, none⟩) hbn]
        exact hcell i v hv
      have cx0 : wr.cell? ⟨b0, off + j * 6, none⟩ = _ := hrd 0 _ rfl
      have cx1 := hrd 1 _ rfl
      have cx2 := hrd 2 _ rfl
      have cx3 := hrd 3 _ rfl
      have cx4 := hrd 4 _ rfl
      have cx5 := hrd 5 _ rfl
      have HR4 := Lib.hid (raws_keep hok.r4 HK.out.below)
      have HR5 := Lib.hid ((hok.r5.below HK.out.below (Nat.le_refl _)).more HK.out.below.size)
      have hl5 := hok.l5
      have hu5 := hok.u5
      obtain ⟨x0, x1, x2, x3, A4, n4, c4, f4, A5, l5, c5⟩ := rc
      simp only at cx0 cx1 cx2 cx3 cx4 cx5 HR4 HR5 hl5 hu5
      clear hok hcell hcs hrj hrd
      go_upto_region 9 with (fail)
      obtain ⟨w1, hw1⟩ : ∃ x, wr.alloc (.cells #[.int .i64 x0, .int .i64 x1, .int .i64 x2, .int .i64 x3, .slice A4 n4 c4, .slice A5 l5.length c5] 31) = x := ⟨_, rfl⟩
      obtain ⟨q, hq⟩ : ∃ x, wr.heap.size = x := ⟨_, rfl⟩
      have hb1 : Below wr.heap.size wr w1 := hw1 ▸ (Below.refl _ _).alloc (Nat.le_refl _) _
      have hqc : w1.heap[q]? = some (.cells #[.int .i64 x0, .int .i64 x1, .int .i64 x2, .int .i64 x3, .slice A4 n4 c4, .slice A5 l5.length c5] 31 (0, 0)) := by rw [← hw1, ← hq]; exact heap_alloc_new _ _
      have cq0 := cell_slot hqc (o := 0) rfl
      have cq3 := cell_slot hqc (o := 3) rfl
      have cq4 := cell_slot hqc (o := 4) rfl
      have cq5 := cell_slot hqc (o := 5) rfl
      have HR4 := Lib.hid (raws_keep HR4.out hb1)
      have HR5 := Lib.hid ((HR5.out.below hb1 (Nat.le_refl _)).more hb1.size)
      have hjI : (j : Int) ≤ 1048576 := by omega
      have hnow := HK.out.now
      have hd1 := Int.emod_nonneg x3 (show (3 : Int) ≠ 0 by decide)
      have hd2 := Int.emod_lt_of_pos x3 (show (0 : Int) < 3 by decide)
      have HPC := Lib.hid (fun W => pick_any x3 3 W (by decide) (by decide))
      obtain ⟨d, hd⟩ : ∃ x, x3 % 3 = x := ⟨_, rfl⟩
      rw [hd] at hd1 hd2 HPC
      obtain ⟨now', hnow'⟩ : ∃ x, now + d = x := ⟨_, rfl⟩
      have hwn : IntKind.i64.wrap (now + d) = now' := by rw [← hnow']; exact IntWalk.i64_in _ (by omega)
      have HK1 : Hid (TellI w w1 p r j (j + 1) now' s kq kr next behind wd) := by rw [← hnow']; exact (HK.out.keep hb1).tick d ⟨hd1, by omega⟩
      rw [hw1, hq]
      clear hw1 hq hb1 hqc cx0 cx1 cx2 cx3 cx4 cx5 HK hd
      go_wp2_with fail
      refine (HPC.out _).mono ?_
      rintro e wq ⟨rfl, hwq⟩
      have hwq := hwq.symm
      subst hwq
      clear HPC
      go_upto_region 10 with (fail)
      have hm8a := Int.emod_nonneg x0 (show (8 : Int) ≠ 0 by decide)
      have hm8b := Int.emod_lt_of_pos x0 (show (0 : Int) < 8 by decide)
      have HPM := Lib.hid (fun W => pick_any x0 8 W (by decide) (by decide))
      obtain ⟨q8, hq8⟩ : ∃ x, x0 % 8 = x := ⟨_, rfl⟩
      rw [hq8] at HPM hm8a hm8b
      clear hq8
      clear hnow' hwn hnow hd1 hd2
      go_wp2_with fail
      refine (HPM.out _).mono ?_
      rintro e wq ⟨rfl, hwq⟩
      have hwq := hwq.symm
      subst hwq
      clear HPM
      go_upto_block 2 with (fail)
      go_cut [5, 8, 9, 10, 11, 12, 13, 14, 15, 16, 17] (fun v5 v8 v9 v10 v11 v12 v13 v14 v15 v16 v17 wx => v5 = .int .i64 now' ∧ ∃ s' kq' kr' next' behind' wd', Hid (TellI w wx p r (j + 1) (j + 1) now' s' kq' kr' next' behind' wd'))
      case first =>
        by_cases h0 : q8 = 0
        · have hb0 : (q8 == 0) = true := by simp [h0]
          clear h0
          as_aux_lemma =>
            have HRU := Lib.hid (fun W (hb : Below wq.heap.size wq W) => runs_any l5 A5 c5 next W ((HR5.out.below hb (Nat.le_refl _)).more hb.size) hl5 (by omega) (by have := HK1.out.nx; omega))
            have v5 : wq.cell? ⟨r, 5, none⟩ = some (.int .i64 (next : Int)) := by
              obtain ⟨cr, r1, r2, r3⟩ := HK1.out.ref.cur
              exact r2.cell.1
            go_wp2_with fail
            refine Rtt.still_tail 7 (by kernel_rfl) (by kernel_rfl) ?_
            intro wz hwz
            have cq5 : wz.cell? ⟨q, 5, none⟩ = some (.slice A5 l5.length c5) := by rw [hwz]; exact cq5
            have v5 : wz.cell? ⟨r, 5, none⟩ = some (.int .i64 (next : Int)) := by rw [hwz]; exact v5
            have HK2 : Hid (TellI w wz p r j (j + 1) now' s kq kr next behind wd) := by rw [hwz]; exact HK1.out.keep (Below.refl _ _).drew
            have HRU2 := Lib.hid (HRU.out wz (by rw [hwz]; exact (Below.refl _ _).drew))
            clear hwz HRU HK1 cq0 cq3 cq4
            simp only [List.take_succ_cons, List.take_zero, List.drop_succ_cons, List.drop_zero]
            iterate 7 still_step
            refine wpStill_nil ?_
            clear cq5 v5
            go_wp2_with fail
            refine HRU2.out.mono ?_
            rintro e w3 ⟨rs, A6, c6, rfl, hl6, ho6, hb6⟩
            have HK3 := Lib.hid (HK2.out.keep hb6)
            obtain ⟨_, _, e6, hc6, _, _, hr6⟩ := own_form ho6
            simp only [Value.slice.injEq, true_and] at e6
            obtain ⟨rfl, rfl⟩ := e6
            have HO6 := Lib.hid ho6
            have hnw := HK3.out.now
            have HHD := Lib.hid (Pa.heard_path HK3.out.path rs (by omega) _ _ hc6 hr6 now' ⟨by omega, by omega⟩ (fun x hx => by have := HK3.out.ats x hx; omega) (by have := HK3.out.nx; omega) (by have := HK3.out.tot; omega))
            have HC6 := Lib.hid hc6
            have HL6 := Lib.hid hl6
            have hnw1 : -2305843009213693952 ≤ now' ∧ now' ≤ 2305843009213693952 := ⟨by omega, by omega⟩
            have HNW := Lib.hid hnw1
            clear hb6 ho6 hr6 hc6 HRU2 HK2 hl6 hnw hnw1
            go_wp2_with fail
            refine HHD.out.mono ?_
            intro e w4 hor
            clear HHD
            rcases hor with ⟨hbad, rfl, hb4⟩ | ⟨hgood, A7, c7, rfl, ho7, hq7, hp7, hm7⟩
            · have HM4 : Hid (Moved w.heap.size p w3 w4) := Moved.of hb4 HK3.out.below.size
              have HK4 := Lib.hid (HK3.out.keep hb4)
              have HO4 := Lib.hid (own_below HO6.out hb4)
              obtain ⟨cu4, hc4⟩ := RPathIn.blk HK4.out.ref
              obtain ⟨_, _, e4, hc6, _, _, hr6⟩ := own_form HO4.out
              simp only [Value.slice.injEq, true_and] at e4
              obtain ⟨rfl, rfl⟩ := e4
              obtain ⟨hnx1, hkl1, hbn1, hnm1, hnm2, htt2, hat2⟩ := HK4.out.lens
              have hnx2 := HK4.out.nx
              have HRH := Lib.hid (Xr.rheard_path HK4.out.ref rs (by have := HL6.out; omega) _ _ hc6 hr6 (own_apart HO4.out hc4 (by decide)) now' HNW.out (fun x hx => by have := hat2 x hx; omega) (by omega) hbn1 (by omega) (fun x hx => by have := hnm2 x hx; omega) (by omega))
              have HBAD := Lib.hid hbad
              clear hb4 hbad hc6 hr6 hc4 hnx1 hkl1 hbn1 hnm1 hnm2 htt2 hat2 hnx2 HO4 HO6 HK3 HM4
              go_wp2_with fail
              refine HRH.out.mono ?_
              intro e w5 hor
              clear HRH
              rcases hor with ⟨_, rfl, hb5⟩ | ⟨hgood, _⟩
              · have H6 := Lib.hid (HK4.out.keep hb5).more
                have HSF := Lib.hid (Sq.twins_same (w := w5) (lo := 0) (lo' := 0) [] [] trivial none none 0 0 0 rfl (Rd.nil _ _ _) (Rd.nil _ _ _) (Nat.le_refl _) (Nat.le_refl _) (by omega) (fun q hq => by cases hq) (fun q hq => by cases hq))
                clear hb5 HK4 HBAD
                go_wp2_with fail
                refine HSF.out.mono ?_
                rintro e w6 ⟨rfl, hb6⟩
                have H7 := Lib.hid (H6.out.keep hb6)
                clear hb6 HSF H6
                go_wp2_with fail
                go_meet
                case rel => exact ⟨rfl, _, _, _, _, _, _, H7.out⟩
              · obtain ⟨x, hx, hxn⟩ := HBAD.out
                have := hgood x hx
                omega
            · have HRM := Lib.hid (HK3.out.mid hm7)
              have HO7 := Lib.hid (And.intro ho7 hq7)
              have HP7 := Lib.hid hp7
              have HM7 := Lib.hid hm7
              have HGD := Lib.hid hgood
              obtain ⟨cu3, hc3⟩ := PathIn.blk HK3.out.path
              have HO4 := Lib.hid (Pa.own_moved HO6.out hm7 hc3 (by decide) (by decide))
              obtain ⟨cu4, hc4⟩ := RPathIn.blk HRM.out
              obtain ⟨_, _, e4, hc6, _, _, hr6⟩ := own_form HO4.out
              simp only [Value.slice.injEq, true_and] at e4
              obtain ⟨rfl, rfl⟩ := e4
              obtain ⟨hnx1, hkl1, hbn1, hnm1, hnm2, htt2, hat2⟩ := HK3.out.lens
              have hnx2 := HK3.out.nx
              have HRH := Lib.hid (Xr.rheard_path HRM.out rs (by have := HL6.out; omega) _ _ hc6 hr6 (own_apart HO4.out hc4 (by decide)) now' HNW.out (fun x hx => by have := hat2 x hx; omega) (by omega) hbn1 (by omega) (fun x hx => by have := hnm2 x hx; omega) (by omega))
              clear ho7 hq7 hp7 hm7 hgood hc6 hr6 hc4 hc3 hnx1 hkl1 hbn1 hnm1 hnm2 htt2 hat2 hnx2 HO4 HO6
              go_wp2_with fail
              refine HRH.out.mono ?_
              intro e w5 hor
              clear HRH
              rcases hor with ⟨hbad, _⟩ | ⟨_, A8, c8, rfl, ho8, hq8, hr8, hg8⟩
              · obtain ⟨x, hx, hxn⟩ := hbad
                have := HGD.out x hx
                omega
              · have htw := HK3.out.twin.sel (inRs rs) (inRs_own rs)
                have hto := HK3.out.twin.sel (fun k => !inRs rs k) (fun k k' h1 h2 => by rw [inRs_own rs k k' h1 h2])
                have hkept := HK3.out.kept HM7.out hg8 HO7.out.1 HO7.out.2
                have hn1 : (Pa.allF (selK (inRs rs) kq)).length ≤ 1099511627776 := by have := sel_tot (inRs rs) kq; have := HK3.out.tot; omega
                have HSF := Lib.hid (TellI.frames htw (fun x hx => HK3.out.plain x (Pa.selK_mem hx)) hn1 hkept.1 ho8 hkept.2 hq8)
                rw [htw.heard s (behF behind rs) now', htw.elsE] at hr8
                have H6 : Hid (TellI w w5 p r (j + 1) (j + 1) now' (heardS s (selK (inRs rs) kq) (behF behind rs) now') (selK (fun k => !inRs rs k) kq) (selK (fun k => !inRs rs k) kr) next (behF behind rs) (Cg.goodN (els ((selK (inRs rs) kq).map (·.1))) wd)) :=
                  HK3.out.step HP7.out HM7.out hr8 hg8 hto (fun x hx => HK3.out.plain x (Pa.selK_mem hx)) (by have := HK3.out.nx; omega) (by have := heard_bk s (selK (inRs rs) kq) (behF behind rs) now' HK3.out.bk.1; have := HK3.out.bk.2; omega) (fun x hx => HK3.out.ats x (Pa.selK_mem hx)) (by have := sel_tot (fun k => !inRs rs k) kq; have := HK3.out.tot; omega)
                obtain ⟨N7, hN7⟩ : ∃ x, (Pa.allF (selK (inRs rs) kq)).length = x := ⟨_, rfl⟩
                obtain ⟨N8, hN8⟩ : ∃ x, (Pa.allF (selK (inRs rs) kr)).length = x := ⟨_, rfl⟩
                rw [hN7, hN8] at HSF
                rw [hN7, hN8]
                clear ho8 hq8 hr8 hg8 htw hto hkept hn1 hN7 hN8 HK3 HP7 HM7 HO7 HRM HGD
                go_wp2_with fail
                refine (HSF.out _ (Below.refl _ _)).mono ?_
                rintro e w6 ⟨rfl, hb6⟩
                have H7 := Lib.hid (H6.out.keep hb6)
                clear hb6 HSF H6
                go_wp2_with fail
                go_meet
                case rel => exact ⟨rfl, _, _, _, _, _, _, H7.out⟩
        · have hb0 : (q8 == 0) = false := by simp [h0]
          by_cases h1 : q8 = 1
          · have hb1 : (q8 == 1) = true := by simp [h1]
            clear h0 h1
            as_aux_lemma =>
              have HRU := Lib.hid (fun W (hb : Below wq.heap.size wq W) => runs_any l5 A5 c5 next W ((HR5.out.below hb (Nat.le_refl _)).more hb.size) hl5 (by omega) (by have := HK1.out.nx; omega))
              have v5 : wq.cell? ⟨r, 5, none⟩ = some (.int .i64 (next : Int)) := by
                obtain ⟨cr, r1, r2, r3⟩ := HK1.out.ref.cur
                exact r2.cell.1
              go_wp2_with fail
              refine Rtt.still_tail 7 (by kernel_rfl) (by kernel_rfl) ?_
              intro wz hwz
              have cq5 : wz.cell? ⟨q, 5, none⟩ = some (.slice A5 l5.length c5) := by rw [hwz]; exact cq5
              have v5 : wz.cell? ⟨r, 5, none⟩ = some (.int .i64 (next : Int)) := by rw [hwz]; exact v5
              have HK2 : Hid (TellI w wz p r j (j + 1) now' s kq kr next behind wd) := by rw [hwz]; exact HK1.out.keep (Below.refl _ _).drew
              have HRU2 := Lib.hid (HRU.out wz (by rw [hwz]; exact (Below.refl _ _).drew))
              clear hwz HRU HK1 cq0 cq3 cq4
              simp only [List.take_succ_cons, List.take_zero, List.drop_succ_cons, List.drop_zero]
              iterate 7 still_step
              refine wpStill_nil ?_
              clear cq5 v5
              go_wp2_with fail
              refine HRU2.out.mono ?_
              rintro e w3 ⟨rs, A6, c6, rfl, hl6, ho6, hb6⟩
              have HK3 := Lib.hid (HK2.out.keep hb6)
              obtain ⟨_, _, e6, hc6, _, _, hr6⟩ := own_form ho6
              simp only [Value.slice.injEq, true_and] at e6
              obtain ⟨rfl, rfl⟩ := e6
              have HO6 := Lib.hid ho6
              have hnw := HK3.out.now
              have HHD := Lib.hid (Pa.heard_path HK3.out.path rs (by omega) _ _ hc6 hr6 now' ⟨by omega, by omega⟩ (fun x hx => by have := HK3.out.ats x hx; omega) (by have := HK3.out.nx; omega) (by have := HK3.out.tot; omega))
              have HC6 := Lib.hid hc6
              have HL6 := Lib.hid hl6
              have hnw1 : -2305843009213693952 ≤ now' ∧ now' ≤ 2305843009213693952 := ⟨by omega, by omega⟩
              have HNW := Lib.hid hnw1
              clear hb6 ho6 hr6 hc6 HRU2 HK2 hl6 hnw hnw1
              go_wp2_with fail
              refine HHD.out.mono ?_
              intro e w4 hor
              clear HHD
              rcases hor with ⟨hbad, rfl, hb4⟩ | ⟨hgood, A7, c7, rfl, ho7, hq7, hp7, hm7⟩
              · have HM4 : Hid (Moved w.heap.size p w3 w4) := Moved.of hb4 HK3.out.below.size
                have HK4 := Lib.hid (HK3.out.keep hb4)
                have HO4 := Lib.hid (own_below HO6.out hb4)
                obtain ⟨cu4, hc4⟩ := RPathIn.blk HK4.out.ref
                obtain ⟨_, _, e4, hc6, _, _, hr6⟩ := own_form HO4.out
                simp only [Value.slice.injEq, true_and] at e4
                obtain ⟨rfl, rfl⟩ := e4
                obtain ⟨hnx1, hkl1, hbn1, hnm1, hnm2, htt2, hat2⟩ := HK4.out.lens
                have hnx2 := HK4.out.nx
                have HRH := Lib.hid (Xr.rheard_path HK4.out.ref rs (by have := HL6.out; omega) _ _ hc6 hr6 (own_apart HO4.out hc4 (by decide)) now' HNW.out (fun x hx => by have := hat2 x hx; omega) (by omega) hbn1 (by omega) (fun x hx => by have := hnm2 x hx; omega) (by omega))
                have HBAD := Lib.hid hbad
                clear hb4 hbad hc6 hr6 hc4 hnx1 hkl1 hbn1 hnm1 hnm2 htt2 hat2 hnx2 HO4 HO6 HK3 HM4
                go_wp2_with fail
                refine HRH.out.mono ?_
                intro e w5 hor
                clear HRH
                rcases hor with ⟨_, rfl, hb5⟩ | ⟨hgood, _⟩
                · have H6 := Lib.hid (HK4.out.keep hb5).more
                  have HSF := Lib.hid (Sq.twins_same (w := w5) (lo := 0) (lo' := 0) [] [] trivial none none 0 0 0 rfl (Rd.nil _ _ _) (Rd.nil _ _ _) (Nat.le_refl _) (Nat.le_refl _) (by omega) (fun q hq => by cases hq) (fun q hq => by cases hq))
                  clear hb5 HK4 HBAD
                  go_wp2_with fail
                  refine HSF.out.mono ?_
                  rintro e w6 ⟨rfl, hb6⟩
                  have H7 := Lib.hid (H6.out.keep hb6)
                  clear hb6 HSF H6
                  go_wp2_with fail
                  go_meet
                  case rel => exact ⟨rfl, _, _, _, _, _, _, H7.out⟩
                · obtain ⟨x, hx, hxn⟩ := HBAD.out
                  have := hgood x hx
                  omega
              · have HRM := Lib.hid (HK3.out.mid hm7)
                have HO7 := Lib.hid (And.intro ho7 hq7)
                have HP7 := Lib.hid hp7
                have HM7 := Lib.hid hm7
                have HGD := Lib.hid hgood
                obtain ⟨cu3, hc3⟩ := PathIn.blk HK3.out.path
                have HO4 := Lib.hid (Pa.own_moved HO6.out hm7 hc3 (by decide) (by decide))
                obtain ⟨cu4, hc4⟩ := RPathIn.blk HRM.out
                obtain ⟨_, _, e4, hc6, _, _, hr6⟩ := own_form HO4.out
                simp only [Value.slice.injEq, true_and] at e4
                obtain ⟨rfl, rfl⟩ := e4
                obtain ⟨hnx1, hkl1, hbn1, hnm1, hnm2, htt2, hat2⟩ := HK3.out.lens
                have hnx2 := HK3.out.nx
                have HRH := Lib.hid (Xr.rheard_path HRM.out rs (by have := HL6.out; omega) _ _ hc6 hr6 (own_apart HO4.out hc4 (by decide)) now' HNW.out (fun x hx => by have := hat2 x hx; omega) (by omega) hbn1 (by omega) (fun x hx => by have := hnm2 x hx; omega) (by omega))
                clear ho7 hq7 hp7 hm7 hgood hc6 hr6 hc4 hc3 hnx1 hkl1 hbn1 hnm1 hnm2 htt2 hat2 hnx2 HO4 HO6
                go_wp2_with fail
                refine HRH.out.mono ?_
                intro e w5 hor
                clear HRH
                rcases hor with ⟨hbad, _⟩ | ⟨_, A8, c8, rfl, ho8, hq8, hr8, hg8⟩
                · obtain ⟨x, hx, hxn⟩ := hbad
                  have := HGD.out x hx
                  omega
                · have htw := HK3.out.twin.sel (inRs rs) (inRs_own rs)
                  have hto := HK3.out.twin.sel (fun k => !inRs rs k) (fun k k' h1 h2 => by rw [inRs_own rs k k' h1 h2])
                  have hkept := HK3.out.kept HM7.out hg8 HO7.out.1 HO7.out.2
                  have hn1 : (Pa.allF (selK (inRs rs) kq)).length ≤ 1099511627776 := by have := sel_tot (inRs rs) kq; have := HK3.out.tot; omega
                  have HSF := Lib.hid (TellI.frames htw (fun x hx => HK3.out.plain x (Pa.selK_mem hx)) hn1 hkept.1 ho8 hkept.2 hq8)
                  rw [htw.heard s (behF behind rs) now', htw.elsE] at hr8
                  have H6 : Hid (TellI w w5 p r (j + 1) (j + 1) now' (heardS s (selK (inRs rs) kq) (behF behind rs) now') (selK (fun k => !inRs rs k) kq) (selK (fun k => !inRs rs k) kr) next (behF behind rs) (Cg.goodN (els ((selK (inRs rs) kq).map (·.1))) wd)) :=
                    HK3.out.step HP7.out HM7.out hr8 hg8 hto (fun x hx => HK3.out.plain x (Pa.selK_mem hx)) (by have := HK3.out.nx; omega) (by have := heard_bk s (selK (inRs rs) kq) (behF behind rs) now' HK3.out.bk.1; have := HK3.out.bk.2; omega) (fun x hx => HK3.out.ats x (Pa.selK_mem hx)) (by have := sel_tot (fun k => !inRs rs k) kq; have := HK3.out.tot; omega)
                  obtain ⟨N7, hN7⟩ : ∃ x, (Pa.allF (selK (inRs rs) kq)).length = x := ⟨_, rfl⟩
                  obtain ⟨N8, hN8⟩ : ∃ x, (Pa.allF (selK (inRs rs) kr)).length = x := ⟨_, rfl⟩
                  rw [hN7, hN8] at HSF
                  rw [hN7, hN8]
                  clear ho8 hq8 hr8 hg8 htw hto hkept hn1 hN7 hN8 HK3 HP7 HM7 HO7 HRM HGD
                  go_wp2_with fail
                  refine (HSF.out _ (Below.refl _ _)).mono ?_
                  rintro e w6 ⟨rfl, hb6⟩
                  have H7 := Lib.hid (H6.out.keep hb6)
                  clear hb6 HSF H6
                  go_wp2_with fail
                  go_meet
                  case rel => exact ⟨rfl, _, _, _, _, _, _, H7.out⟩
          · have hb1 : (q8 == 1) = false := by simp [h1]
            by_cases h2 : q8 = 2
            · have hb2 : (q8 == 2) = true := by simp [h2]
              clear h0 h1 h2
              as_aux_lemma =>
                have HRU := Lib.hid (fun W (hb : Below wq.heap.size wq W) => runs_any l5 A5 c5 next W ((HR5.out.below hb (Nat.le_refl _)).more hb.size) hl5 (by omega) (by have := HK1.out.nx; omega))
                have v5 : wq.cell? ⟨r, 5, none⟩ = some (.int .i64 (next : Int)) := by
                  obtain ⟨cr, r1, r2, r3⟩ := HK1.out.ref.cur
                  exact r2.cell.1
                go_wp2_with fail
                refine Rtt.still_tail 7 (by kernel_rfl) (by kernel_rfl) ?_
                intro wz hwz
                have cq5 : wz.cell? ⟨q, 5, none⟩ = some (.slice A5 l5.length c5) := by rw [hwz]; exact cq5
                have v5 : wz.cell? ⟨r, 5, none⟩ = some (.int .i64 (next : Int)) := by rw [hwz]; exact v5
                have HK2 : Hid (TellI w wz p r j (j + 1) now' s kq kr next behind wd) := by rw [hwz]; exact HK1.out.keep (Below.refl _ _).drew
                have HRU2 := Lib.hid (HRU.out wz (by rw [hwz]; exact (Below.refl _ _).drew))
                clear hwz HRU HK1 cq0 cq3 cq4
                simp only [List.take_succ_cons, List.take_zero, List.drop_succ_cons, List.drop_zero]
                iterate 7 still_step
                refine wpStill_nil ?_
                clear cq5 v5
                go_wp2_with fail
                refine HRU2.out.mono ?_
                rintro e w3 ⟨rs, A6, c6, rfl, hl6, ho6, hb6⟩
                have HK3 := Lib.hid (HK2.out.keep hb6)
                obtain ⟨_, _, e6, hc6, _, _, hr6⟩ := own_form ho6
                simp only [Value.slice.injEq, true_and] at e6
                obtain ⟨rfl, rfl⟩ := e6
                have HO6 := Lib.hid ho6
                have hnw := HK3.out.now
                have HHD := Lib.hid (Pa.heard_path HK3.out.path rs (by omega) _ _ hc6 hr6 now' ⟨by omega, by omega⟩ (fun x hx => by have := HK3.out.ats x hx; omega) (by have := HK3.out.nx; omega) (by have := HK3.out.tot; omega))
                have HC6 := Lib.hid hc6
                have HL6 := Lib.hid hl6
                have hnw1 : -2305843009213693952 ≤ now' ∧ now' ≤ 2305843009213693952 := ⟨by omega, by omega⟩
                have HNW := Lib.hid hnw1
                clear hb6 ho6 hr6 hc6 HRU2 HK2 hl6 hnw hnw1
                go_wp2_with fail
                refine HHD.out.mono ?_
                intro e w4 hor
                clear HHD
                rcases hor with ⟨hbad, rfl, hb4⟩ | ⟨hgood, A7, c7, rfl, ho7, hq7, hp7, hm7⟩
                · have HM4 : Hid (Moved w.heap.size p w3 w4) := Moved.of hb4 HK3.out.below.size
                  have HK4 := Lib.hid (HK3.out.keep hb4)
                  have HO4 := Lib.hid (own_below HO6.out hb4)
                  obtain ⟨cu4, hc4⟩ := RPathIn.blk HK4.out.ref
                  obtain ⟨_, _, e4, hc6, _, _, hr6⟩ := own_form HO4.out
                  simp only [Value.slice.injEq, true_and] at e4
                  obtain ⟨rfl, rfl⟩ := e4
                  obtain ⟨hnx1, hkl1, hbn1, hnm1, hnm2, htt2, hat2⟩ := HK4.out.lens
                  have hnx2 := HK4.out.nx
                  have HRH := Lib.hid (Xr.rheard_path HK4.out.ref rs (by have := HL6.out; omega) _ _ hc6 hr6 (own_apart HO4.out hc4 (by decide)) now' HNW.out (fun x hx => by have := hat2 x hx; omega) (by omega) hbn1 (by omega) (fun x hx => by have := hnm2 x hx; omega) (by omega))
                  have HBAD := Lib.hid hbad
                  clear hb4 hbad hc6 hr6 hc4 hnx1 hkl1 hbn1 hnm1 hnm2 htt2 hat2 hnx2 HO4 HO6 HK3 HM4
                  go_wp2_with fail
                  refine HRH.out.mono ?_
                  intro e w5 hor
                  clear HRH
                  rcases hor with ⟨_, rfl, hb5⟩ | ⟨hgood, _⟩
                  · have H6 := Lib.hid (HK4.out.keep hb5).more
                    have HSF := Lib.hid (Sq.twins_same (w := w5) (lo := 0) (lo' := 0) [] [] trivial none none 0 0 0 rfl (Rd.nil _ _ _) (Rd.nil _ _ _) (Nat.le_refl _) (Nat.le_refl _) (by omega) (fun q hq => by cases hq) (fun q hq => by cases hq))
                    clear hb5 HK4 HBAD
                    go_wp2_with fail
                    refine HSF.out.mono ?_
                    rintro e w6 ⟨rfl, hb6⟩
                    have H7 := Lib.hid (H6.out.keep hb6)
                    clear hb6 HSF H6
                    go_wp2_with fail
                    go_meet
                    case rel => exact ⟨rfl, _, _, _, _, _, _, H7.out⟩
                  · obtain ⟨x, hx, hxn⟩ := HBAD.out
                    have := hgood x hx
                    omega
                · have HRM := Lib.hid (HK3.out.mid hm7)
                  have HO7 := Lib.hid (And.intro ho7 hq7)
                  have HP7 := Lib.hid hp7
                  have HM7 := Lib.hid hm7
                  have HGD := Lib.hid hgood
                  obtain ⟨cu3, hc3⟩ := PathIn.blk HK3.out.path
                  have HO4 := Lib.hid (Pa.own_moved HO6.out hm7 hc3 (by decide) (by decide))
                  obtain ⟨cu4, hc4⟩ := RPathIn.blk HRM.out
                  obtain ⟨_, _, e4, hc6, _, _, hr6⟩ := own_form HO4.out
                  simp only [Value.slice.injEq, true_and] at e4
                  obtain ⟨rfl, rfl⟩ := e4
                  obtain ⟨hnx1, hkl1, hbn1, hnm1, hnm2, htt2, hat2⟩ := HK3.out.lens
                  have hnx2 := HK3.out.nx
                  have HRH := Lib.hid (Xr.rheard_path HRM.out rs (by have := HL6.out; omega) _ _ hc6 hr6 (own_apart HO4.out hc4 (by decide)) now' HNW.out (fun x hx => by have := hat2 x hx; omega) (by omega) hbn1 (by omega) (fun x hx => by have := hnm2 x hx; omega) (by omega))
                  clear ho7 hq7 hp7 hm7 hgood hc6 hr6 hc4 hc3 hnx1 hkl1 hbn1 hnm1 hnm2 htt2 hat2 hnx2 HO4 HO6
                  go_wp2_with fail
                  refine HRH.out.mono ?_
                  intro e w5 hor
                  clear HRH
                  rcases hor with ⟨hbad, _⟩ | ⟨_, A8, c8, rfl, ho8, hq8, hr8, hg8⟩
                  · obtain ⟨x, hx, hxn⟩ := hbad
                    have := HGD.out x hx
                    omega
                  · have htw := HK3.out.twin.sel (inRs rs) (inRs_own rs)
                    have hto := HK3.out.twin.sel (fun k => !inRs rs k) (fun k k' h1 h2 => by rw [inRs_own rs k k' h1 h2])
                    have hkept := HK3.out.kept HM7.out hg8 HO7.out.1 HO7.out.2
                    have hn1 : (Pa.allF (selK (inRs rs) kq)).length ≤ 1099511627776 := by have := sel_tot (inRs rs) kq; have := HK3.out.tot; omega
                    have HSF := Lib.hid (TellI.frames htw (fun x hx => HK3.out.plain x (Pa.selK_mem hx)) hn1 hkept.1 ho8 hkept.2 hq8)
                    rw [htw.heard s (behF behind rs) now', htw.elsE] at hr8
                    have H6 : Hid (TellI w w5 p r (j + 1) (j + 1) now' (heardS s (selK (inRs rs) kq) (behF behind rs) now') (selK (fun k => !inRs rs k) kq) (selK (fun k => !inRs rs k) kr) next (behF behind rs) (Cg.goodN (els ((selK (inRs rs) kq).map (·.1))) wd)) :=
                      HK3.out.step HP7.out HM7.out hr8 hg8 hto (fun x hx => HK3.out.plain x (Pa.selK_mem hx)) (by have := HK3.out.nx; omega) (by have := heard_bk s (selK (inRs rs) kq) (behF behind rs) now' HK3.out.bk.1; have := HK3.out.bk.2; omega) (fun x hx => HK3.out.ats x (Pa.selK_mem hx)) (by have := sel_tot (fun k => !inRs rs k) kq; have := HK3.out.tot; omega)
                    obtain ⟨N7, hN7⟩ : ∃ x, (Pa.allF (selK (inRs rs) kq)).length = x := ⟨_, rfl⟩
                    obtain ⟨N8, hN8⟩ : ∃ x, (Pa.allF (selK (inRs rs) kr)).length = x := ⟨_, rfl⟩
                    rw [hN7, hN8] at HSF
                    rw [hN7, hN8]
                    clear ho8 hq8 hr8 hg8 htw hto hkept hn1 hN7 hN8 HK3 HP7 HM7 HO7 HRM HGD
                    go_wp2_with fail
                    refine (HSF.out _ (Below.refl _ _)).mono ?_
                    rintro e w6 ⟨rfl, hb6⟩
                    have H7 := Lib.hid (H6.out.keep hb6)
                    clear hb6 HSF H6
                    go_wp2_with fail
                    go_meet
                    case rel => exact ⟨rfl, _, _, _, _, _, _, H7.out⟩
            · have hb2 : (q8 == 2) = false := by simp [h2]
              by_cases h3 : q8 = 3
              · have hb3 : (q8 == 3) = true := by simp [h3]
                clear h0 h1 h2 h3
                as_aux_lemma =>
                  obtain ⟨hnx1, hkl1, hbn1, hnm1, hnm2, htt2, hat2⟩ := HK1.out.lens
                  have hnx2 := HK1.out.nx
                  have hnw := HK1.out.now
                  have HLA := Lib.hid (Pa.late_path HK1.out.path now' ⟨by omega, by omega⟩ (by omega) (by have := HK1.out.tot; omega))
                  have hnw1 : -2305843009213693952 ≤ now' ∧ now' ≤ 2305843009213693952 := ⟨by omega, by omega⟩
                  have HNW := Lib.hid hnw1
                  have HLE := Lib.hid (And.intro hnx1 (And.intro hkl1 (And.intro hbn1 (And.intro hnm2 htt2))))
                  clear hnx1 hkl1 hbn1 hnm1 hnm2 htt2 hat2 hnx2 hnw hnw1 cq0 cq3 cq4 cq5
                  go_wp2_with fail
                  refine HLA.out.mono ?_
                  rintro e w4 ⟨A7, c7, rfl, ho7, hq7, hp7, hm7⟩
                  have HRM := Lib.hid (HK1.out.mid hm7)
                  have HO7 := Lib.hid (And.intro ho7 hq7)
                  have HP7 := Lib.hid hp7
                  have HM7 := Lib.hid hm7
                  have hnx2 := HK1.out.nx
                  obtain ⟨hnx1, hkl1, hbn1, hnm2, htt2⟩ := HLE.out
                  have HRH := Lib.hid (Xr.rlate_path HRM.out now' ⟨by have := HNW.out; omega, by have := HNW.out; omega⟩ (by omega) (by omega) (fun x hx => by have := hnm2 x hx; omega) (by omega))
                  clear ho7 hq7 hp7 hm7 hnx1 hkl1 hbn1 hnm2 htt2 hnx2 HLA HLE HNW
                  go_wp2_with fail
                  refine HRH.out.mono ?_
                  rintro e w5 ⟨A8, c8, rfl, ho8, hq8, hr8, hg8⟩
                  clear HRH
                  have htw := HK1.out.twin.sel (lateS behind now' s) (late_own behind now' s)
                  have hto := HK1.out.twin.sel (fun k => !lateS behind now' s k) (fun k k' h1 h2 => by rw [late_own behind now' s k k' h1 h2])
                  have hkept := HK1.out.kept HM7.out hg8 HO7.out.1 HO7.out.2
                  have hn1 : (Pa.allF (selK (lateS behind now' s) kq)).length ≤ 1099511627776 := by have := sel_tot (lateS behind now' s) kq; have := HK1.out.tot; omega
                  have HSF := Lib.hid (TellI.frames htw (fun x hx => HK1.out.plain x (Pa.selK_mem hx)) hn1 hkept.1 ho8 hkept.2 hq8)
                  rw [htw.bad wd next] at hr8
                  have H6 : Hid (TellI w w5 p r (j + 1) (j + 1) now' s (selK (fun k => !lateS behind now' s k) kq) (selK (fun k => !lateS behind now' s k) kr) next behind (badL wd (selK (lateS behind now' s) kq) next)) :=
                    HK1.out.step HP7.out HM7.out hr8 hg8 hto (fun x hx => HK1.out.plain x (Pa.selK_mem hx)) (by have := HK1.out.nx; omega) (by have := HK1.out.bk; omega) (fun x hx => HK1.out.ats x (Pa.selK_mem hx)) (by have := sel_tot (fun k => !lateS behind now' s k) kq; have := HK1.out.tot; omega)
                  obtain ⟨N7, hN7⟩ : ∃ x, (Pa.allF (selK (lateS behind now' s) kq)).length = x := ⟨_, rfl⟩
                  obtain ⟨N8, hN8⟩ : ∃ x, (Pa.allF (selK (lateS behind now' s) kr)).length = x := ⟨_, rfl⟩
                  rw [hN7, hN8] at HSF
                  rw [hN7, hN8]
                  clear ho8 hq8 hr8 hg8 htw hto hkept hn1 hN7 hN8 HK1 HP7 HM7 HO7 HRM
                  go_wp2_with fail
                  refine (HSF.out _ (Below.refl _ _)).mono ?_
                  rintro e w6 ⟨rfl, hb6⟩
                  have H7 := Lib.hid (H6.out.keep hb6)
                  clear hb6 HSF H6
                  go_wp2_with fail
                  go_meet
                  case rel => exact ⟨rfl, _, _, _, _, _, _, H7.out⟩
              · have hb3 : (q8 == 3) = false := by simp [h3]
                by_cases h4 : q8 = 4
                · have hb4 : (q8 == 4) = true := by simp [h4]
                  clear h0 h1 h2 h3 h4
                  as_aux_lemma =>
                    obtain ⟨hnx1, hkl1, hbn1, hnm1, hnm2, htt2, hat2⟩ := HK1.out.lens
                    have hnx2 := HK1.out.nx
                    have hnw := HK1.out.now
                    have hbk := HK1.out.bk
                    have HPB := Lib.hid (Pa.probe_path HK1.out.path now' ⟨by omega, by omega⟩ (fun x hx => by have := HK1.out.ats x hx; omega) ⟨hbk.1, by omega⟩ (by omega) (by have := HK1.out.tot; omega))
                    have hnw1 : -2305843009213693952 ≤ now' ∧ now' ≤ 2305843009213693952 := ⟨by omega, by omega⟩
                    have HNW := Lib.hid hnw1
                    have HLE := Lib.hid (And.intro hnx1 (And.intro hkl1 (And.intro htt2 hbk)))
                    clear hnx1 hkl1 hbn1 hnm1 hnm2 htt2 hat2 hnx2 hnw hnw1 hbk cq0 cq3 cq4 cq5
                    go_wp2_with fail
                    refine HPB.out.mono ?_
                    intro e w4 hor
                    clear HPB
                    rcases hor with ⟨hpr, rfl, q4, hw4⟩ | ⟨hpr, A7, c7, rfl, ho7, hq7, hp7, hm7⟩
                    · have HK4 : Hid (TellI w w4 p r j (j + 1) now' s kq kr next behind wd) := by rw [hw4]; exact HK1.out.keep (Below.drewN' _ _ _)
                      obtain ⟨hnx1, hkl1, htt2, hbk⟩ := HLE.out
                      have hnx2 := HK4.out.nx
                      have HRP := Lib.hid (Xr.rprobe_path HK4.out.ref now' ⟨by have := HNW.out; omega, by have := HNW.out; omega⟩ ⟨hbk.1, by omega⟩ (by omega) (by omega))
                      have HPR := Lib.hid hpr
                      clear hnx1 hkl1 htt2 hbk hnx2 hw4 hpr HK1 HLE
                      go_wp2_with fail
                      refine HRP.out.mono ?_
                      intro e w5 hor
                      clear HRP
                      rcases hor with ⟨_, rfl, q5, hw5⟩ | ⟨hpr2, _⟩
                      · have H6 : Hid (TellI w w5 p r (j + 1) (j + 1) now' s kq kr next behind wd) := by rw [hw5]; exact (HK4.out.keep (Below.drewN' _ _ _)).more
                        have HSF := Lib.hid (Sq.twins_same (w := w5) (lo := 0) (lo' := 0) [] [] trivial none none 0 0 0 rfl (Rd.nil _ _ _) (Rd.nil _ _ _) (Nat.le_refl _) (Nat.le_refl _) (by omega) (fun q hq => by cases hq) (fun q hq => by cases hq))
                        clear hw5 HK4
                        go_wp2_with fail
                        refine HSF.out.mono ?_
                        rintro e w6 ⟨rfl, hb6⟩
                        have H7 := Lib.hid (H6.out.keep hb6)
                        clear hb6 HSF H6
                        go_wp2_with fail
                        go_meet
                        case rel => exact ⟨rfl, _, _, _, _, _, _, H7.out⟩
                      · rw [HK4.out.twin.probe s now', HPR.out] at hpr2
                        cases hpr2
                    · have HRM := Lib.hid (HK1.out.mid hm7)
                      have HO7 := Lib.hid (And.intro ho7 hq7)
                      have HP7 := Lib.hid hp7
                      have HM7 := Lib.hid hm7
                      have HPR := Lib.hid hpr
                      obtain ⟨hnx1, hkl1, htt2, hbk⟩ := HLE.out
                      have hnx2 := HK1.out.nx
                      have HRP := Lib.hid (Xr.rprobe_path HRM.out now' ⟨by have := HNW.out; omega, by have := HNW.out; omega⟩ ⟨hbk.1, by omega⟩ (by omega) (by omega))
                      clear ho7 hq7 hp7 hm7 hpr hnx1 hkl1 htt2 hbk hnx2 HLE
                      go_wp2_with fail
                      refine HRP.out.mono ?_
                      intro e w5 hor
                      clear HRP
                      rcases hor with ⟨hpr2, _⟩ | ⟨_, A8, c8, rfl, ho8, hq8, hr8, hg8⟩
                      · rw [HK1.out.twin.probe s now', HPR.out] at hpr2
                        cases hpr2
                      · have hkept := HK1.out.kept HM7.out hg8 HO7.out.1 HO7.out.2
                        have hn1 : (Pa.allF kq).length ≤ 1099511627776 := by have := HK1.out.tot; have := HK1.out.nx; omega
                        have HSF := Lib.hid (TellI.frames HK1.out.twin HK1.out.plain hn1 hkept.1 ho8 hkept.2 hq8)
                        have H6 : Hid (TellI w w5 p r (j + 1) (j + 1) now' (Rtt.back s (s.bk + 1)) [] [] next behind wd) :=
                          HK1.out.step HP7.out HM7.out hr8 hg8 trivial (fun x hx => by cases hx) (by have := HK1.out.nx; omega) (by have := HK1.out.bk; show 0 ≤ s.bk + 1 ∧ s.bk + 1 ≤ _; omega) (fun x hx => by cases hx) (Nat.zero_le _)
                        obtain ⟨N7, hN7⟩ : ∃ x, (Pa.allF kq).length = x := ⟨_, rfl⟩
                        obtain ⟨N8, hN8⟩ : ∃ x, (Pa.allF kr).length = x := ⟨_, rfl⟩
                        rw [hN7, hN8] at HSF
                        rw [hN7, hN8]
                        clear ho8 hq8 hr8 hg8 hkept hn1 hN7 hN8 HK1 HP7 HM7 HO7 HRM HPR
                        go_wp2_with fail
                        refine (HSF.out _ (Below.refl _ _)).mono ?_
                        rintro e w6 ⟨rfl, hb6⟩
                        have H7 := Lib.hid (H6.out.keep hb6)
                        clear hb6 HSF H6
                        go_wp2_with fail
                        go_meet
                        case rel => exact ⟨rfl, _, _, _, _, _, _, H7.out⟩
                · have hb4 : (q8 == 4) = false := by simp [h4]
                  clear h0 h1 h2 h3 h4
                  as_aux_lemma =>
                    have HRI := Lib.hid (right_fqs 3 (by omega) f4 A4 n4 c4 wq HR4.out)
                    go_wp2_with fail
                    refine HRI.out.mono ?_
                    rintro e w3 ⟨A6, n6, c6, qs, rfl, hl6, hn6, ho6, hq6, hb6⟩
                    have HK3 := Lib.hid (HK1.out.keep hb6)
                    obtain ⟨_, _, e6, hc6, _, _, hr6⟩ := own_form ho6
                    simp only [Value.slice.injEq, true_and] at e6
                    obtain ⟨rfl, rfl⟩ := e6
                    obtain ⟨hnx1, hkl1, hbn1, hnm1, hnm2, htt2, hat2⟩ := HK3.out.lens
                    have hnx2 := HK3.out.nx
                    have hnw := HK3.out.now
                    have HSD := Lib.hid (Pa.send_path HK3.out.path now' ⟨by omega, by omega⟩ _ n6 _ qs hl6 hr6 (fun q hq => (hq6 q hq).2.2) (by omega) hc6 (by omega))
                    have HO6 := Lib.hid (And.intro ho6 (And.intro hl6 (And.intro hn6 (And.intro hc6 hq6))))
                    have HLE := Lib.hid (And.intro hnx1 (And.intro hkl1 hnw))
                    clear hnx1 hkl1 hbn1 hnm1 hnm2 htt2 hat2 hnx2 hnw ho6 hl6 hn6 hc6 hq6 hr6 hb6 HRI HK1 cq0 cq3 cq4 cq5
                    go_wp2_with fail
                    refine HSD.out.mono ?_
                    rintro e w4 ⟨rfl, hs4⟩
                    clear HSD
                    have hm4 : Moved w.heap.size p w3 w4 := by
                      obtain ⟨_, _, _, _, _, _, _, _, h⟩ := hs4
                      exact h
                    obtain ⟨cu3, hc3⟩ := PathIn.blk HK3.out.path
                    obtain ⟨ho6, hl6, hn6, hc6, hq6⟩ := HO6.out
                    have HRM := Lib.hid (HK3.out.mid hm4)
                    have ho4 := Pa.own_moved ho6 hm4 hc3 (by decide) (by decide)
                    have hq4 : ∀ q ∈ qs, FqOwn w4 0 q := fun q hq => ⟨Pa.own_moved (hq6 q hq).1.1 hm4 hc3 (by decide) (by decide), Pa.own_moved (hq6 q hq).1.2 hm4 hc3 (by decide) (by decide)⟩
                    obtain ⟨_, _, e4, _, _, _, hr4⟩ := own_form ho4
                    simp only [Value.slice.injEq, true_and] at e4
                    obtain ⟨rfl, rfl⟩ := e4
                    obtain ⟨hnx1, hkl1, hnw⟩ := HLE.out
                    have hnx2 := HK3.out.nx
                    have HRS := Lib.hid (Xr.rsend_path HRM.out now' ⟨by omega, by omega⟩ _ n6 _ qs hl6 hr4 hq4 (by omega) hc6 (by omega) (by omega))
                    have HS4 := Lib.hid hs4
                    clear hs4 hm4 hc3 ho6 hl6 hn6 hc6 hq6 ho4 hq4 hr4 hnx1 hkl1 hnw hnx2 HLE
                    go_wp2_with fail
                    refine HRS.out.mono ?_
                    rintro e w5 ⟨rfl, hs5⟩
                    clear HRS
                    obtain ⟨kq', kr', h7⟩ := HK3.out.sent HS4.out hs5 (by rw [HO6.out.2.1]; exact HO6.out.2.2.1) (fun q hq => (HO6.out.2.2.2.2 q hq).2.1)
                    have H7 := Lib.hid h7
                    clear h7 hs5 HS4 HO6 HRM HK3
                    go_wp2_with fail
                    go_meet
                    case rel => exact ⟨rfl, _, _, _, _, _, _, H7.out⟩
      case rest =>
        obtain ⟨rfl, hrest⟩ := hcut
        clear HK1 HR4 HR5 cq0 cq3 cq4 cq5
        as_aux_lemma =>
          obtain ⟨s', kq', kr', next', behind', wd', HZ⟩ : ∃ s' kq' kr' next' behind' wd', Hid (TellI w wc p r (j + 1) (j + 1) now' s' kq' kr' next' behind' wd') := hrest
          obtain ⟨hnx1, hkl1, hbn1, _⟩ := HZ.out.lens
          have hj2 := HZ.out.nx
          have hnx2 := hkl1
          obtain ⟨cp, q1, q2, q3⟩ := HZ.out.path.cur
          obtain ⟨cr, r1, r2, r3⟩ := HZ.out.ref.cur
          have HFL : Hid (∀ m, Calls Tryz.prog 21 #[.pointer (some ⟨p, 4, none⟩)] (wc.drewN m) fun e w' => e = .returned (.int .i64 (els (kq'.map (·.1)) : Int)) ∧ w' = wc.drewN m) := fun m => flight_led (q2.keep ⟨rfl, rfl, rfl, Nat.le_refl _, fun _ _ => rfl⟩)
          have HRF : Hid (∀ m, Calls Tryz.prog 22 #[.pointer (some ⟨r, 4, none⟩)] (wc.drewN m) fun e w' => e = .returned (.int .i64 (els (kq'.map (·.1)) : Int)) ∧ w' = wc.drewN m) := fun m => by
            rw [← HZ.out.twin.elsE]
            exact Xr.rflight_any (r2.keep ⟨rfl, rfl, rfl, Nat.le_refl _, fun _ _ => rfl⟩) (by rw [List.length_map]; omega)
          have HOP : Hid (∀ m, Calls Tryz.prog 19 #[.pointer (some ⟨p, 0, none⟩)] (wc.drewN m) fun e w' => e = .returned (.bool (decide ((els (kq'.map (·.1)) : Int) < wd'.size))) ∧ ∃ q, w' = (wc.drewN m).drewN q) := fun m => Pa.open_path (HZ.out.path.keep ⟨rfl, rfl, rfl, Nat.le_refl _, fun _ _ => rfl⟩)
          have HRO : Hid (∀ m, Calls Tryz.prog 20 #[.pointer (some ⟨r, 0, none⟩)] (wc.drewN m) fun e w' => e = .returned (.bool (decide ((els (kq'.map (·.1)) : Int) < wd'.size))) ∧ ∃ q, w' = (wc.drewN m).drewN q) := fun m => by
            rw [← HZ.out.twin.elsE]
            exact Xr.ropen_path (HZ.out.ref.keep ⟨rfl, rfl, rfl, Nat.le_refl _, fun _ _ => rfl⟩) (by omega)
          have HNE : Hid (∀ m, Calls Tryz.prog 23 #[.pointer (some ⟨p, 4, none⟩)] (wc.drewN m) fun e w' => e = .returned (.int .i64 (next' : Int)) ∧ w' = wc.drewN m) := fun m => next_led (q2.keep ⟨rfl, rfl, rfl, Nat.le_refl _, fun _ _ => rfl⟩)
          have HAK : Hid (∀ m, Calls Tryz.prog 24 #[.pointer (some ⟨p, 4, none⟩)] (wc.drewN m) fun e w' => e = .returned (.int .i64 ((behind' : Int) - 1)) ∧ w' = wc.drewN m) := fun m => acked_led (q2.keep ⟨rfl, rfl, rfl, Nat.le_refl _, fun _ _ => rfl⟩) (by omega)
          have HWT : Hid (∀ m, Calls Tryz.prog 25 #[.pointer (some ⟨p, 0, none⟩)] (wc.drewN m) fun e w' => e = .returned (.int .i64 (Rtt.waitF s')) ∧ w' = wc.drewN m) := fun m => Rtt.wait_any s' HZ.out.path.good p 0 _ cp (wc.drewN m) ⟨q1.1, q1.2⟩
          have HRW : Hid (∀ m, Calls Tryz.prog 26 #[.pointer (some ⟨r, 0, none⟩)] (wc.drewN m) fun e w' => e = .returned (.int .i64 (Rtt.waitF s')) ∧ ∃ q, w' = (wc.drewN m).drewN q) := fun m => Rtt.rwait_any s' HZ.out.path.good r 0 _ cr (wc.drewN m) ⟨r1.1, r1.2⟩
          obtain ⟨u0, u1, u2, u3, _⟩ := q1.cells
          obtain ⟨v0, v1, v2, v3, _⟩ := r1.cells
          have u8 := q3.cell.1
          have u11 := q3.cell.2.2.2
          have v7 := r3.cell.1
          have v10 := r3.cell.2.2.2
          have v5 := r2.cell.1
          have v6 := r2.cell.2.1
          simp only [Nat.zero_add] at u0 u1 u2 u3 v0 v1 v2 v3
          obtain ⟨ob, hob⟩ : ∃ x, decide ((els (kq'.map (·.1)) : Int) < wd'.size) = x := ⟨_, rfl⟩
          obtain ⟨E, hE⟩ : ∃ x, (els (kq'.map (·.1)) : Int) = x := ⟨_, rfl⟩
          obtain ⟨wt, hwt⟩ : ∃ x, Rtt.waitF s' = x := ⟨_, rfl⟩
          obtain ⟨sz, hsz⟩ : ∃ x, wd'.size = x := ⟨_, rfl⟩
          obtain ⟨tl, htl⟩ : ∃ x, wd'.till = x := ⟨_, rfl⟩
          obtain ⟨sm, hsm⟩ : ∃ x, s'.sm = x := ⟨_, rfl⟩
          obtain ⟨va, hva⟩ : ∃ x, s'.va = x := ⟨_, rfl⟩
          obtain ⟨bk, hbk⟩ : ∃ x, s'.bk = x := ⟨_, rfl⟩
          obtain ⟨so, hso⟩ : ∃ x, s'.so = x := ⟨_, rfl⟩
          obtain ⟨nx, hnx⟩ : ∃ x, (next' : Int) = x := ⟨_, rfl⟩
          obtain ⟨bh, hbh⟩ : ∃ x, (behind' : Int) = x := ⟨_, rfl⟩
          obtain ⟨ak, hak⟩ : ∃ x, bh - 1 = x := ⟨_, rfl⟩
          have hwa : IntKind.i64.wrap (bh - 1) = ak := (IntWalk.i64_in _ (by omega)).trans hak
          rw [hob] at HOP HRO
          rw [hE] at HFL HRF
          rw [hwt] at HWT HRW
          rw [hsz] at u8 v7
          rw [htl] at u11 v10
          rw [hsm] at u0 v0
          rw [hva] at u1 v1
          rw [hbk] at u2 v2
          rw [hso] at u3 v3
          rw [hnx] at HNE v5
          rw [hbh, hak] at HAK
          rw [hbh] at v6
          have HNX : Hid (∀ m, TellI w (wc.drewN m) p r (j + 1) (j + 1) now' s' kq' kr' next' behind' wd') := fun m => HZ.out.keep ⟨rfl, rfl, rfl, Nat.le_refl _, fun _ _ => rfl⟩
          clear hob hE hwt hsz htl hsm hva hbk hso hnx hak hbh q1 q2 q3 r1 r2 r3 HZ hnx1 hkl1 hbn1 hj2 hnx2
          go_wp2_with fail
          refine wp_region_quiet_lit (by kernel_rfl) ?_ ?_
          · as_aux_lemma =>
              exact Lx.lexB_of _ _ tab30 (by kernel_rfl) (by kernel_rfl)
          simp only [List.append_eq, List.cons_append, List.nil_append]
          repeat (go_big_quiet_step ((first | (go_at_call 21; exact Calls.quiet_of_same (HFL.out _)) | (go_at_call 22; exact Calls.quiet_of_same (HRF.out _)) | (go_at_call 19; exact Calls.quiet_of (HOP.out _)) | (go_at_call 20; exact Calls.quiet_of (HRO.out _)) | (go_at_call 23; exact Calls.quiet_of_same (HNE.out _)) | (go_at_call 24; exact Calls.quiet_of_same (HAK.out _)) | (go_at_call 25; exact Calls.quiet_of_same (HWT.out _)) | (go_at_call 26; exact Calls.quiet_of (HRW.out _)))))
          refine wpQuiet_nil ?_
          intro _ hw'
          obtain ⟨nq, hw''⟩ := hw'
          subst hw''
          clear HFL HRF HOP HRO HNE HAK HWT HRW u0 u1 u2 u3 v0 v1 v2 v3 u8 u11 v7 v10 v5 v6 hwa
          go_wp2_with fail
          go_roundw
          case rel => exact ⟨j + 1, now', s', kq', kr', next', behind', wd', rfl, by go_num, by omega, HNX.out _⟩
          case measure => simp [intOf]; omega
    · obtain rfl : j = n := by omega
      have hltI : ¬ (j : Int) < (j : Int) := by omega
      have HB := Lib.hid HK.out.below
      clear HK
      go_wp2_with fail
      go_ret
      exact ⟨rfl, HB.out⟩
end Go.Proofs.YtebfjphmlggacaaGreat.Pt
