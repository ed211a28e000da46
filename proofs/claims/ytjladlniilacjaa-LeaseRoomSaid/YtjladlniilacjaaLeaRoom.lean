/-
  The walk of the law LeaseRoom.
-/
import Derived.Test.YtjladlniilacjaaLeaWorks
import Derived.Test.YtjladlniilacjaaLeaSame
import Derived.Deep.RegionHeld3
namespace Go.Proofs.Ytjladlniilacjaa
open Go.RowKit Go.Proofs.Lea
set_option linter.unusedVariables false
set_option linter.unusedSimpArgs false
theorem run_pred {o : Oper} {a : Act} {W : World} {x y : Operand} (ho : o.op = .binOp .sub 3 x y 3) (l m : Nat) (hx : a.eval x = .int .i64 (l : Int)) (hy : a.eval y = .int .i64 1) (hl : l = m + 1) (hm : l ≤ 1000) :
    (execOp a.eval o).run Try.prog W = .ok (.value (.int .i64 (m : Int))) W := by
  unfold execOp
  simp only [ho, hx, hy]
  have h : (IntKind.i64.wrap ((l : Int) - 1)) = (m : Int) := by
    rw [show (l : Int) - 1 = (m : Int) by omega]
    exact IntWalk.i64_in _ (by omega)
  simp [go_sem, h]
set_option maxRecDepth 100000 in
set_option maxHeartbeats 4000000 in
theorem room_walk (w : World) (a0 a1 : Int) (A2 : Option Addr) (c2 : Nat) (l2 : List Deed) (S2 : Lk w A2 l2) :
    Calls Try.prog 3 #[.int .i64 a0, .int .i64 a1, .slice A2 l2.length c2] w fun e w' => e = .returned (.bool true) ∧ Below w.heap.size w w' := by
  have HS := Lib.hid S2
  clear S2
  go_enter Try.func3, Try.ntmps3
  go_wp2_with fail
  refine (lworks_any _).mono ?_
  rintro e w1 ⟨rfl, hb1⟩
  have HB1 := Lib.hid hb1
  clear hb1
  go_wp2_with fail
  refine (lv_new (w0 := w) a0 a1 HB1.out).mono ?_
  rintro e w2 ⟨rfl, hM⟩
  have H2 := Lib.hid hM
  clear hM
  generalize w1.heap.size = m at *
  go_wp2_with fail
  refine (lfew_any A2 c2 l2 w2 (HS.out.below H2.out.below)).mono ?_
  rintro e w3 ⟨rfl, rfl⟩
  rcases hf : lfewF l2 with _ | _
  · go_wp2_with fail
    go_ret
    exact ⟨rfl, H2.out.below⟩
  · obtain ⟨hl60, hks⟩ := lfewF_true hf
    have HKS := Lib.hid hks
    clear hf hks
    go_wp2_with fail
    go_loopw [10, 11, 12, 13, 14] (fun vl vi _ _ _ wr => ∃ k q : Nat, vi = .int .i64 (k : Int) ∧ k ≤ l2.length ∧ vl = .int .i64 (q : Int) ∧ q ≤ k ∧ Hid (∃ t vs ve, Lv w m t vs ve wr ∧ t.opened = q ∧ t.most = min (max a0 1) 4)) (fun _ vi _ _ _ _ => l2.length - (intOf vi).toNat)
    case atStart => exact ⟨0, 0, rfl, Nat.zero_le _, rfl, Nat.le_refl _, Lib.hid ⟨_, _, _, H2.out, rfl, rfl⟩⟩
    case round =>
      obtain ⟨k, q, rfl, hk, rfl, hq, HM⟩ := hrel
      obtain ⟨t, vs, ve, hC, hto, htm⟩ := HM.out
      have H := Lib.hid hC
      have HTO := Lib.hid hto
      have HTM := Lib.hid htm
      clear HM hC hto htm
      by_cases hlt : k < l2.length
      · obtain ⟨a, ha⟩ : ∃ a, l2[k]? = some a := ⟨_, List.getElem?_eq_getElem hlt⟩
        have hmild := Lib.hid (HKS.out a (List.mem_of_getElem? ha))
        obtain ⟨b, o, rfl, hbl, HC⟩ := (HS.out.below H.out.below).at_ k a ha
        obtain ⟨d0, d1, d2, d3, d4, d5⟩ := HC
        have SK : Hid (∀ W : World, Below w.heap.size w W → ActAt W b (o + k * 6) a) := Lib.hid (fun W hW => by
          obtain ⟨b', o', he, _, e1⟩ := (HS.out.below hW).at_ k _ ha
          cases he
          exact e1)
        have j1 : (k : Int) < (l2.length : Int) := by omega
        have wk : IntKind.i64.wrap ((k : Int) + 1) = (k : Int) + 1 := IntWalk.i64_in _ (by omega)
        have wq : IntKind.i64.wrap ((q : Int) + 1) = (q : Int) + 1 := IntWalk.i64_in _ (by omega)
        clear ha
        go_wp2_with fail
        refine (do_any H.out a hmild.out).mono ?_
        rintro e w4 ⟨va, rfl, ⟨vs4, ve4, h4, _⟩, hr⟩
        obtain ⟨Av, cv, rfl⟩ := own_sl hr
        have H4 := Lib.hid h4
        have OP := Lib.hid (does_opened t a)
        have MO := Lib.hid ((does_most t a).trans HTM.out)
        clear h4 hr d0 d1 d2 d3 d4 d5
        generalize (t.does a).2.all.length = nv at *
        generalize (t.does a).1 = t4 at *
        generalize (t.does a).2 = x at *
        rw [HTO.out] at OP
        have S5 := Lib.hid (H4.out.nblk (toldC x (.slice Av nv cv)) 32)
        have H5 := Lib.hid (H4.out.alloc (.cells (toldC x (.slice Av nv cv)) 32))
        have d0 := (SK.out _ H5.out.below).c0
        have p0 : (w4.alloc (.cells (toldC x (.slice Av nv cv)) 32)).cell? ⟨w4.heap.size, 0, none⟩ = some (.int .i64 x.e) := by rw [S5.out.1.cell]; rfl
        have p1 : (w4.alloc (.cells (toldC x (.slice Av nv cv)) 32)).cell? ⟨w4.heap.size, 1, none⟩ = some (.int .i64 x.n) := by rw [S5.out.1.cell]; rfl
        unfold toldC
        unfold toldC at d0 p0 p1
        obtain ⟨ak, ai, ab, ac, aq, atx⟩ := a
        simp only at d0 OP
        have hthree : (ak = 0 ∧ x.e = 0) ∨ (ak = 0 ∧ x.e ≠ 0) ∨ ak ≠ 0 := by omega
        rcases hthree with ⟨h1, h2⟩ | ⟨h1, h2⟩ | h1
        · have OPN := Lib.hid (OP.out.1.trans (if_pos ⟨h1, h2⟩))
          have hn := OP.out.2 h1 h2
          obtain ⟨L, hL⟩ : ∃ L : Int, L = (q : Int) + 1 := ⟨_, rfl⟩
          obtain ⟨q', hq'⟩ : ∃ q', q' = q + 1 := ⟨_, rfl⟩
          rw [← hq'] at OPN
          have HLQ := Lib.hid (show L = (q' : Int) by omega)
          have HQK := Lib.hid (show q' ≤ k + 1 by omega)
          replace p1 := p1.trans (show some (Value.int .i64 x.n) = some (.int .i64 L) by rw [hn, hL])
          replace p0 := p0.trans (show some (Value.int .i64 x.e) = some (.int .i64 0) by rw [h2])
          rw [h1] at d0
          have hne : (L != (q : Int) + 1) = false := by rw [hL]; simp
          clear hn h1 h2 hL hq'
          go_wp2_with fail
          refine (lv_all H5.out).mono ?_
          rintro e w6 ⟨v6, rfl, hr6, _, hb⟩
          have H6 := Lib.hid (H5.out.call hb)
          have R6 := Lib.hid hr6
          clear hr6 hb p0 p1 d0
          obtain ⟨A6, c6, rfl⟩ := own_sl R6.out
          have rm : (t4.all.length : Int) ≤ min (max a0 1) 4 := by rw [← MO.out]; exact all_room H6.out.lt.ok
          have n4 := all_four t4
          have KT := Lib.hid (kept_two H6.out.lt.ok H6.out.fine)
          go_wp2_with fail
          refine (kept_any H6.out.lt).mono ?_
          rintro e w7 ⟨rfl, hb⟩
          have H7 := Lib.hid (H6.out.call hb)
          have R7 := Lib.hid (own_far R6.out (far_of_below hb) (fun _ _ e => e))
          clear hb
          have AT := Lib.hid (own_at R7.out)
          have RI := Lib.hid (fun k s s' => all_rise (k := k) (s := s) (s' := s') H7.out.lt.ok)
          have LA := Lib.hid (fun k s => all_last (k := k) (s := s) H7.out.lt.ok)
          rw [OPN.out] at LA
          obtain ⟨n, hn⟩ : ∃ n, n = t4.all.length := ⟨_, rfl⟩
          obtain ⟨kp, hkp⟩ : ∃ n, n = t4.kept := ⟨_, rfl⟩
          have hkt := KT.out
          rw [← hkp, ← hn] at hkt
          rw [← hkp]
          rw [← hn] at rm n4 ⊢
          have wn : IntKind.i64.wrap (2 * (n : Int)) = 2 * (n : Int) := IntWalk.i64_in _ (by omega)
          have kn : ¬ (2 * (n : Int)) < (kp : Int) := by omega
          have HN := Lib.hid hn
          clear hn hkp hkt KT R6 R7
          go_wp2_with fail
          go_loopw [14] (fun vi wr => ∃ kk : Nat, vi = .int .i64 (kk : Int) ∧ kk ≤ n ∧ Hid (Below w7.heap.size w7 wr)) (fun vi _ => n - (intOf vi).toNat)
          case atStart => exact ⟨0, rfl, Nat.zero_le _, Lib.hid (Below.refl _ _)⟩
          case round =>
            obtain ⟨kk, rfl, hkk, HBB⟩ := hrel
            by_cases hlt2 : kk < n
            · obtain ⟨s, hs⟩ : ∃ s, t4.all[kk]? = some s := ⟨_, List.getElem?_eq_getElem (by rw [← HN.out]; exact hlt2)⟩
              have y1 : (kk : Int) < (n : Int) := by omega
              have wkk : IntKind.i64.wrap ((kk : Int) + 1) = (kk : Int) + 1 := IntWalk.i64_in _ (by omega)
              obtain ⟨b2, o2, rfl, hb2, hat⟩ := AT.out kk s hs
              have hla := LA.out kk s hs
              have IA := Lib.hid hlt2
              have Q1 := Lib.hid (show decide (s.id > L) = false from decide_eq_false (by have := HLQ.out; omega))
              have CL : Hid (∀ j s, t4.all[j]? = some s → ∀ W : World, Below wr.heap.size wr W → SesAt W b2 (o2 + j * 4) s) := Lib.hid (fun j s hj W hW => ((hat j s hj).below hb2 HBB.out).below (Nat.lt_of_lt_of_le hb2 HBB.out.size) hW)
              have SA := Lib.hid (CL.out kk s hs)
              have HSS := Lib.hid hs
              clear hat hla hs
              by_cases hk0 : kk = 0
              · have Q2 := Lib.hid (show decide ((kk : Int) > 0) = false from decide_eq_false (by omega))
                have HB0 := Lib.hid (Bl.start wr)
                go_upto_region 23 with (fail)
                refine Segs.wp_region_perm Segs.Hist [(0, false), (1, false), (2, false), (3, false), (4, false), (5, false), (6, false), (7, false), (8, false), (9, false), (10, false), (11, false), (12, false), (13, false), (14, false), (15, false), (16, false), (17, false), (18, false), (19, false), (20, false), (21, false), (22, false), (23, false), (24, false)] Segs.Hist.refl Segs.Hist.trans (by kernel_rfl) (by kernel_rfl) rfl (by kernel_rfl) (Segs.WP.out ?_)
                have B2 := Lib.hid HB0.out.drew
                generalize wr.drew = W1 at B2 ⊢
                refine Segs.WP.val 0 rfl (some 86) (.slice (some ⟨b2, o2, none⟩) n c6) rfl (by kernel_rfl) (fun WW h => by kernel_rfl) ?_
                simp only [Act.put, List.setIfInBounds_toArray, List.set_cons_zero, List.set_cons_succ]
                refine Segs.WP.val 1 rfl (some 87) (.int .i64 ((kk : Int))) rfl (by kernel_rfl) (fun WW h => by kernel_rfl) ?_
                simp only [Act.put, List.setIfInBounds_toArray, List.set_cons_zero, List.set_cons_succ]
                refine Segs.WP.val 2 rfl (some 88) (.pointer (some ⟨b2, (o2 + kk * 4), none⟩)) rfl (by kernel_rfl) (fun WW h => run_indexSes rfl b2 o2 n c6 kk (by kernel_rfl) (by kernel_rfl) IA.out) ?_
                simp only [Act.put, List.setIfInBounds_toArray, List.set_cons_zero, List.set_cons_succ]
                refine Segs.WP.val 3 rfl (some 89) (.pointer (some ⟨b2, (o2 + kk * 4), none⟩)) rfl (by kernel_rfl) (fun WW h => by kernel_rfl) ?_
                simp only [Act.put, List.setIfInBounds_toArray, List.set_cons_zero, List.set_cons_succ]
                refine Segs.WP.val 4 rfl (some 90) (.int .i64 (s.id)) rfl (by kernel_rfl) (fun WW h => Segs.run_cell 3 (.tmp 89) rfl b2 (o2 + kk * 4) (by kernel_rfl) _ (isAggInt _) (SA.out _ (B2.out.call h).1).c0) ?_
                simp only [Act.put, List.setIfInBounds_toArray, List.set_cons_zero, List.set_cons_succ]
                refine Segs.WP.val 5 rfl (some 91) (.int .i64 L) rfl (by kernel_rfl) (fun WW h => by kernel_rfl) ?_
                simp only [Act.put, List.setIfInBounds_toArray, List.set_cons_zero, List.set_cons_succ]
                refine Segs.WP.val 6 rfl (some 92) (.bool false) rfl (by kernel_rfl) (fun WW h => run_gti rfl _ _ (by kernel_rfl) (by kernel_rfl) false Q1.out) ?_
                simp only [Act.put, List.setIfInBounds_toArray, List.set_cons_zero, List.set_cons_succ]
                refine Segs.WP.val 7 rfl (some 93) (.bool false) rfl (by kernel_rfl) (fun WW h => by kernel_rfl) ?_
                simp only [Act.put, List.setIfInBounds_toArray, List.set_cons_zero, List.set_cons_succ]
                refine Segs.WP.val 8 rfl (some 94) (.int .i64 ((kk : Int))) rfl (by kernel_rfl) (fun WW h => by kernel_rfl) ?_
                simp only [Act.put, List.setIfInBounds_toArray, List.set_cons_zero, List.set_cons_succ]
                refine Segs.WP.val 9 rfl (some 95) (.bool false) rfl (by kernel_rfl) (fun WW h => run_gti rfl _ _ (by kernel_rfl) (by kernel_rfl) false Q2.out) ?_
                simp only [Act.put, List.setIfInBounds_toArray, List.set_cons_zero, List.set_cons_succ]
                refine Segs.WP.val 10 rfl (some 96) (.bool false) rfl (by kernel_rfl) (fun WW h => by kernel_rfl) ?_
                simp only [Act.put, List.setIfInBounds_toArray, List.set_cons_zero, List.set_cons_succ]
                refine Segs.WP.not 11 rfl (some 97) rfl (by kernel_rfl) ?_
                simp only [Act.put, List.setIfInBounds_toArray, List.set_cons_zero, List.set_cons_succ]
                refine Segs.WP.not 12 rfl (some 98) rfl (by kernel_rfl) ?_
                simp only [Act.put, List.setIfInBounds_toArray, List.set_cons_zero, List.set_cons_succ]
                refine Segs.WP.not 13 rfl (some 99) rfl (by kernel_rfl) ?_
                simp only [Act.put, List.setIfInBounds_toArray, List.set_cons_zero, List.set_cons_succ]
                refine Segs.WP.not 14 rfl (some 100) rfl (by kernel_rfl) ?_
                simp only [Act.put, List.setIfInBounds_toArray, List.set_cons_zero, List.set_cons_succ]
                refine Segs.WP.not 15 rfl (some 101) rfl (by kernel_rfl) ?_
                simp only [Act.put, List.setIfInBounds_toArray, List.set_cons_zero, List.set_cons_succ]
                refine Segs.WP.not 16 rfl (some 102) rfl (by kernel_rfl) ?_
                simp only [Act.put, List.setIfInBounds_toArray, List.set_cons_zero, List.set_cons_succ]
                refine Segs.WP.not 17 rfl (some 103) rfl (by kernel_rfl) ?_
                simp only [Act.put, List.setIfInBounds_toArray, List.set_cons_zero, List.set_cons_succ]
                refine Segs.WP.not 18 rfl (some 104) rfl (by kernel_rfl) ?_
                simp only [Act.put, List.setIfInBounds_toArray, List.set_cons_zero, List.set_cons_succ]
                refine Segs.WP.not 19 rfl (some 105) rfl (by kernel_rfl) ?_
                simp only [Act.put, List.setIfInBounds_toArray, List.set_cons_zero, List.set_cons_succ]
                refine Segs.WP.not 20 rfl (some 106) rfl (by kernel_rfl) ?_
                simp only [Act.put, List.setIfInBounds_toArray, List.set_cons_zero, List.set_cons_succ]
                refine Segs.WP.not 21 rfl (some 107) rfl (by kernel_rfl) ?_
                simp only [Act.put, List.setIfInBounds_toArray, List.set_cons_zero, List.set_cons_succ]
                refine Segs.WP.not 22 rfl (some 108) rfl (by kernel_rfl) ?_
                simp only [Act.put, List.setIfInBounds_toArray, List.set_cons_zero, List.set_cons_succ]
                refine Segs.WP.val 23 rfl (some 109) (.bool false) rfl (by kernel_rfl) (fun WW h => by kernel_rfl) ?_
                simp only [Act.put, List.setIfInBounds_toArray, List.set_cons_zero, List.set_cons_succ]
                refine Segs.WP.val 24 rfl (some 110) (.bool false) rfl (by kernel_rfl) (fun WW h => by kernel_rfl) ?_
                simp only [Act.put, List.setIfInBounds_toArray, List.set_cons_zero, List.set_cons_succ]
                refine Segs.WP.fin (fun W3 hx => ?_)
                have B4 := Lib.hid (B2.out.call hx)
                clear hx
                go_wp2_with fail
                exact ⟨⟨kk + 1, by go_num, by omega, Lib.hid (HBB.out.trans ((far_of_below B4.out.1).below HBB.out.size (fun _ e => e.elim)))⟩, by simp [intOf]; omega⟩
              · obtain ⟨kj, hkj⟩ : ∃ kj, kk = kj + 1 := ⟨kk - 1, by omega⟩
                obtain ⟨s', hs'⟩ : ∃ s, t4.all[kj]? = some s := ⟨_, List.getElem?_eq_getElem (by rw [← HN.out]; omega)⟩
                have KJ := Lib.hid hkj
                have IA2 := Lib.hid (show kk ≤ 1000 by omega)
                have IB := Lib.hid (show kj < n by omega)
                have SB := Lib.hid (CL.out kj s' hs')
                have Q2 := Lib.hid (show decide ((kk : Int) > 0) = true from decide_eq_true (by omega))
                have Q3 := Lib.hid (show decide (s'.id ≥ s.id) = false from decide_eq_false (by have := RI.out kj s' s hs' (by rw [← hkj]; exact HSS.out); omega))
                clear hs' hkj
                have HB0 := Lib.hid (Bl.start wr)
                go_upto_region 23 with (fail)
                refine Segs.wp_region_perm Segs.Hist [(0, false), (1, false), (2, false), (3, false), (4, false), (5, false), (6, false), (7, false), (8, false), (9, false), (10, false), (11, false), (12, false), (13, false), (14, false), (15, false), (16, false), (17, false), (18, false), (19, false), (20, false), (21, false), (22, false), (23, false), (24, false)] Segs.Hist.refl Segs.Hist.trans (by kernel_rfl) (by kernel_rfl) rfl (by kernel_rfl) (Segs.WP.out ?_)
                have B2 := Lib.hid HB0.out.drew
                generalize wr.drew = W1 at B2 ⊢
                refine Segs.WP.val 0 rfl (some 86) (.slice (some ⟨b2, o2, none⟩) n c6) rfl (by kernel_rfl) (fun WW h => by kernel_rfl) ?_
                simp only [Act.put, List.setIfInBounds_toArray, List.set_cons_zero, List.set_cons_succ]
                refine Segs.WP.val 1 rfl (some 87) (.int .i64 ((kk : Int))) rfl (by kernel_rfl) (fun WW h => by kernel_rfl) ?_
                simp only [Act.put, List.setIfInBounds_toArray, List.set_cons_zero, List.set_cons_succ]
                refine Segs.WP.val 2 rfl (some 88) (.pointer (some ⟨b2, (o2 + kk * 4), none⟩)) rfl (by kernel_rfl) (fun WW h => run_indexSes rfl b2 o2 n c6 kk (by kernel_rfl) (by kernel_rfl) IA.out) ?_
                simp only [Act.put, List.setIfInBounds_toArray, List.set_cons_zero, List.set_cons_succ]
                refine Segs.WP.val 3 rfl (some 89) (.pointer (some ⟨b2, (o2 + kk * 4), none⟩)) rfl (by kernel_rfl) (fun WW h => by kernel_rfl) ?_
                simp only [Act.put, List.setIfInBounds_toArray, List.set_cons_zero, List.set_cons_succ]
                refine Segs.WP.val 4 rfl (some 90) (.int .i64 (s.id)) rfl (by kernel_rfl) (fun WW h => Segs.run_cell 3 (.tmp 89) rfl b2 (o2 + kk * 4) (by kernel_rfl) _ (isAggInt _) (SA.out _ (B2.out.call h).1).c0) ?_
                simp only [Act.put, List.setIfInBounds_toArray, List.set_cons_zero, List.set_cons_succ]
                refine Segs.WP.val 5 rfl (some 91) (.int .i64 L) rfl (by kernel_rfl) (fun WW h => by kernel_rfl) ?_
                simp only [Act.put, List.setIfInBounds_toArray, List.set_cons_zero, List.set_cons_succ]
                refine Segs.WP.val 6 rfl (some 92) (.bool false) rfl (by kernel_rfl) (fun WW h => run_gti rfl _ _ (by kernel_rfl) (by kernel_rfl) false Q1.out) ?_
                simp only [Act.put, List.setIfInBounds_toArray, List.set_cons_zero, List.set_cons_succ]
                refine Segs.WP.val 7 rfl (some 93) (.bool false) rfl (by kernel_rfl) (fun WW h => by kernel_rfl) ?_
                simp only [Act.put, List.setIfInBounds_toArray, List.set_cons_zero, List.set_cons_succ]
                refine Segs.WP.val 8 rfl (some 94) (.int .i64 ((kk : Int))) rfl (by kernel_rfl) (fun WW h => by kernel_rfl) ?_
                simp only [Act.put, List.setIfInBounds_toArray, List.set_cons_zero, List.set_cons_succ]
                refine Segs.WP.val 9 rfl (some 95) (.bool true) rfl (by kernel_rfl) (fun WW h => run_gti rfl _ _ (by kernel_rfl) (by kernel_rfl) true Q2.out) ?_
                simp only [Act.put, List.setIfInBounds_toArray, List.set_cons_zero, List.set_cons_succ]
                refine Segs.WP.val 10 rfl (some 96) (.bool true) rfl (by kernel_rfl) (fun WW h => by kernel_rfl) ?_
                simp only [Act.put, List.setIfInBounds_toArray, List.set_cons_zero, List.set_cons_succ]
                refine Segs.WP.val 11 rfl (some 97) (.slice (some ⟨b2, o2, none⟩) n c6) rfl (by kernel_rfl) (fun WW h => by kernel_rfl) ?_
                simp only [Act.put, List.setIfInBounds_toArray, List.set_cons_zero, List.set_cons_succ]
                refine Segs.WP.val 12 rfl (some 98) (.int .i64 ((kk : Int))) rfl (by kernel_rfl) (fun WW h => by kernel_rfl) ?_
                simp only [Act.put, List.setIfInBounds_toArray, List.set_cons_zero, List.set_cons_succ]
                refine Segs.WP.val 13 rfl (some 99) (.int .i64 ((kj : Int))) rfl (by kernel_rfl) (fun WW h => run_pred rfl kk kj (by kernel_rfl) (by kernel_rfl) KJ.out IA2.out) ?_
                simp only [Act.put, List.setIfInBounds_toArray, List.set_cons_zero, List.set_cons_succ]
                refine Segs.WP.val 14 rfl (some 100) (.pointer (some ⟨b2, (o2 + kj * 4), none⟩)) rfl (by kernel_rfl) (fun WW h => run_indexSes rfl b2 o2 n c6 kj (by kernel_rfl) (by kernel_rfl) IB.out) ?_
                simp only [Act.put, List.setIfInBounds_toArray, List.set_cons_zero, List.set_cons_succ]
                refine Segs.WP.val 15 rfl (some 101) (.pointer (some ⟨b2, (o2 + kj * 4), none⟩)) rfl (by kernel_rfl) (fun WW h => by kernel_rfl) ?_
                simp only [Act.put, List.setIfInBounds_toArray, List.set_cons_zero, List.set_cons_succ]
                refine Segs.WP.val 16 rfl (some 102) (.int .i64 (s'.id)) rfl (by kernel_rfl) (fun WW h => Segs.run_cell 3 (.tmp 101) rfl b2 (o2 + kj * 4) (by kernel_rfl) _ (isAggInt _) (SB.out _ (B2.out.call h).1).c0) ?_
                simp only [Act.put, List.setIfInBounds_toArray, List.set_cons_zero, List.set_cons_succ]
                refine Segs.WP.val 17 rfl (some 103) (.slice (some ⟨b2, o2, none⟩) n c6) rfl (by kernel_rfl) (fun WW h => by kernel_rfl) ?_
                simp only [Act.put, List.setIfInBounds_toArray, List.set_cons_zero, List.set_cons_succ]
                refine Segs.WP.val 18 rfl (some 104) (.int .i64 ((kk : Int))) rfl (by kernel_rfl) (fun WW h => by kernel_rfl) ?_
                simp only [Act.put, List.setIfInBounds_toArray, List.set_cons_zero, List.set_cons_succ]
                refine Segs.WP.val 19 rfl (some 105) (.pointer (some ⟨b2, (o2 + kk * 4), none⟩)) rfl (by kernel_rfl) (fun WW h => run_indexSes rfl b2 o2 n c6 kk (by kernel_rfl) (by kernel_rfl) IA.out) ?_
                simp only [Act.put, List.setIfInBounds_toArray, List.set_cons_zero, List.set_cons_succ]
                refine Segs.WP.val 20 rfl (some 106) (.pointer (some ⟨b2, (o2 + kk * 4), none⟩)) rfl (by kernel_rfl) (fun WW h => by kernel_rfl) ?_
                simp only [Act.put, List.setIfInBounds_toArray, List.set_cons_zero, List.set_cons_succ]
                refine Segs.WP.val 21 rfl (some 107) (.int .i64 (s.id)) rfl (by kernel_rfl) (fun WW h => Segs.run_cell 3 (.tmp 106) rfl b2 (o2 + kk * 4) (by kernel_rfl) _ (isAggInt _) (SA.out _ (B2.out.call h).1).c0) ?_
                simp only [Act.put, List.setIfInBounds_toArray, List.set_cons_zero, List.set_cons_succ]
                refine Segs.WP.val 22 rfl (some 108) (.bool false) rfl (by kernel_rfl) (fun WW h => run_gei rfl _ _ (by kernel_rfl) (by kernel_rfl) false Q3.out) ?_
                simp only [Act.put, List.setIfInBounds_toArray, List.set_cons_zero, List.set_cons_succ]
                refine Segs.WP.val 23 rfl (some 109) (.bool false) rfl (by kernel_rfl) (fun WW h => by kernel_rfl) ?_
                simp only [Act.put, List.setIfInBounds_toArray, List.set_cons_zero, List.set_cons_succ]
                refine Segs.WP.val 24 rfl (some 110) (.bool false) rfl (by kernel_rfl) (fun WW h => by kernel_rfl) ?_
                simp only [Act.put, List.setIfInBounds_toArray, List.set_cons_zero, List.set_cons_succ]
                refine Segs.WP.fin (fun W3 hx => ?_)
                have B4 := Lib.hid (B2.out.call hx)
                clear hx
                go_wp2_with fail
                exact ⟨⟨kk + 1, by go_num, by omega, Lib.hid (HBB.out.trans ((far_of_below B4.out.1).below HBB.out.size (fun _ e => e.elim)))⟩, by simp [intOf]; omega⟩
            · obtain rfl : kk = n := by omega
              have H8 := Lib.hid (H7.out.call HBB.out)
              go_wp2_with fail
              exact ⟨⟨k + 1, q', by go_num, by omega, by rw [HLQ.out], HQK.out, Lib.hid ⟨t4, _, _, H8.out, OPN.out, MO.out⟩⟩, by simp [intOf]; omega⟩
        · have OPN := Lib.hid (OP.out.1.trans (if_neg (fun e => h2 e.2)))
          obtain ⟨L, hL⟩ : ∃ L : Int, L = (q : Int) := ⟨_, rfl⟩
          obtain ⟨q', hq'⟩ : ∃ q', q' = q := ⟨_, rfl⟩
          rw [← hq'] at OPN
          have HLQ := Lib.hid (show L = (q' : Int) by omega)
          have HQK := Lib.hid (show q' ≤ k + 1 by omega)
          have e0 : (x.e == 0) = false := by simpa using h2
          rw [h1] at d0
          rw [← hL]
          clear h1 h2 hL hq' wq
          go_wp2_with fail
          refine (lv_all H5.out).mono ?_
          rintro e w6 ⟨v6, rfl, hr6, _, hb⟩
          have H6 := Lib.hid (H5.out.call hb)
          have R6 := Lib.hid hr6
          clear hr6 hb p0 p1 d0
          obtain ⟨A6, c6, rfl⟩ := own_sl R6.out
          have rm : (t4.all.length : Int) ≤ min (max a0 1) 4 := by rw [← MO.out]; exact all_room H6.out.lt.ok
          have n4 := all_four t4
          have KT := Lib.hid (kept_two H6.out.lt.ok H6.out.fine)
          go_wp2_with fail
          refine (kept_any H6.out.lt).mono ?_
          rintro e w7 ⟨rfl, hb⟩
          have H7 := Lib.hid (H6.out.call hb)
          have R7 := Lib.hid (own_far R6.out (far_of_below hb) (fun _ _ e => e))
          clear hb
          have AT := Lib.hid (own_at R7.out)
          have RI := Lib.hid (fun k s s' => all_rise (k := k) (s := s) (s' := s') H7.out.lt.ok)
          have LA := Lib.hid (fun k s => all_last (k := k) (s := s) H7.out.lt.ok)
          rw [OPN.out] at LA
          obtain ⟨n, hn⟩ : ∃ n, n = t4.all.length := ⟨_, rfl⟩
          obtain ⟨kp, hkp⟩ : ∃ n, n = t4.kept := ⟨_, rfl⟩
          have hkt := KT.out
          rw [← hkp, ← hn] at hkt
          rw [← hkp]
          rw [← hn] at rm n4 ⊢
          have wn : IntKind.i64.wrap (2 * (n : Int)) = 2 * (n : Int) := IntWalk.i64_in _ (by omega)
          have kn : ¬ (2 * (n : Int)) < (kp : Int) := by omega
          have HN := Lib.hid hn
          clear hn hkp hkt KT R6 R7
          go_wp2_with fail
          go_loopw [14] (fun vi wr => ∃ kk : Nat, vi = .int .i64 (kk : Int) ∧ kk ≤ n ∧ Hid (Below w7.heap.size w7 wr)) (fun vi _ => n - (intOf vi).toNat)
          case atStart => exact ⟨0, rfl, Nat.zero_le _, Lib.hid (Below.refl _ _)⟩
          case round =>
            obtain ⟨kk, rfl, hkk, HBB⟩ := hrel
            by_cases hlt2 : kk < n
            · obtain ⟨s, hs⟩ : ∃ s, t4.all[kk]? = some s := ⟨_, List.getElem?_eq_getElem (by rw [← HN.out]; exact hlt2)⟩
              have y1 : (kk : Int) < (n : Int) := by omega
              have wkk : IntKind.i64.wrap ((kk : Int) + 1) = (kk : Int) + 1 := IntWalk.i64_in _ (by omega)
              obtain ⟨b2, o2, rfl, hb2, hat⟩ := AT.out kk s hs
              have hla := LA.out kk s hs
              have IA := Lib.hid hlt2
              have Q1 := Lib.hid (show decide (s.id > L) = false from decide_eq_false (by have := HLQ.out; omega))
              have CL : Hid (∀ j s, t4.all[j]? = some s → ∀ W : World, Below wr.heap.size wr W → SesAt W b2 (o2 + j * 4) s) := Lib.hid (fun j s hj W hW => ((hat j s hj).below hb2 HBB.out).below (Nat.lt_of_lt_of_le hb2 HBB.out.size) hW)
              have SA := Lib.hid (CL.out kk s hs)
              have HSS := Lib.hid hs
              clear hat hla hs
              by_cases hk0 : kk = 0
              · have Q2 := Lib.hid (show decide ((kk : Int) > 0) = false from decide_eq_false (by omega))
                have HB0 := Lib.hid (Bl.start wr)
                go_upto_region 23 with (fail)
                refine Segs.wp_region_perm Segs.Hist [(0, false), (1, false), (2, false), (3, false), (4, false), (5, false), (6, false), (7, false), (8, false), (9, false), (10, false), (11, false), (12, false), (13, false), (14, false), (15, false), (16, false), (17, false), (18, false), (19, false), (20, false), (21, false), (22, false), (23, false), (24, false)] Segs.Hist.refl Segs.Hist.trans (by kernel_rfl) (by kernel_rfl) rfl (by kernel_rfl) (Segs.WP.out ?_)
                have B2 := Lib.hid HB0.out.drew
                generalize wr.drew = W1 at B2 ⊢
                refine Segs.WP.val 0 rfl (some 86) (.slice (some ⟨b2, o2, none⟩) n c6) rfl (by kernel_rfl) (fun WW h => by kernel_rfl) ?_
                simp only [Act.put, List.setIfInBounds_toArray, List.set_cons_zero, List.set_cons_succ]
                refine Segs.WP.val 1 rfl (some 87) (.int .i64 ((kk : Int))) rfl (by kernel_rfl) (fun WW h => by kernel_rfl) ?_
                simp only [Act.put, List.setIfInBounds_toArray, List.set_cons_zero, List.set_cons_succ]
                refine Segs.WP.val 2 rfl (some 88) (.pointer (some ⟨b2, (o2 + kk * 4), none⟩)) rfl (by kernel_rfl) (fun WW h => run_indexSes rfl b2 o2 n c6 kk (by kernel_rfl) (by kernel_rfl) IA.out) ?_
                simp only [Act.put, List.setIfInBounds_toArray, List.set_cons_zero, List.set_cons_succ]
                refine Segs.WP.val 3 rfl (some 89) (.pointer (some ⟨b2, (o2 + kk * 4), none⟩)) rfl (by kernel_rfl) (fun WW h => by kernel_rfl) ?_
                simp only [Act.put, List.setIfInBounds_toArray, List.set_cons_zero, List.set_cons_succ]
                refine Segs.WP.val 4 rfl (some 90) (.int .i64 (s.id)) rfl (by kernel_rfl) (fun WW h => Segs.run_cell 3 (.tmp 89) rfl b2 (o2 + kk * 4) (by kernel_rfl) _ (isAggInt _) (SA.out _ (B2.out.call h).1).c0) ?_
                simp only [Act.put, List.setIfInBounds_toArray, List.set_cons_zero, List.set_cons_succ]
                refine Segs.WP.val 5 rfl (some 91) (.int .i64 L) rfl (by kernel_rfl) (fun WW h => by kernel_rfl) ?_
                simp only [Act.put, List.setIfInBounds_toArray, List.set_cons_zero, List.set_cons_succ]
                refine Segs.WP.val 6 rfl (some 92) (.bool false) rfl (by kernel_rfl) (fun WW h => run_gti rfl _ _ (by kernel_rfl) (by kernel_rfl) false Q1.out) ?_
                simp only [Act.put, List.setIfInBounds_toArray, List.set_cons_zero, List.set_cons_succ]
                refine Segs.WP.val 7 rfl (some 93) (.bool false) rfl (by kernel_rfl) (fun WW h => by kernel_rfl) ?_
                simp only [Act.put, List.setIfInBounds_toArray, List.set_cons_zero, List.set_cons_succ]
                refine Segs.WP.val 8 rfl (some 94) (.int .i64 ((kk : Int))) rfl (by kernel_rfl) (fun WW h => by kernel_rfl) ?_
                simp only [Act.put, List.setIfInBounds_toArray, List.set_cons_zero, List.set_cons_succ]
                refine Segs.WP.val 9 rfl (some 95) (.bool false) rfl (by kernel_rfl) (fun WW h => run_gti rfl _ _ (by kernel_rfl) (by kernel_rfl) false Q2.out) ?_
                simp only [Act.put, List.setIfInBounds_toArray, List.set_cons_zero, List.set_cons_succ]
                refine Segs.WP.val 10 rfl (some 96) (.bool false) rfl (by kernel_rfl) (fun WW h => by kernel_rfl) ?_
                simp only [Act.put, List.setIfInBounds_toArray, List.set_cons_zero, List.set_cons_succ]
                refine Segs.WP.not 11 rfl (some 97) rfl (by kernel_rfl) ?_
                simp only [Act.put, List.setIfInBounds_toArray, List.set_cons_zero, List.set_cons_succ]
                refine Segs.WP.not 12 rfl (some 98) rfl (by kernel_rfl) ?_
                simp only [Act.put, List.setIfInBounds_toArray, List.set_cons_zero, List.set_cons_succ]
                refine Segs.WP.not 13 rfl (some 99) rfl (by kernel_rfl) ?_
                simp only [Act.put, List.setIfInBounds_toArray, List.set_cons_zero, List.set_cons_succ]
                refine Segs.WP.not 14 rfl (some 100) rfl (by kernel_rfl) ?_
                simp only [Act.put, List.setIfInBounds_toArray, List.set_cons_zero, List.set_cons_succ]
                refine Segs.WP.not 15 rfl (some 101) rfl (by kernel_rfl) ?_
                simp only [Act.put, List.setIfInBounds_toArray, List.set_cons_zero, List.set_cons_succ]
                refine Segs.WP.not 16 rfl (some 102) rfl (by kernel_rfl) ?_
                simp only [Act.put, List.setIfInBounds_toArray, List.set_cons_zero, List.set_cons_succ]
                refine Segs.WP.not 17 rfl (some 103) rfl (by kernel_rfl) ?_
                simp only [Act.put, List.setIfInBounds_toArray, List.set_cons_zero, List.set_cons_succ]
                refine Segs.WP.not 18 rfl (some 104) rfl (by kernel_rfl) ?_
                simp only [Act.put, List.setIfInBounds_toArray, List.set_cons_zero, List.set_cons_succ]
                refine Segs.WP.not 19 rfl (some 105) rfl (by kernel_rfl) ?_
                simp only [Act.put, List.setIfInBounds_toArray, List.set_cons_zero, List.set_cons_succ]
                refine Segs.WP.not 20 rfl (some 106) rfl (by kernel_rfl) ?_
                simp only [Act.put, List.setIfInBounds_toArray, List.set_cons_zero, List.set_cons_succ]
                refine Segs.WP.not 21 rfl (some 107) rfl (by kernel_rfl) ?_
                simp only [Act.put, List.setIfInBounds_toArray, List.set_cons_zero, List.set_cons_succ]
                refine Segs.WP.not 22 rfl (some 108) rfl (by kernel_rfl) ?_
                simp only [Act.put, List.setIfInBounds_toArray, List.set_cons_zero, List.set_cons_succ]
                refine Segs.WP.val 23 rfl (some 109) (.bool false) rfl (by kernel_rfl) (fun WW h => by kernel_rfl) ?_
                simp only [Act.put, List.setIfInBounds_toArray, List.set_cons_zero, List.set_cons_succ]
                refine Segs.WP.val 24 rfl (some 110) (.bool false) rfl (by kernel_rfl) (fun WW h => by kernel_rfl) ?_
                simp only [Act.put, List.setIfInBounds_toArray, List.set_cons_zero, List.set_cons_succ]
                refine Segs.WP.fin (fun W3 hx => ?_)
                have B4 := Lib.hid (B2.out.call hx)
                clear hx
                go_wp2_with fail
                exact ⟨⟨kk + 1, by go_num, by omega, Lib.hid (HBB.out.trans ((far_of_below B4.out.1).below HBB.out.size (fun _ e => e.elim)))⟩, by simp [intOf]; omega⟩
              · obtain ⟨kj, hkj⟩ : ∃ kj, kk = kj + 1 := ⟨kk - 1, by omega⟩
                obtain ⟨s', hs'⟩ : ∃ s, t4.all[kj]? = some s := ⟨_, List.getElem?_eq_getElem (by rw [← HN.out]; omega)⟩
                have KJ := Lib.hid hkj
                have IA2 := Lib.hid (show kk ≤ 1000 by omega)
                have IB := Lib.hid (show kj < n by omega)
                have SB := Lib.hid (CL.out kj s' hs')
                have Q2 := Lib.hid (show decide ((kk : Int) > 0) = true from decide_eq_true (by omega))
                have Q3 := Lib.hid (show decide (s'.id ≥ s.id) = false from decide_eq_false (by have := RI.out kj s' s hs' (by rw [← hkj]; exact HSS.out); omega))
                clear hs' hkj
                have HB0 := Lib.hid (Bl.start wr)
                go_upto_region 23 with (fail)
                refine Segs.wp_region_perm Segs.Hist [(0, false), (1, false), (2, false), (3, false), (4, false), (5, false), (6, false), (7, false), (8, false), (9, false), (10, false), (11, false), (12, false), (13, false), (14, false), (15, false), (16, false), (17, false), (18, false), (19, false), (20, false), (21, false), (22, false), (23, false), (24, false)] Segs.Hist.refl Segs.Hist.trans (by kernel_rfl) (by kernel_rfl) rfl (by kernel_rfl) (Segs.WP.out ?_)
                have B2 := Lib.hid HB0.out.drew
                generalize wr.drew = W1 at B2 ⊢
                refine Segs.WP.val 0 rfl (some 86) (.slice (some ⟨b2, o2, none⟩) n c6) rfl (by kernel_rfl) (fun WW h => by kernel_rfl) ?_
                simp only [Act.put, List.setIfInBounds_toArray, List.set_cons_zero, List.set_cons_succ]
                refine Segs.WP.val 1 rfl (some 87) (.int .i64 ((kk : Int))) rfl (by kernel_rfl) (fun WW h => by kernel_rfl) ?_
                simp only [Act.put, List.setIfInBounds_toArray, List.set_cons_zero, List.set_cons_succ]
                refine Segs.WP.val 2 rfl (some 88) (.pointer (some ⟨b2, (o2 + kk * 4), none⟩)) rfl (by kernel_rfl) (fun WW h => run_indexSes rfl b2 o2 n c6 kk (by kernel_rfl) (by kernel_rfl) IA.out) ?_
                simp only [Act.put, List.setIfInBounds_toArray, List.set_cons_zero, List.set_cons_succ]
                refine Segs.WP.val 3 rfl (some 89) (.pointer (some ⟨b2, (o2 + kk * 4), none⟩)) rfl (by kernel_rfl) (fun WW h => by kernel_rfl) ?_
                simp only [Act.put, List.setIfInBounds_toArray, List.set_cons_zero, List.set_cons_succ]
                refine Segs.WP.val 4 rfl (some 90) (.int .i64 (s.id)) rfl (by kernel_rfl) (fun WW h => Segs.run_cell 3 (.tmp 89) rfl b2 (o2 + kk * 4) (by kernel_rfl) _ (isAggInt _) (SA.out _ (B2.out.call h).1).c0) ?_
                simp only [Act.put, List.setIfInBounds_toArray, List.set_cons_zero, List.set_cons_succ]
                refine Segs.WP.val 5 rfl (some 91) (.int .i64 L) rfl (by kernel_rfl) (fun WW h => by kernel_rfl) ?_
                simp only [Act.put, List.setIfInBounds_toArray, List.set_cons_zero, List.set_cons_succ]
                refine Segs.WP.val 6 rfl (some 92) (.bool false) rfl (by kernel_rfl) (fun WW h => run_gti rfl _ _ (by kernel_rfl) (by kernel_rfl) false Q1.out) ?_
                simp only [Act.put, List.setIfInBounds_toArray, List.set_cons_zero, List.set_cons_succ]
                refine Segs.WP.val 7 rfl (some 93) (.bool false) rfl (by kernel_rfl) (fun WW h => by kernel_rfl) ?_
                simp only [Act.put, List.setIfInBounds_toArray, List.set_cons_zero, List.set_cons_succ]
                refine Segs.WP.val 8 rfl (some 94) (.int .i64 ((kk : Int))) rfl (by kernel_rfl) (fun WW h => by kernel_rfl) ?_
                simp only [Act.put, List.setIfInBounds_toArray, List.set_cons_zero, List.set_cons_succ]
                refine Segs.WP.val 9 rfl (some 95) (.bool true) rfl (by kernel_rfl) (fun WW h => run_gti rfl _ _ (by kernel_rfl) (by kernel_rfl) true Q2.out) ?_
                simp only [Act.put, List.setIfInBounds_toArray, List.set_cons_zero, List.set_cons_succ]
                refine Segs.WP.val 10 rfl (some 96) (.bool true) rfl (by kernel_rfl) (fun WW h => by kernel_rfl) ?_
                simp only [Act.put, List.setIfInBounds_toArray, List.set_cons_zero, List.set_cons_succ]
                refine Segs.WP.val 11 rfl (some 97) (.slice (some ⟨b2, o2, none⟩) n c6) rfl (by kernel_rfl) (fun WW h => by kernel_rfl) ?_
                simp only [Act.put, List.setIfInBounds_toArray, List.set_cons_zero, List.set_cons_succ]
                refine Segs.WP.val 12 rfl (some 98) (.int .i64 ((kk : Int))) rfl (by kernel_rfl) (fun WW h => by kernel_rfl) ?_
                simp only [Act.put, List.setIfInBounds_toArray, List.set_cons_zero, List.set_cons_succ]
                refine Segs.WP.val 13 rfl (some 99) (.int .i64 ((kj : Int))) rfl (by kernel_rfl) (fun WW h => run_pred rfl kk kj (by kernel_rfl) (by kernel_rfl) KJ.out IA2.out) ?_
                simp only [Act.put, List.setIfInBounds_toArray, List.set_cons_zero, List.set_cons_succ]
                refine Segs.WP.val 14 rfl (some 100) (.pointer (some ⟨b2, (o2 + kj * 4), none⟩)) rfl (by kernel_rfl) (fun WW h => run_indexSes rfl b2 o2 n c6 kj (by kernel_rfl) (by kernel_rfl) IB.out) ?_
                simp only [Act.put, List.setIfInBounds_toArray, List.set_cons_zero, List.set_cons_succ]
                refine Segs.WP.val 15 rfl (some 101) (.pointer (some ⟨b2, (o2 + kj * 4), none⟩)) rfl (by kernel_rfl) (fun WW h => by kernel_rfl) ?_
                simp only [Act.put, List.setIfInBounds_toArray, List.set_cons_zero, List.set_cons_succ]
                refine Segs.WP.val 16 rfl (some 102) (.int .i64 (s'.id)) rfl (by kernel_rfl) (fun WW h => Segs.run_cell 3 (.tmp 101) rfl b2 (o2 + kj * 4) (by kernel_rfl) _ (isAggInt _) (SB.out _ (B2.out.call h).1).c0) ?_
                simp only [Act.put, List.setIfInBounds_toArray, List.set_cons_zero, List.set_cons_succ]
                refine Segs.WP.val 17 rfl (some 103) (.slice (some ⟨b2, o2, none⟩) n c6) rfl (by kernel_rfl) (fun WW h => by kernel_rfl) ?_
                simp only [Act.put, List.setIfInBounds_toArray, List.set_cons_zero, List.set_cons_succ]
                refine Segs.WP.val 18 rfl (some 104) (.int .i64 ((kk : Int))) rfl (by kernel_rfl) (fun WW h => by kernel_rfl) ?_
                simp only [Act.put, List.setIfInBounds_toArray, List.set_cons_zero, List.set_cons_succ]
                refine Segs.WP.val 19 rfl (some 105) (.pointer (some ⟨b2, (o2 + kk * 4), none⟩)) rfl (by kernel_rfl) (fun WW h => run_indexSes rfl b2 o2 n c6 kk (by kernel_rfl) (by kernel_rfl) IA.out) ?_
                simp only [Act.put, List.setIfInBounds_toArray, List.set_cons_zero, List.set_cons_succ]
                refine Segs.WP.val 20 rfl (some 106) (.pointer (some ⟨b2, (o2 + kk * 4), none⟩)) rfl (by kernel_rfl) (fun WW h => by kernel_rfl) ?_
                simp only [Act.put, List.setIfInBounds_toArray, List.set_cons_zero, List.set_cons_succ]
                refine Segs.WP.val 21 rfl (some 107) (.int .i64 (s.id)) rfl (by kernel_rfl) (fun WW h => Segs.run_cell 3 (.tmp 106) rfl b2 (o2 + kk * 4) (by kernel_rfl) _ (isAggInt _) (SA.out _ (B2.out.call h).1).c0) ?_
                simp only [Act.put, List.setIfInBounds_toArray, List.set_cons_zero, List.set_cons_succ]
                refine Segs.WP.val 22 rfl (some 108) (.bool false) rfl (by kernel_rfl) (fun WW h => run_gei rfl _ _ (by kernel_rfl) (by kernel_rfl) false Q3.out) ?_
                simp only [Act.put, List.setIfInBounds_toArray, List.set_cons_zero, List.set_cons_succ]
                refine Segs.WP.val 23 rfl (some 109) (.bool false) rfl (by kernel_rfl) (fun WW h => by kernel_rfl) ?_
                simp only [Act.put, List.setIfInBounds_toArray, List.set_cons_zero, List.set_cons_succ]
                refine Segs.WP.val 24 rfl (some 110) (.bool false) rfl (by kernel_rfl) (fun WW h => by kernel_rfl) ?_
                simp only [Act.put, List.setIfInBounds_toArray, List.set_cons_zero, List.set_cons_succ]
                refine Segs.WP.fin (fun W3 hx => ?_)
                have B4 := Lib.hid (B2.out.call hx)
                clear hx
                go_wp2_with fail
                exact ⟨⟨kk + 1, by go_num, by omega, Lib.hid (HBB.out.trans ((far_of_below B4.out.1).below HBB.out.size (fun _ e => e.elim)))⟩, by simp [intOf]; omega⟩
            · obtain rfl : kk = n := by omega
              have H8 := Lib.hid (H7.out.call HBB.out)
              go_wp2_with fail
              exact ⟨⟨k + 1, q', by go_num, by omega, by rw [HLQ.out], HQK.out, Lib.hid ⟨t4, _, _, H8.out, OPN.out, MO.out⟩⟩, by simp [intOf]; omega⟩
        · have OPN := Lib.hid (OP.out.1.trans (if_neg (fun e => h1 e.1)))
          obtain ⟨L, hL⟩ : ∃ L : Int, L = (q : Int) := ⟨_, rfl⟩
          obtain ⟨q', hq'⟩ : ∃ q', q' = q := ⟨_, rfl⟩
          rw [← hq'] at OPN
          have HLQ := Lib.hid (show L = (q' : Int) by omega)
          have HQK := Lib.hid (show q' ≤ k + 1 by omega)
          have e0 : (ak == 0) = false := by simpa using h1
          rw [← hL]
          clear h1 hL hq' wq
          go_wp2_with fail
          refine (lv_all H5.out).mono ?_
          rintro e w6 ⟨v6, rfl, hr6, _, hb⟩
          have H6 := Lib.hid (H5.out.call hb)
          have R6 := Lib.hid hr6
          clear hr6 hb p0 p1 d0
          obtain ⟨A6, c6, rfl⟩ := own_sl R6.out
          have rm : (t4.all.length : Int) ≤ min (max a0 1) 4 := by rw [← MO.out]; exact all_room H6.out.lt.ok
          have n4 := all_four t4
          have KT := Lib.hid (kept_two H6.out.lt.ok H6.out.fine)
          go_wp2_with fail
          refine (kept_any H6.out.lt).mono ?_
          rintro e w7 ⟨rfl, hb⟩
          have H7 := Lib.hid (H6.out.call hb)
          have R7 := Lib.hid (own_far R6.out (far_of_below hb) (fun _ _ e => e))
          clear hb
          have AT := Lib.hid (own_at R7.out)
          have RI := Lib.hid (fun k s s' => all_rise (k := k) (s := s) (s' := s') H7.out.lt.ok)
          have LA := Lib.hid (fun k s => all_last (k := k) (s := s) H7.out.lt.ok)
          rw [OPN.out] at LA
          obtain ⟨n, hn⟩ : ∃ n, n = t4.all.length := ⟨_, rfl⟩
          obtain ⟨kp, hkp⟩ : ∃ n, n = t4.kept := ⟨_, rfl⟩
          have hkt := KT.out
          rw [← hkp, ← hn] at hkt
          rw [← hkp]
          rw [← hn] at rm n4 ⊢
          have wn : IntKind.i64.wrap (2 * (n : Int)) = 2 * (n : Int) := IntWalk.i64_in _ (by omega)
          have kn : ¬ (2 * (n : Int)) < (kp : Int) := by omega
          have HN := Lib.hid hn
          clear hn hkp hkt KT R6 R7
          go_wp2_with fail
          go_loopw [14] (fun vi wr => ∃ kk : Nat, vi = .int .i64 (kk : Int) ∧ kk ≤ n ∧ Hid (Below w7.heap.size w7 wr)) (fun vi _ => n - (intOf vi).toNat)
          case atStart => exact ⟨0, rfl, Nat.zero_le _, Lib.hid (Below.refl _ _)⟩
          case round =>
            obtain ⟨kk, rfl, hkk, HBB⟩ := hrel
            by_cases hlt2 : kk < n
            · obtain ⟨s, hs⟩ : ∃ s, t4.all[kk]? = some s := ⟨_, List.getElem?_eq_getElem (by rw [← HN.out]; exact hlt2)⟩
              have y1 : (kk : Int) < (n : Int) := by omega
              have wkk : IntKind.i64.wrap ((kk : Int) + 1) = (kk : Int) + 1 := IntWalk.i64_in _ (by omega)
              obtain ⟨b2, o2, rfl, hb2, hat⟩ := AT.out kk s hs
              have hla := LA.out kk s hs
              have IA := Lib.hid hlt2
              have Q1 := Lib.hid (show decide (s.id > L) = false from decide_eq_false (by have := HLQ.out; omega))
              have CL : Hid (∀ j s, t4.all[j]? = some s → ∀ W : World, Below wr.heap.size wr W → SesAt W b2 (o2 + j * 4) s) := Lib.hid (fun j s hj W hW => ((hat j s hj).below hb2 HBB.out).below (Nat.lt_of_lt_of_le hb2 HBB.out.size) hW)
              have SA := Lib.hid (CL.out kk s hs)
              have HSS := Lib.hid hs
              clear hat hla hs
              by_cases hk0 : kk = 0
              · have Q2 := Lib.hid (show decide ((kk : Int) > 0) = false from decide_eq_false (by omega))
                have HB0 := Lib.hid (Bl.start wr)
                go_upto_region 23 with (fail)
                refine Segs.wp_region_perm Segs.Hist [(0, false), (1, false), (2, false), (3, false), (4, false), (5, false), (6, false), (7, false), (8, false), (9, false), (10, false), (11, false), (12, false), (13, false), (14, false), (15, false), (16, false), (17, false), (18, false), (19, false), (20, false), (21, false), (22, false), (23, false), (24, false)] Segs.Hist.refl Segs.Hist.trans (by kernel_rfl) (by kernel_rfl) rfl (by kernel_rfl) (Segs.WP.out ?_)
                have B2 := Lib.hid HB0.out.drew
                generalize wr.drew = W1 at B2 ⊢
                refine Segs.WP.val 0 rfl (some 86) (.slice (some ⟨b2, o2, none⟩) n c6) rfl (by kernel_rfl) (fun WW h => by kernel_rfl) ?_
                simp only [Act.put, List.setIfInBounds_toArray, List.set_cons_zero, List.set_cons_succ]
                refine Segs.WP.val 1 rfl (some 87) (.int .i64 ((kk : Int))) rfl (by kernel_rfl) (fun WW h => by kernel_rfl) ?_
                simp only [Act.put, List.setIfInBounds_toArray, List.set_cons_zero, List.set_cons_succ]
                refine Segs.WP.val 2 rfl (some 88) (.pointer (some ⟨b2, (o2 + kk * 4), none⟩)) rfl (by kernel_rfl) (fun WW h => run_indexSes rfl b2 o2 n c6 kk (by kernel_rfl) (by kernel_rfl) IA.out) ?_
                simp only [Act.put, List.setIfInBounds_toArray, List.set_cons_zero, List.set_cons_succ]
                refine Segs.WP.val 3 rfl (some 89) (.pointer (some ⟨b2, (o2 + kk * 4), none⟩)) rfl (by kernel_rfl) (fun WW h => by kernel_rfl) ?_
                simp only [Act.put, List.setIfInBounds_toArray, List.set_cons_zero, List.set_cons_succ]
                refine Segs.WP.val 4 rfl (some 90) (.int .i64 (s.id)) rfl (by kernel_rfl) (fun WW h => Segs.run_cell 3 (.tmp 89) rfl b2 (o2 + kk * 4) (by kernel_rfl) _ (isAggInt _) (SA.out _ (B2.out.call h).1).c0) ?_
                simp only [Act.put, List.setIfInBounds_toArray, List.set_cons_zero, List.set_cons_succ]
                refine Segs.WP.val 5 rfl (some 91) (.int .i64 L) rfl (by kernel_rfl) (fun WW h => by kernel_rfl) ?_
                simp only [Act.put, List.setIfInBounds_toArray, List.set_cons_zero, List.set_cons_succ]
                refine Segs.WP.val 6 rfl (some 92) (.bool false) rfl (by kernel_rfl) (fun WW h => run_gti rfl _ _ (by kernel_rfl) (by kernel_rfl) false Q1.out) ?_
                simp only [Act.put, List.setIfInBounds_toArray, List.set_cons_zero, List.set_cons_succ]
                refine Segs.WP.val 7 rfl (some 93) (.bool false) rfl (by kernel_rfl) (fun WW h => by kernel_rfl) ?_
                simp only [Act.put, List.setIfInBounds_toArray, List.set_cons_zero, List.set_cons_succ]
                refine Segs.WP.val 8 rfl (some 94) (.int .i64 ((kk : Int))) rfl (by kernel_rfl) (fun WW h => by kernel_rfl) ?_
                simp only [Act.put, List.setIfInBounds_toArray, List.set_cons_zero, List.set_cons_succ]
                refine Segs.WP.val 9 rfl (some 95) (.bool false) rfl (by kernel_rfl) (fun WW h => run_gti rfl _ _ (by kernel_rfl) (by kernel_rfl) false Q2.out) ?_
                simp only [Act.put, List.setIfInBounds_toArray, List.set_cons_zero, List.set_cons_succ]
                refine Segs.WP.val 10 rfl (some 96) (.bool false) rfl (by kernel_rfl) (fun WW h => by kernel_rfl) ?_
                simp only [Act.put, List.setIfInBounds_toArray, List.set_cons_zero, List.set_cons_succ]
                refine Segs.WP.not 11 rfl (some 97) rfl (by kernel_rfl) ?_
                simp only [Act.put, List.setIfInBounds_toArray, List.set_cons_zero, List.set_cons_succ]
                refine Segs.WP.not 12 rfl (some 98) rfl (by kernel_rfl) ?_
                simp only [Act.put, List.setIfInBounds_toArray, List.set_cons_zero, List.set_cons_succ]
                refine Segs.WP.not 13 rfl (some 99) rfl (by kernel_rfl) ?_
                simp only [Act.put, List.setIfInBounds_toArray, List.set_cons_zero, List.set_cons_succ]
                refine Segs.WP.not 14 rfl (some 100) rfl (by kernel_rfl) ?_
                simp only [Act.put, List.setIfInBounds_toArray, List.set_cons_zero, List.set_cons_succ]
                refine Segs.WP.not 15 rfl (some 101) rfl (by kernel_rfl) ?_
                simp only [Act.put, List.setIfInBounds_toArray, List.set_cons_zero, List.set_cons_succ]
                refine Segs.WP.not 16 rfl (some 102) rfl (by kernel_rfl) ?_
                simp only [Act.put, List.setIfInBounds_toArray, List.set_cons_zero, List.set_cons_succ]
                refine Segs.WP.not 17 rfl (some 103) rfl (by kernel_rfl) ?_
                simp only [Act.put, List.setIfInBounds_toArray, List.set_cons_zero, List.set_cons_succ]
                refine Segs.WP.not 18 rfl (some 104) rfl (by kernel_rfl) ?_
                simp only [Act.put, List.setIfInBounds_toArray, List.set_cons_zero, List.set_cons_succ]
                refine Segs.WP.not 19 rfl (some 105) rfl (by kernel_rfl) ?_
                simp only [Act.put, List.setIfInBounds_toArray, List.set_cons_zero, List.set_cons_succ]
                refine Segs.WP.not 20 rfl (some 106) rfl (by kernel_rfl) ?_
                simp only [Act.put, List.setIfInBounds_toArray, List.set_cons_zero, List.set_cons_succ]
                refine Segs.WP.not 21 rfl (some 107) rfl (by kernel_rfl) ?_
                simp only [Act.put, List.setIfInBounds_toArray, List.set_cons_zero, List.set_cons_succ]
                refine Segs.WP.not 22 rfl (some 108) rfl (by kernel_rfl) ?_
                simp only [Act.put, List.setIfInBounds_toArray, List.set_cons_zero, List.set_cons_succ]
                refine Segs.WP.val 23 rfl (some 109) (.bool false) rfl (by kernel_rfl) (fun WW h => by kernel_rfl) ?_
                simp only [Act.put, List.setIfInBounds_toArray, List.set_cons_zero, List.set_cons_succ]
                refine Segs.WP.val 24 rfl (some 110) (.bool false) rfl (by kernel_rfl) (fun WW h => by kernel_rfl) ?_
                simp only [Act.put, List.setIfInBounds_toArray, List.set_cons_zero, List.set_cons_succ]
                refine Segs.WP.fin (fun W3 hx => ?_)
                have B4 := Lib.hid (B2.out.call hx)
                clear hx
                go_wp2_with fail
                exact ⟨⟨kk + 1, by go_num, by omega, Lib.hid (HBB.out.trans ((far_of_below B4.out.1).below HBB.out.size (fun _ e => e.elim)))⟩, by simp [intOf]; omega⟩
              · obtain ⟨kj, hkj⟩ : ∃ kj, kk = kj + 1 := ⟨kk - 1, by omega⟩
                obtain ⟨s', hs'⟩ : ∃ s, t4.all[kj]? = some s := ⟨_, List.getElem?_eq_getElem (by rw [← HN.out]; omega)⟩
                have KJ := Lib.hid hkj
                have IA2 := Lib.hid (show kk ≤ 1000 by omega)
                have IB := Lib.hid (show kj < n by omega)
                have SB := Lib.hid (CL.out kj s' hs')
                have Q2 := Lib.hid (show decide ((kk : Int) > 0) = true from decide_eq_true (by omega))
                have Q3 := Lib.hid (show decide (s'.id ≥ s.id) = false from decide_eq_false (by have := RI.out kj s' s hs' (by rw [← hkj]; exact HSS.out); omega))
                clear hs' hkj
                have HB0 := Lib.hid (Bl.start wr)
                go_upto_region 23 with (fail)
                refine Segs.wp_region_perm Segs.Hist [(0, false), (1, false), (2, false), (3, false), (4, false), (5, false), (6, false), (7, false), (8, false), (9, false), (10, false), (11, false), (12, false), (13, false), (14, false), (15, false), (16, false), (17, false), (18, false), (19, false), (20, false), (21, false), (22, false), (23, false), (24, false)] Segs.Hist.refl Segs.Hist.trans (by kernel_rfl) (by kernel_rfl) rfl (by kernel_rfl) (Segs.WP.out ?_)
                have B2 := Lib.hid HB0.out.drew
                generalize wr.drew = W1 at B2 ⊢
                refine Segs.WP.val 0 rfl (some 86) (.slice (some ⟨b2, o2, none⟩) n c6) rfl (by kernel_rfl) (fun WW h => by kernel_rfl) ?_
                simp only [Act.put, List.setIfInBounds_toArray, List.set_cons_zero, List.set_cons_succ]
                refine Segs.WP.val 1 rfl (some 87) (.int .i64 ((kk : Int))) rfl (by kernel_rfl) (fun WW h => by kernel_rfl) ?_
                simp only [Act.put, List.setIfInBounds_toArray, List.set_cons_zero, List.set_cons_succ]
                refine Segs.WP.val 2 rfl (some 88) (.pointer (some ⟨b2, (o2 + kk * 4), none⟩)) rfl (by kernel_rfl) (fun WW h => run_indexSes rfl b2 o2 n c6 kk (by kernel_rfl) (by kernel_rfl) IA.out) ?_
                simp only [Act.put, List.setIfInBounds_toArray, List.set_cons_zero, List.set_cons_succ]
                refine Segs.WP.val 3 rfl (some 89) (.pointer (some ⟨b2, (o2 + kk * 4), none⟩)) rfl (by kernel_rfl) (fun WW h => by kernel_rfl) ?_
                simp only [Act.put, List.setIfInBounds_toArray, List.set_cons_zero, List.set_cons_succ]
                refine Segs.WP.val 4 rfl (some 90) (.int .i64 (s.id)) rfl (by kernel_rfl) (fun WW h => Segs.run_cell 3 (.tmp 89) rfl b2 (o2 + kk * 4) (by kernel_rfl) _ (isAggInt _) (SA.out _ (B2.out.call h).1).c0) ?_
                simp only [Act.put, List.setIfInBounds_toArray, List.set_cons_zero, List.set_cons_succ]
                refine Segs.WP.val 5 rfl (some 91) (.int .i64 L) rfl (by kernel_rfl) (fun WW h => by kernel_rfl) ?_
                simp only [Act.put, List.setIfInBounds_toArray, List.set_cons_zero, List.set_cons_succ]
                refine Segs.WP.val 6 rfl (some 92) (.bool false) rfl (by kernel_rfl) (fun WW h => run_gti rfl _ _ (by kernel_rfl) (by kernel_rfl) false Q1.out) ?_
                simp only [Act.put, List.setIfInBounds_toArray, List.set_cons_zero, List.set_cons_succ]
                refine Segs.WP.val 7 rfl (some 93) (.bool false) rfl (by kernel_rfl) (fun WW h => by kernel_rfl) ?_
                simp only [Act.put, List.setIfInBounds_toArray, List.set_cons_zero, List.set_cons_succ]
                refine Segs.WP.val 8 rfl (some 94) (.int .i64 ((kk : Int))) rfl (by kernel_rfl) (fun WW h => by kernel_rfl) ?_
                simp only [Act.put, List.setIfInBounds_toArray, List.set_cons_zero, List.set_cons_succ]
                refine Segs.WP.val 9 rfl (some 95) (.bool true) rfl (by kernel_rfl) (fun WW h => run_gti rfl _ _ (by kernel_rfl) (by kernel_rfl) true Q2.out) ?_
                simp only [Act.put, List.setIfInBounds_toArray, List.set_cons_zero, List.set_cons_succ]
                refine Segs.WP.val 10 rfl (some 96) (.bool true) rfl (by kernel_rfl) (fun WW h => by kernel_rfl) ?_
                simp only [Act.put, List.setIfInBounds_toArray, List.set_cons_zero, List.set_cons_succ]
                refine Segs.WP.val 11 rfl (some 97) (.slice (some ⟨b2, o2, none⟩) n c6) rfl (by kernel_rfl) (fun WW h => by kernel_rfl) ?_
                simp only [Act.put, List.setIfInBounds_toArray, List.set_cons_zero, List.set_cons_succ]
                refine Segs.WP.val 12 rfl (some 98) (.int .i64 ((kk : Int))) rfl (by kernel_rfl) (fun WW h => by kernel_rfl) ?_
                simp only [Act.put, List.setIfInBounds_toArray, List.set_cons_zero, List.set_cons_succ]
                refine Segs.WP.val 13 rfl (some 99) (.int .i64 ((kj : Int))) rfl (by kernel_rfl) (fun WW h => run_pred rfl kk kj (by kernel_rfl) (by kernel_rfl) KJ.out IA2.out) ?_
                simp only [Act.put, List.setIfInBounds_toArray, List.set_cons_zero, List.set_cons_succ]
                refine Segs.WP.val 14 rfl (some 100) (.pointer (some ⟨b2, (o2 + kj * 4), none⟩)) rfl (by kernel_rfl) (fun WW h => run_indexSes rfl b2 o2 n c6 kj (by kernel_rfl) (by kernel_rfl) IB.out) ?_
                simp only [Act.put, List.setIfInBounds_toArray, List.set_cons_zero, List.set_cons_succ]
                refine Segs.WP.val 15 rfl (some 101) (.pointer (some ⟨b2, (o2 + kj * 4), none⟩)) rfl (by kernel_rfl) (fun WW h => by kernel_rfl) ?_
                simp only [Act.put, List.setIfInBounds_toArray, List.set_cons_zero, List.set_cons_succ]
                refine Segs.WP.val 16 rfl (some 102) (.int .i64 (s'.id)) rfl (by kernel_rfl) (fun WW h => Segs.run_cell 3 (.tmp 101) rfl b2 (o2 + kj * 4) (by kernel_rfl) _ (isAggInt _) (SB.out _ (B2.out.call h).1).c0) ?_
                simp only [Act.put, List.setIfInBounds_toArray, List.set_cons_zero, List.set_cons_succ]
                refine Segs.WP.val 17 rfl (some 103) (.slice (some ⟨b2, o2, none⟩) n c6) rfl (by kernel_rfl) (fun WW h => by kernel_rfl) ?_
                simp only [Act.put, List.setIfInBounds_toArray, List.set_cons_zero, List.set_cons_succ]
                refine Segs.WP.val 18 rfl (some 104) (.int .i64 ((kk : Int))) rfl (by kernel_rfl) (fun WW h => by kernel_rfl) ?_
                simp only [Act.put, List.setIfInBounds_toArray, List.set_cons_zero, List.set_cons_succ]
                refine Segs.WP.val 19 rfl (some 105) (.pointer (some ⟨b2, (o2 + kk * 4), none⟩)) rfl (by kernel_rfl) (fun WW h => run_indexSes rfl b2 o2 n c6 kk (by kernel_rfl) (by kernel_rfl) IA.out) ?_
                simp only [Act.put, List.setIfInBounds_toArray, List.set_cons_zero, List.set_cons_succ]
                refine Segs.WP.val 20 rfl (some 106) (.pointer (some ⟨b2, (o2 + kk * 4), none⟩)) rfl (by kernel_rfl) (fun WW h => by kernel_rfl) ?_
                simp only [Act.put, List.setIfInBounds_toArray, List.set_cons_zero, List.set_cons_succ]
                refine Segs.WP.val 21 rfl (some 107) (.int .i64 (s.id)) rfl (by kernel_rfl) (fun WW h => Segs.run_cell 3 (.tmp 106) rfl b2 (o2 + kk * 4) (by kernel_rfl) _ (isAggInt _) (SA.out _ (B2.out.call h).1).c0) ?_
                simp only [Act.put, List.setIfInBounds_toArray, List.set_cons_zero, List.set_cons_succ]
                refine Segs.WP.val 22 rfl (some 108) (.bool false) rfl (by kernel_rfl) (fun WW h => run_gei rfl _ _ (by kernel_rfl) (by kernel_rfl) false Q3.out) ?_
                simp only [Act.put, List.setIfInBounds_toArray, List.set_cons_zero, List.set_cons_succ]
                refine Segs.WP.val 23 rfl (some 109) (.bool false) rfl (by kernel_rfl) (fun WW h => by kernel_rfl) ?_
                simp only [Act.put, List.setIfInBounds_toArray, List.set_cons_zero, List.set_cons_succ]
                refine Segs.WP.val 24 rfl (some 110) (.bool false) rfl (by kernel_rfl) (fun WW h => by kernel_rfl) ?_
                simp only [Act.put, List.setIfInBounds_toArray, List.set_cons_zero, List.set_cons_succ]
                refine Segs.WP.fin (fun W3 hx => ?_)
                have B4 := Lib.hid (B2.out.call hx)
                clear hx
                go_wp2_with fail
                exact ⟨⟨kk + 1, by go_num, by omega, Lib.hid (HBB.out.trans ((far_of_below B4.out.1).below HBB.out.size (fun _ e => e.elim)))⟩, by simp [intOf]; omega⟩
            · obtain rfl : kk = n := by omega
              have H8 := Lib.hid (H7.out.call HBB.out)
              go_wp2_with fail
              exact ⟨⟨k + 1, q', by go_num, by omega, by rw [HLQ.out], HQK.out, Lib.hid ⟨t4, _, _, H8.out, OPN.out, MO.out⟩⟩, by simp [intOf]; omega⟩
      · obtain rfl : k = l2.length := by omega
        go_wp2_with fail
        go_ret
        exact ⟨rfl, H.out.below⟩
end Go.Proofs.Ytjladlniilacjaa
