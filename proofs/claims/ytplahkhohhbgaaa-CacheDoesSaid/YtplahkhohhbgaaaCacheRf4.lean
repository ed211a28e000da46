/-
  The document's answer for cache (guillocheref07): halved.
-/
import Derived.Test.YtplahkhohhbgaaaCacheRf3
import Derived.Deep.RegionHeld3
namespace Go.Proofs.Cch
theorem halved_snoc (l : Counts) (p : ByteArray × Nat) : halvedC (l ++ [p]) = halvedC l ++ if 2 ≤ p.2 then [(p.1, p.2 / 2)] else [] := by
  unfold halvedC csL
  rw [List.filterMap_append]
  congr 1
  by_cases h : 2 ≤ p.2
  · rw [if_pos h, List.filterMap_cons_some (b := (p.1, p.2 / 2)) (by unfold hv; simp [h])]
    rfl
  · rw [if_neg h, List.filterMap_cons_none (by unfold hv; simp [h])]
    rfl
end Go.Proofs.Cch
namespace Go.Proofs.Ytplahkhohhbgaaa
open Go.RowKit Go.Proofs.Cch
set_option linter.unusedVariables false
set_option linter.unusedSimpArgs false
set_option maxRecDepth 100000 in
set_option maxHeartbeats 1000000 in
theorem rchalved_any (z : Int) (A : Option Addr) (mA cA : Nat) (vC : Value) (cs : Counts) (ak : Int) (w : World) (hC : Rp w vC (pC cs)) (hl : cs.length ≤ 100000) (h15 : ∀ p ∈ cs, p.2 ≤ 15) :
    Calls Try.prog 48 #[.agg #[.int .i64 z, .slice A mA cA, vC, .int .i64 ak]] w fun e w' => ∃ v', e = .returned (.agg #[.int .i64 z, .slice A mA cA, v', .int .i64 0]) ∧ Rp w' v' (pC (halvedC cs)) ∧ Below w.heap.size w w' := by
  obtain ⟨C, c, rfl, hT, _, _⟩ := hC
  rw [pC_length]
  obtain ⟨N, hN⟩ : ∃ N, N = w.heap.size := ⟨_, rfl⟩
  obtain ⟨W3, hW3⟩ : ∃ W, W = (w.alloc (.cells #[.int .i64 z, .slice A mA cA, .slice C cs.length c, .int .i64 ak] 30)).alloc (.cells #[.int .i64 0, .slice none 0 0, .slice none 0 0, .int .i64 0] 30) := ⟨_, rfl⟩
  have hs3 : W3.heap.size = N + 1 + 1 := by rw [hW3, hN]; simp
  have b0 : Blk W3 N 30 #[.int .i64 z, .slice A mA cA, .slice C cs.length c, .int .i64 ak] := by rw [hW3, hN]; exact (Blk.new w _ _).alloc _
  have b2 : Blk W3 (N + 1) 30 #[.int .i64 0, .slice none 0 0, .slice none 0 0, .int .i64 0] := by
    rw [hW3, hN]
    have := Blk.new (w.alloc (.cells #[.int .i64 z, .slice A mA cA, .slice C cs.length c, .int .i64 ak] 30)) 30 #[.int .i64 0, .slice none 0 0, .slice none 0 0, .int .i64 0]
    simpa using this
  have b3 : Bl N w W3 := by rw [hW3, hN]; exact ((Bl.start w).alloc _).alloc _
  have hT3 : Tp W3 C (pC cs) := hT.below (by rw [← hN]; exact b3.1)
  have HW3 := Lib.hid hW3
  have HN := Lib.hid hN
  have B0 := Lib.hid b0
  have B2 := Lib.hid b2
  have B3 := Lib.hid b3
  have HT := Lib.hid hT3
  have HS3 := Lib.hid hs3
  have H15 := Lib.hid h15
  clear hN hW3 b0 b2 b3 hT hT3 hs3 h15
  go_enter Try.func48, Try.ntmps48
  go_wp2_with fail
  rw [← HW3.out, ← HN.out]
  go_loopw [3, 4] (fun vl vi wr => ∃ (k : Nat) (V : Value), V = vl ∧ vi = .int .i64 (k : Int) ∧ k ≤ cs.length ∧ Hid (wr.ownsRow (N + 1 + 1) 87 2 V (pC (halvedC (cs.take k))).length (flat2 (pC (halvedC (cs.take k))))) ∧ Hid (Bl (N + 1 + 1) W3 wr)) (fun _ vi _ => cs.length - (intOf vi).toNat)
  case atStart => exact ⟨0, _, rfl, rfl, Nat.zero_le _, Lib.hid ⟨rfl, .inl ⟨rfl, rfl⟩⟩, Lib.hid (by have := Bl.start W3; rw [HS3.out] at this; exact this)⟩
  case round =>
    obtain ⟨k, V, rfl, rfl, hk, HO, HBL⟩ := hrel
    have HB3 : Hid (Below W3.heap.size W3 wr) := Lib.hid (by have := HBL.out.1; rw [HS3.out]; exact this)
    have C0 := Lib.hid (B0.out.below HB3.out)
    have C2 := Lib.hid (B2.out.below HB3.out)
    have e1 : wr.cell? ⟨N, 2, none⟩ = some (.slice C cs.length c) := by rw [C0.out.cell]; rfl
    by_cases hlt : k < cs.length
    · obtain ⟨⟨s, n⟩, hx⟩ : ∃ x, cs[k]? = some x := ⟨_, List.getElem?_eq_getElem hlt⟩
      obtain ⟨b, o, rfl, hbl, d0, d1⟩ := (HT.out.below HB3.out).at_ k _ (pC_at hx)
      simp only at d0 d1
      have hst : cs.take (k + 1) = cs.take k ++ [(s, n)] := by rw [List.take_add_one, hx]; rfl
      have hn15 : n ≤ 15 := H15.out (s, n) (List.mem_of_getElem? hx)
      have i1 : (k : Int) < (cs.length : Int) := by omega
      have wk : IntKind.i64.wrap ((k : Int) + 1) = (k : Int) + 1 := IntWalk.i64_in _ (by omega)
      have hfl : (pC (halvedC (cs.take k))).length ≤ 100000 := by
        rw [pC_length]
        have := List.length_filterMap_le (hv (fun _ => false)) (cs.take k)
        rw [List.length_take] at this
        unfold halvedC csL
        omega
      have HX := Lib.hid hx
      have HST := Lib.hid hst
      have HFL := Lib.hid hfl
      clear hst hx hfl
      by_cases hs : 2 ≤ n
      · have i2 : (1 : Int) < (n : Int) := by omega
        have HF := Lib.hid (show halvedC (cs.take (k + 1)) = halvedC (cs.take k) ++ [(s, n / 2)] by rw [HST.out, halved_snoc, if_pos hs])
        obtain ⟨q, hq⟩ : ∃ q, q = n / 2 := ⟨_, rfl⟩
        rw [← hq] at HF
        have wq : (n : Int).tdiv 2 = (q : Int) := by rw [Int.tdiv_eq_ediv_of_nonneg (by omega)]; omega
        have wq2 : IntKind.i64.wrap (q : Int) = (q : Int) := IntWalk.i64_in _ (by omega)
        have ST : Hid (∀ W : World, Bl (N + 1 + 1) W3 W → W.cell? ⟨N, 2, none⟩ = some (.slice (some ⟨b, o, none⟩) cs.length c) ∧ W.cell? ⟨b, o + k * 2, none⟩ = some (.string s) ∧ W.cell? ⟨b, o + k * 2 + 1, none⟩ = some (.int .i64 (n : Int))) := Lib.hid (fun W hW => by
          obtain ⟨b', o', he, hb', q0, q1⟩ := HT.out.at_ k _ (pC_at HX.out)
          cases he
          have hb2 : b < N + 1 + 1 := by rw [← HS3.out]; exact hb'
          exact ⟨(hW.1.cell (p := ⟨N, 2, none⟩) (by show N < N + 1 + 1; omega)).trans (by rw [B0.out.cell]; rfl), (hW.1.cell (p := ⟨b, _, none⟩) hb2).trans q0, (hW.1.cell (p := ⟨b, _, none⟩) hb2).trans q1⟩)
        have E0 : Hid (Bl (N + 1 + 1) W3 wr.drew) := Lib.hid HBL.out.drew
        have OA : Hid ((wr.alloc (.cells #[.string s, .int .i64 (q : Int)] 87)).drew.ownsRow (N + 1 + 1) 87 2 V _ _) := Lib.hid (own_drewN (World.ownsRow.alloc HO.out _) 1)
        have BA : Hid (Bl (N + 1 + 1) W3 (wr.alloc (.cells #[.string s, .int .i64 (q : Int)] 87)).drew) := Lib.hid ((HBL.out.alloc _).drew)
        have PC := Lib.hid (pair_cells' wr 87 (.string s) (.int .i64 (q : Int)) wr.heap.size rfl)
        clear hs hq
        go_wp2_with fail
        clear e1 d0 d1
        go_region_held3 (fun W => W.cell? ⟨N, 2, none⟩ = some (.slice (some ⟨b, o, none⟩) cs.length c) ∧ W.cell? ⟨b, o + k * 2, none⟩ = some (.string s) ∧ W.cell? ⟨b, o + k * 2 + 1, none⟩ = some (.int .i64 (n : Int)))
          (first | exact ST.out _ E0.out | exact ST.out _ BA.out | exact ST.out _ B5.out)
          (first
            | (refine step_append_two Try.underlying28 infoRefCount rfl (by decide) (by decide) rfl (.tmp 19) (.tmp 34) rfl rfl (N + 1 + 1) _ _ _ wr.heap.size 0 1 1 [.string s, .int .i64 (q : Int)] rfl rfl OA.out rfl PC.out (by intro y hy; simp at hy; rcases hy with rfl | rfl <;> rfl) (by have := HFL.out; omega) BA.out.2 ?_; intro v5 w5 own5 gr5; have b5 := BA.out.grownRow OA.out (Nat.le_refl _) gr5; have B5 := Lib.hid b5; have O5 := Lib.hid own5; clear own5 gr5 b5))
        all_goals
          go_wp2_with fail
          refine ⟨⟨k + 1, _, rfl, by go_num, by omega, Lib.hid ?_, B5⟩, by simp [intOf]; omega⟩
          rw [HF.out, pC_append, flat2_append, List.length_append]
          exact O5.out
      · have i2 : ¬ (1 : Int) < (n : Int) := by omega
        have HF := Lib.hid (show halvedC (cs.take (k + 1)) = halvedC (cs.take k) by rw [HST.out, halved_snoc, if_neg hs, List.append_nil])
        clear hs
        go_wp2_with fail
        refine ⟨⟨k + 1, _, rfl, by go_num, by omega, Lib.hid (by rw [HF.out]; exact HO.out), HBL⟩, by simp [intOf]; omega⟩
    · obtain rfl : k = cs.length := by omega
      rw [List.take_length] at HO
      have hO := HO.out
      obtain ⟨A', c', hv, _⟩ := Rp.of_own hO
      subst hv
      obtain ⟨LL, hLL⟩ : ∃ l, l = pC (halvedC cs) := ⟨_, rfl⟩
      rw [← hLL] at hO ⊢
      have HLL := Lib.hid hLL
      have e0 : wr.cell? ⟨N, 0, none⟩ = some (.int .i64 z) := by rw [C0.out.cell]; rfl
      have e1' : wr.cell? ⟨N, 1, none⟩ = some (.slice A mA cA) := by rw [C0.out.cell]; rfl
      have e3 : wr.cell? ⟨N, 3, none⟩ = some (.int .i64 ak) := by rw [C0.out.cell]; rfl
      have f2 := C0.out.frozen 2
      have f3 := C0.out.frozen 3
      have r0 : wr.cell? ⟨N + 1, 0, none⟩ = some (.int .i64 0) := by rw [C2.out.cell]; rfl
      have r1 : wr.cell? ⟨N + 1, 1, none⟩ = some (.slice none 0 0) := by rw [C2.out.cell]; rfl
      have r2 : wr.cell? ⟨N + 1, 2, none⟩ = some (.slice none 0 0) := by rw [C2.out.cell]; rfl
      have r3 : wr.cell? ⟨N + 1, 3, none⟩ = some (.int .i64 0) := by rw [C2.out.cell]; rfl
      have g0 := C2.out.frozen 0
      have g1 := C2.out.frozen 1
      have g2 := C2.out.frozen 2
      have g3 := C2.out.frozen 3
      have k2 := (C2.out.other (p := ⟨N, 2, none⟩) (by simp) (.slice A' LL.length c')).other (p := ⟨N, 3, none⟩) (by simp) (.int .i64 0)
      have hbl := B3.out.call HB3.out
      have h4 := end4 k2 ((hbl.setCell (p := ⟨N, 2, none⟩) (Nat.le_refl _) (.slice A' LL.length c')).setCell (p := ⟨N, 3, none⟩) (Nat.le_refl _) (.int .i64 0)) (by omega) (.int .i64 z) (.slice A mA cA) (.slice A' LL.length c') (.int .i64 0)
      have F1 : Far (fun i => i = N) wr ((wr.setCell ⟨N, 2, none⟩ (.slice A' LL.length c')).setCell ⟨N, 3, none⟩ (.int .i64 0)) := ((Far.refl (fun i => i = N) wr).setCell (p := ⟨N, 2, none⟩) (fun _ => rfl) _).setCell (p := ⟨N, 3, none⟩) (fun _ => rfl) _
      have hown : ∀ i, (Value.slice A' LL.length c').ownBlock = some i → N + 1 + 1 ≤ i := fun i hi => (hO.lt i hi).1
      have h5 := own_far (own_far hO F1 (fun i hi e => by have := hown i hi; omega)) h4.2.2 (fun i hi e => by have := hown i hi; omega)
      have H4 := Lib.hid h4
      have H5 := Lib.hid h5
      clear hO hLL k2 hbl h4 h5 F1 hown HO
      go_wp2_with fail
      refine bodyPost_ret (results_c1 rfl _ _ _ rfl H4.out.1.four) rfl ⟨_, rfl, by rw [← HLL.out]; exact Rp.of_own H5.out, ?_⟩
      have := H4.out.2.1.1
      rw [← HN.out]
      exact this
end Go.Proofs.Ytplahkhohhbgaaa
