/-
  The document's answer for cache (guillocheref07): counted, halved.
-/
import Derived.Test.YtplahkhohhbgaaaCacheRf2
import Derived.Deep.CutBlock
namespace Go.Proofs.Cch
def upF (key : ByteArray) (p : ByteArray × Nat) : ByteArray × Nat := if p.1 = key then (p.1, min (p.2 + 1) 15) else p
def cntdF (cs : Counts) (key : ByteArray) : Counts := cs.map (upF key) ++ if hasC cs key = true then [] else [(key, 1)]
theorem cntd_put {cs : Counts} (hn : (cs.map Prod.fst).Nodup) (key : ByteArray) : cntdF cs key = putC cs key (min (cntAt cs key + 1) 15) := by
  unfold cntdF putC
  rcases h : hasC cs key with _ | _
  · have h1 : cs.map (upF key) = cs := by
      conv => rhs; rw [← List.map_id cs]
      refine List.map_congr_left (fun p hp => ?_)
      unfold upF
      rw [if_neg]
      · rfl
      · intro e
        have : hasC cs key = true := hasC_iff.2 ⟨p.2, by rw [← e]; exact hp⟩
        rw [h] at this
        cases this
    rw [h1, cntAt_none h]
    rfl
  · rw [if_pos rfl, if_pos rfl, List.append_nil]
    refine List.map_congr_left (fun p hp => ?_)
    unfold upF
    by_cases e : p.1 = key
    · rw [if_pos e, if_pos e, cntAt_mem hn (c := p.2) (by rw [← e]; exact hp)]
    · rw [if_neg e, if_neg e]
theorem hasC_snoc (l : Counts) (p : ByteArray × Nat) (key : ByteArray) : hasC (l ++ [p]) key = (hasC l key || decide (p.1 = key)) := by
  unfold hasC
  simp
end Go.Proofs.Cch
namespace Go.Proofs.Ytplahkhohhbgaaa
open Go.RowKit Go.Proofs.Cch
set_option linter.unusedVariables false
set_option linter.unusedSimpArgs false
theorem pair_cells' (W : World) (T : TypeId) (x y : Value) (N : Nat) (hN : W.heap.size = N) : ∀ j u, [x, y][j]? = some u → (W.alloc (.cells #[x, y] T)).cell? ⟨N, 0 + j, none⟩ = some u := by
  subst hN
  exact pair_cells W T x y
set_option maxRecDepth 100000 in
set_option maxHeartbeats 1000000 in
theorem rccounted_any (z : Int) (A : Option Addr) (mA cA : Nat) (vC : Value) (cs : Counts) (ak : Int) (key : ByteArray) (w : World) (hC : Rp w vC (pC cs)) (hl : cs.length ≤ 100000) (h15 : ∀ p ∈ cs, p.2 ≤ 15) (ha : 0 ≤ ak) (ha2 : ak ≤ 100000) :
    Calls Try.prog 45 #[.agg #[.int .i64 z, .slice A mA cA, vC, .int .i64 ak], .string key] w fun e w' => ∃ v', e = .returned (.agg #[.int .i64 z, .slice A mA cA, v', .int .i64 (ak + 1)]) ∧ Rp w' v' (pC (cntdF cs key)) ∧ Below w.heap.size w w' := by
  obtain ⟨C, c, rfl, hT, _, _⟩ := hC
  rw [pC_length]
  obtain ⟨N, hN⟩ : ∃ N, N = w.heap.size := ⟨_, rfl⟩
  obtain ⟨W3, hW3⟩ : ∃ W, W = (w.alloc (.cells #[.int .i64 z, .slice A mA cA, .slice C cs.length c, .int .i64 ak] 30)).alloc (.cells #[.int .i64 0, .slice none 0 0, .slice none 0 0, .int .i64 0] 30) := ⟨_, rfl⟩
  have hs3 : W3.heap.size = N + 1 + 1 := by rw [hW3, hN]; simp
  have b0 : Blk W3 N 30 #[.int .i64 z, .slice A mA cA, .slice C cs.length c, .int .i64 ak] := by rw [hW3, hN]; exact (Blk.new w _ _).alloc _
  have b2 : Blk W3 (N + 1) 30 #[.int .i64 0, .slice none 0 0, .slice none 0 0, .int .i64 0] := by
    rw [hW3, hN]
    have := Blk.new (w.alloc (.cells #[.int .i64 z, .slice A mA cA, .slice C cs.length c, .int .i64 ak] 30)) 30 #[.int .i64 0, .slice none 0 0, .slice none 0 0, .int .i64 0]
    simpa using this
  have b3 : Bl N w W3 := by rw [hW3, hN]; exact ((Bl.start w).alloc _).alloc _
  have hT3 : Tp W3 C (pC cs) := hT.below (by rw [← hN]; exact b3.1)
  have HW3 := Lib.hid hW3
  have HN := Lib.hid hN
  have B0 := Lib.hid b0
  have B2 := Lib.hid b2
  have B3 := Lib.hid b3
  have HT := Lib.hid hT3
  have HS3 := Lib.hid hs3
  have H15 := Lib.hid h15
  clear hN hW3 b0 b2 b3 hT hT3 hs3 h15
  go_enter Try.func45, Try.ntmps45
  go_wp2_with fail
  rw [← HW3.out, ← HN.out]
  go_loopw [5, 6, 7, 8] (fun vl vt vi _ wr => ∃ k : Nat, vi = .int .i64 (k : Int) ∧ k ≤ cs.length ∧ vt = .bool (hasC (cs.take k) key) ∧ Hid (wr.ownsRow (N + 1 + 1) 87 2 vl (pC ((cs.take k).map (upF key))).length (flat2 (pC ((cs.take k).map (upF key))))) ∧ Hid (Bl (N + 1 + 1) W3 wr)) (fun _ _ vi _ _ => cs.length - (intOf vi).toNat)
  case atStart => exact ⟨0, rfl, Nat.zero_le _, by simp [hasC], Lib.hid ⟨rfl, .inl ⟨rfl, rfl⟩⟩, Lib.hid (by have := Bl.start W3; rw [HS3.out] at this; exact this)⟩
  case round =>
    obtain ⟨k, rfl, hk, rfl, HO, HBL⟩ := hrel
    have HB3 : Hid (Below W3.heap.size W3 wr) := Lib.hid (by have := HBL.out.1; rw [HS3.out]; exact this)
    have C0 := Lib.hid (B0.out.below HB3.out)
    have C2 := Lib.hid (B2.out.below HB3.out)
    have e1 : wr.cell? ⟨N, 2, none⟩ = some (.slice C cs.length c) := by rw [C0.out.cell]; rfl
    by_cases hlt : k < cs.length
    · obtain ⟨⟨s, n⟩, hx⟩ : ∃ x, cs[k]? = some x := ⟨_, List.getElem?_eq_getElem hlt⟩
      obtain ⟨b, o, rfl, hbl, d0, d1⟩ := (HT.out.below HB3.out).at_ k _ (pC_at hx)
      simp only at d0 d1
      have hst : cs.take (k + 1) = cs.take k ++ [(s, n)] := by rw [List.take_add_one, hx]; rfl
      have hn15 : n ≤ 15 := H15.out (s, n) (List.mem_of_getElem? hx)
      have i1 : (k : Int) < (cs.length : Int) := by omega
      have wk : IntKind.i64.wrap ((k : Int) + 1) = (k : Int) + 1 := IntWalk.i64_in _ (by omega)
      have hfl : (pC ((cs.take k).map (upF key))).length ≤ 100000 := by rw [pC_length, List.length_map, List.length_take]; omega
      have HST := Lib.hid hst
      have HFL := Lib.hid hfl
      clear hst hx hfl
      by_cases hs : s = key
      · have hbe : (s.toList == key.toList) = true := by rw [bytes_eq]; simp [hs]
        have HF := Lib.hid (show (cs.take (k + 1)).map (upF key) = (cs.take k).map (upF key) ++ [(s, min (n + 1) 15)] by rw [HST.out, List.map_append]; simp [upF, hs])
        have HH := Lib.hid (show hasC (cs.take (k + 1)) key = true by rw [HST.out, hasC_snoc]; simp [hs])
        obtain ⟨q, hq⟩ : ∃ q, q = min (n + 1) 15 := ⟨_, rfl⟩
        have hmin : min ((n : Int) + 1) 15 = (q : Int) := by omega
        rw [← hq] at HF
        have wn : IntKind.i64.wrap ((n : Int) + 1) = (n : Int) + 1 := IntWalk.i64_in _ (by omega)
        clear hs hq
        have OA : Hid (((wr.alloc (.cells #[.string s, .int .i64 (q : Int)] 87)).alloc (.cells #[.string s, .int .i64 (q : Int)] 87)).ownsRow (N + 1 + 1) 87 2 _ _ _) := Lib.hid (World.ownsRow.alloc (World.ownsRow.alloc HO.out _) _)
        have BA : Hid (Bl (N + 1 + 1) W3 ((wr.alloc (.cells #[.string s, .int .i64 (q : Int)] 87)).alloc (.cells #[.string s, .int .i64 (q : Int)] 87))) := Lib.hid ((HBL.out.alloc _).alloc _)
        have PC := Lib.hid (pair_cells' (wr.alloc (.cells #[.string s, .int .i64 (q : Int)] 87)) 87 (.string s) (.int .i64 (q : Int)) (wr.heap.size + 1) (by simp))
        go_wp2_with (at_builtin; (refine wpList_append_two Try.underlying28 infoRefCount rfl (by decide) (by decide) rfl _ _ rfl rfl (N + 1 + 1) _ _ _ (wr.heap.size + 1) 0 1 1 [.string s, .int .i64 (q : Int)] rfl rfl OA.out rfl PC.out (by intro y hy; simp at hy; rcases hy with rfl | rfl <;> rfl) (by have := HFL.out; omega) BA.out.2 ?_; intro v5 w5 own5 gr5; have b5 := BA.out.grownRow OA.out (Nat.le_refl _) gr5; have B5 := Lib.hid b5; have O5 := Lib.hid own5; clear own5 gr5 b5))
        refine ⟨⟨k + 1, by go_num, by omega, by rw [HH.out], Lib.hid ?_, B5⟩, by simp [intOf]; omega⟩
        rw [HF.out, pC_append, flat2_append, List.length_append]
        exact O5.out
      · have hbe : (s.toList == key.toList) = false := by rw [bytes_eq]; simp [hs]
        have HF := Lib.hid (show (cs.take (k + 1)).map (upF key) = (cs.take k).map (upF key) ++ [(s, n)] by rw [HST.out, List.map_append]; simp [upF, hs])
        have HH := Lib.hid (show hasC (cs.take (k + 1)) key = hasC (cs.take k) key by rw [HST.out, hasC_snoc]; simp [hs])
        clear hs
        have OA : Hid (((wr.alloc (.cells #[.string s, .int .i64 (n : Int)] 87)).alloc (.cells #[.string s, .int .i64 (n : Int)] 87)).ownsRow (N + 1 + 1) 87 2 _ _ _) := Lib.hid (World.ownsRow.alloc (World.ownsRow.alloc HO.out _) _)
        have BA : Hid (Bl (N + 1 + 1) W3 ((wr.alloc (.cells #[.string s, .int .i64 (n : Int)] 87)).alloc (.cells #[.string s, .int .i64 (n : Int)] 87))) := Lib.hid ((HBL.out.alloc _).alloc _)
        have PC := Lib.hid (pair_cells' (wr.alloc (.cells #[.string s, .int .i64 (n : Int)] 87)) 87 (.string s) (.int .i64 (n : Int)) (wr.heap.size + 1) (by simp))
        go_wp2_with (at_builtin; (refine wpList_append_two Try.underlying28 infoRefCount rfl (by decide) (by decide) rfl _ _ rfl rfl (N + 1 + 1) _ _ _ (wr.heap.size + 1) 0 1 1 [.string s, .int .i64 (n : Int)] rfl rfl OA.out rfl PC.out (by intro y hy; simp at hy; rcases hy with rfl | rfl <;> rfl) (by have := HFL.out; omega) BA.out.2 ?_; intro v5 w5 own5 gr5; have b5 := BA.out.grownRow OA.out (Nat.le_refl _) gr5; have B5 := Lib.hid b5; have O5 := Lib.hid own5; clear own5 gr5 b5))
        refine ⟨⟨k + 1, by go_num, by omega, by rw [HH.out], Lib.hid ?_, B5⟩, by simp [intOf]; omega⟩
        rw [HF.out, pC_append, flat2_append, List.length_append]
        exact O5.out
    · obtain rfl : k = cs.length := by omega
      rw [List.take_length] at HO
      rw [List.take_length]
      obtain ⟨TB, hTB⟩ : ∃ b, b = hasC cs key := ⟨_, rfl⟩
      rw [← hTB]
      rcases TB with _ | _
      · have hcn : cs.map (upF key) ++ [(key, 1)] = cntdF cs key := by unfold cntdF; rw [← hTB]; rfl
        have hfl : (pC (cs.map (upF key))).length ≤ 100000 := by rw [pC_length, List.length_map]; omega
        have HFL := Lib.hid hfl
        have HCN := Lib.hid hcn
        have OA : Hid ((wr.alloc (.cells #[.string key, .int .i64 1] 87)).ownsRow (N + 1 + 1) 87 2 _ _ _) := Lib.hid (World.ownsRow.alloc HO.out _)
        have BA : Hid (Bl (N + 1 + 1) W3 (wr.alloc (.cells #[.string key, .int .i64 1] 87))) := Lib.hid (HBL.out.alloc _)
        have PC := Lib.hid (pair_cells wr 87 (.string key) (.int .i64 1))
        clear hTB hfl hcn HB3 C0 C2
        go_upto_region 13 with (at_builtin; (refine wpList_append_two Try.underlying28 infoRefCount rfl (by decide) (by decide) rfl _ _ rfl rfl (N + 1 + 1) _ _ _ wr.heap.size 0 1 1 [.string key, .int .i64 1] rfl rfl OA.out rfl PC.out (by intro y hy; simp at hy; rcases hy with rfl | rfl <;> rfl) (by have := HFL.out; omega) BA.out.2 ?_; intro v5 w5 own5 gr5; have b5 := BA.out.grownRow OA.out (Nat.le_refl _) gr5; have B5 := Lib.hid b5; have O5 := Lib.hid own5; clear own5 gr5 b5))
        have HO5 := Lib.hid (show w5.ownsRow (N + 1 + 1) 87 2 v5 (pC (cntdF cs key)).length (flat2 (pC (cntdF cs key))) by
          rw [← HCN.out, pC_append, flat2_append, List.length_append]
          exact O5.out)
        clear O5 OA BA PC HO HBL e1
        have HB3 : Hid (Below W3.heap.size W3 w5) := Lib.hid (by have := B5.out.1; rw [HS3.out]; exact this)
        have C0 := Lib.hid (B0.out.below HB3.out)
        have C2 := Lib.hid (B2.out.below HB3.out)
        have hO := HO5.out
        obtain ⟨A', c', hv, _⟩ := Rp.of_own hO
        subst hv
        obtain ⟨LL, hLL⟩ : ∃ l, l = pC (cntdF cs key) := ⟨_, rfl⟩
        rw [← hLL] at hO ⊢
        have HLL := Lib.hid hLL
        have wa : IntKind.i64.wrap (ak + 1) = ak + 1 := IntWalk.i64_in _ (by omega)
        have e0 : w5.cell? ⟨N, 0, none⟩ = some (.int .i64 z) := by rw [C0.out.cell]; rfl
        have e1 : w5.cell? ⟨N, 1, none⟩ = some (.slice A mA cA) := by rw [C0.out.cell]; rfl
        have e2c : w5.cell? ⟨N, 2, none⟩ = some (.slice C cs.length c) := by rw [C0.out.cell]; rfl
        have e3 : w5.cell? ⟨N, 3, none⟩ = some (.int .i64 ak) := by rw [C0.out.cell]; rfl
        have f2 := C0.out.frozen 2
        have f3 := C0.out.frozen 3
        have r0 : w5.cell? ⟨N + 1, 0, none⟩ = some (.int .i64 0) := by rw [C2.out.cell]; rfl
        have r1 : w5.cell? ⟨N + 1, 1, none⟩ = some (.slice none 0 0) := by rw [C2.out.cell]; rfl
        have r2 : w5.cell? ⟨N + 1, 2, none⟩ = some (.slice none 0 0) := by rw [C2.out.cell]; rfl
        have r3 : w5.cell? ⟨N + 1, 3, none⟩ = some (.int .i64 0) := by rw [C2.out.cell]; rfl
        have g0 := C2.out.frozen 0
        have g1 := C2.out.frozen 1
        have g2 := C2.out.frozen 2
        have g3 := C2.out.frozen 3
        have k2 := (C2.out.other (p := ⟨N, 2, none⟩) (by simp) (.slice A' LL.length c')).other (p := ⟨N, 3, none⟩) (by simp) (.int .i64 (ak + 1))
        have hbl := B3.out.call HB3.out
        have h4 := end4 k2 ((hbl.setCell (p := ⟨N, 2, none⟩) (Nat.le_refl _) (.slice A' LL.length c')).setCell (p := ⟨N, 3, none⟩) (Nat.le_refl _) (.int .i64 (ak + 1))) (by omega) (.int .i64 z) (.slice A mA cA) (.slice A' LL.length c') (.int .i64 (ak + 1))
        have F1 : Far (fun i => i = N) w5 ((w5.setCell ⟨N, 2, none⟩ (.slice A' LL.length c')).setCell ⟨N, 3, none⟩ (.int .i64 (ak + 1))) := ((Far.refl (fun i => i = N) w5).setCell (p := ⟨N, 2, none⟩) (fun _ => rfl) _).setCell (p := ⟨N, 3, none⟩) (fun _ => rfl) _
        have hown : ∀ i, (Value.slice A' LL.length c').ownBlock = some i → N + 1 + 1 ≤ i := fun i hi => (hO.lt i hi).1
        have h5 := own_far (own_far hO F1 (fun i hi e => by have := hown i hi; omega)) h4.2.2 (fun i hi e => by have := hown i hi; omega)
        have H4 := Lib.hid h4
        have H5 := Lib.hid h5
        clear hO hLL k2 hbl h4 h5 F1 hown HO5
        go_wp2_with fail
        refine bodyPost_ret (results_c1 rfl _ _ _ rfl H4.out.1.four) rfl ⟨_, rfl, by rw [← HLL.out]; exact Rp.of_own H5.out, ?_⟩
        have := H4.out.2.1.1
        rw [← HN.out]
        exact this
      · have hcn : cs.map (upF key) = cntdF cs key := by unfold cntdF; rw [← hTB]; simp
        rw [hcn] at HO
        clear hTB hcn HB3 C0 C2
        have HB3 : Hid (Below W3.heap.size W3 wr) := Lib.hid (by have := HBL.out.1; rw [HS3.out]; exact this)
        have C0 := Lib.hid (B0.out.below HB3.out)
        have C2 := Lib.hid (B2.out.below HB3.out)
        have E12 := Lib.hid e1
        have hO := HO.out
        obtain ⟨A', c', hv, _⟩ := Rp.of_own hO
        subst hv
        obtain ⟨LL, hLL⟩ : ∃ l, l = pC (cntdF cs key) := ⟨_, rfl⟩
        rw [← hLL] at hO ⊢
        have HLL := Lib.hid hLL
        have wa : IntKind.i64.wrap (ak + 1) = ak + 1 := IntWalk.i64_in _ (by omega)
        have e0 : wr.cell? ⟨N, 0, none⟩ = some (.int .i64 z) := by rw [C0.out.cell]; rfl
        have e1' : wr.cell? ⟨N, 1, none⟩ = some (.slice A mA cA) := by rw [C0.out.cell]; rfl
        have e3 : wr.cell? ⟨N, 3, none⟩ = some (.int .i64 ak) := by rw [C0.out.cell]; rfl
        have f2 := C0.out.frozen 2
        have f3 := C0.out.frozen 3
        have r0 : wr.cell? ⟨N + 1, 0, none⟩ = some (.int .i64 0) := by rw [C2.out.cell]; rfl
        have r1 : wr.cell? ⟨N + 1, 1, none⟩ = some (.slice none 0 0) := by rw [C2.out.cell]; rfl
        have r2 : wr.cell? ⟨N + 1, 2, none⟩ = some (.slice none 0 0) := by rw [C2.out.cell]; rfl
        have r3 : wr.cell? ⟨N + 1, 3, none⟩ = some (.int .i64 0) := by rw [C2.out.cell]; rfl
        have g0 := C2.out.frozen 0
        have g1 := C2.out.frozen 1
        have g2 := C2.out.frozen 2
        have g3 := C2.out.frozen 3
        have k2 := (C2.out.other (p := ⟨N, 2, none⟩) (by simp) (.slice A' LL.length c')).other (p := ⟨N, 3, none⟩) (by simp) (.int .i64 (ak + 1))
        have hbl := B3.out.call HB3.out
        have h4 := end4 k2 ((hbl.setCell (p := ⟨N, 2, none⟩) (Nat.le_refl _) (.slice A' LL.length c')).setCell (p := ⟨N, 3, none⟩) (Nat.le_refl _) (.int .i64 (ak + 1))) (by omega) (.int .i64 z) (.slice A mA cA) (.slice A' LL.length c') (.int .i64 (ak + 1))
        have F1 : Far (fun i => i = N) wr ((wr.setCell ⟨N, 2, none⟩ (.slice A' LL.length c')).setCell ⟨N, 3, none⟩ (.int .i64 (ak + 1))) := ((Far.refl (fun i => i = N) wr).setCell (p := ⟨N, 2, none⟩) (fun _ => rfl) _).setCell (p := ⟨N, 3, none⟩) (fun _ => rfl) _
        have hown : ∀ i, (Value.slice A' LL.length c').ownBlock = some i → N + 1 + 1 ≤ i := fun i hi => (hO.lt i hi).1
        have h5 := own_far (own_far hO F1 (fun i hi e => by have := hown i hi; omega)) h4.2.2 (fun i hi e => by have := hown i hi; omega)
        have H4 := Lib.hid h4
        have H5 := Lib.hid h5
        clear hO hLL k2 hbl h4 h5 F1 hown HO
        go_wp2_with fail
        refine bodyPost_ret (results_c1 rfl _ _ _ rfl H4.out.1.four) rfl ⟨_, rfl, by rw [← HLL.out]; exact Rp.of_own H5.out, ?_⟩
        have := H4.out.2.1.1
        rw [← HN.out]
        exact this
end Go.Proofs.Ytplahkhohhbgaaa
