/-
  Whether entries, whether a model is few.
-/
import Derived.Test.YtdahhnefcageeaaMdlFew
import Derived.Test.YtdahhnefcageeaaMdlRefT
namespace Go.Proofs.Ytdahhnefcageeaa
open Go.RowKit Go.Proofs.Mdl
set_option linter.unusedVariables false
set_option linter.unusedSimpArgs false
set_option maxRecDepth 100000 in
set_option maxHeartbeats 2000000 in
theorem fewE_any {w : World} {v : Value} {cs : List Ent} (h : Es w v cs) :
    Calls Try.prog 31 #[v] w (FewRes (cs.length ≤ 45) w) := by
  obtain ⟨A, c, rfl⟩ := h.shape
  obtain ⟨z, hz⟩ : ∃ z, z = cs.length := ⟨_, rfl⟩
  rw [← hz] at h ⊢
  have HN := Lib.hid hz
  have HE := Lib.hid h
  clear h hz
  go_enter Try.func31, Try.ntmps31
  go_wp2_with fail
  go_loopw [3] (fun vi wr => ∃ k : Nat, vi = .int .i64 (k : Int) ∧ k ≤ z ∧ k ≤ 46 ∧ Hid (wr = w)) (fun vi _ => 46 - (intOf vi).toNat)
  case atStart => exact ⟨0, rfl, Nat.zero_le _, Nat.zero_le _, Lib.hid rfl⟩
  case round =>
    obtain ⟨k, rfl, hk, h46, HW⟩ := hrel
    obtain rfl := HW.out
    clear HW
    by_cases hlt : k < z
    · by_cases h45 : k ≤ 45
      · obtain ⟨x, hx⟩ : ∃ x, cs[k]? = some x := ⟨_, List.getElem?_eq_getElem (by rw [← HN.out]; exact hlt)⟩
        obtain ⟨b, o, c', hv, hbl, d0, d1⟩ := HE.out.at_ hx
        simp only [Value.slice.injEq] at hv
        obtain ⟨rfl, -, -⟩ := hv
        have i1 : (k : Int) < (z : Int) := by omega
        have i2 : (k : Int) ≤ 45 := by omega
        have wk : IntKind.i64.wrap ((k : Int) + 1) = (k : Int) + 1 := IntWalk.i64_in _ (by omega)
        clear hx
        go_wp2_with fail
        case roundEnd => exact ⟨⟨k + 1, rfl, hlt, by omega, Lib.hid trivial⟩, by simp [intOf]; omega⟩
        all_goals
          go_ret
          exact ⟨⟨false, rfl, (fun h => by cases h), rfl⟩⟩
      · have i1 : (k : Int) < (z : Int) := by omega
        have i2 : ¬ (k : Int) ≤ 45 := by omega
        have i3 : ¬ (z : Int) ≤ 45 := by omega
        go_wp2_with fail
        go_ret
        exact ⟨⟨false, rfl, (fun h => by cases h), rfl⟩⟩
    · have i1 : ¬ (k : Int) < (z : Int) := by omega
      go_wp2_with fail
      go_ret
      exact ⟨⟨decide ((z : Int) ≤ 45), rfl, (fun h => by have := of_decide_eq_true h; have := HN.out; omega), rfl⟩⟩
/-- .. memory may grow. -/
structure FewRes2 (Q : Prop) (w : World) (e : Ending) (w' : World) : Prop where
  out : ∃ b, e = .returned (.bool b) ∧ (b = true → Q) ∧ Below w.heap.size w w'
set_option maxRecDepth 100000 in
set_option maxHeartbeats 2000000 in
theorem fewM_any {N : Nat → Prop} {w : World} {v : Value} {M : Mod} (h : Md N w v M) :
    Calls Try.prog 10 #[v] w (FewRes2 (M.all.length ≤ 12 ∧ ∀ V ∈ M.all, V.e.length ≤ 45 ∧ V.c.length ≤ 45) w) := by
  obtain ⟨u, rfl, hv⟩ := h
  obtain ⟨A, c, rfl⟩ := hv.shape
  obtain ⟨z, hz⟩ : ∃ z, z = M.all.length := ⟨_, rfl⟩
  have HZ := Lib.hid hz
  have bl := (Below.refl w.heap.size w).alloc (Nat.le_refl _) (.cells #[.int .i64 M.w, .int .i64 M.n, .slice A M.all.length c] 24)
  have HV := Lib.hid (hv.below bl)
  have BX := Lib.hid (Blk.new w 24 #[.int .i64 M.w, .int .i64 M.n, .slice A M.all.length c])
  have B1 := Lib.hid bl
  rw [← hz] at HV BX B1 ⊢
  clear hv bl hz
  go_enter Try.func10, Try.ntmps10
  go_upto_region 2 with (fail)
  generalize w.alloc (.cells #[.int .i64 M.w, .int .i64 M.n, .slice A z c] 24) = w1 at *
  obtain ⟨g, hg⟩ : ∃ g, g = w.heap.size := ⟨_, rfl⟩
  rw [← hg] at BX ⊢
  clear hg
  have q2 := BX.out.cell 2
  simp only [List.getElem?_toArray, List.getElem?_cons_succ, List.getElem?_cons_zero] at q2
  go_loopw [3, 4] (fun vi _ wr => ∃ k : Nat, vi = .int .i64 (k : Int) ∧ k ≤ z ∧ k ≤ 13 ∧ Hid (wr = w1) ∧ Hid (∀ V ∈ M.all.take k, V.e.length ≤ 45 ∧ V.c.length ≤ 45)) (fun vi _ _ => 13 - (intOf vi).toNat)
  case atStart => exact ⟨0, rfl, Nat.zero_le _, Nat.zero_le _, Lib.hid rfl, Lib.hid (fun a ha => by cases ha)⟩
  case round =>
    obtain ⟨k, rfl, hk, h46, HW, HF⟩ := hrel
    obtain rfl := HW.out
    clear HW
    have wk : IntKind.i64.wrap ((k : Int) + 1) = (k : Int) + 1 := IntWalk.i64_in _ (by omega)
    by_cases hlt : k < z
    · have i1 : (k : Int) < (z : Int) := by omega
      by_cases h45 : k ≤ 12
      · obtain ⟨V, hV⟩ : ∃ V, M.all[k]? = some V := ⟨_, List.getElem?_eq_getElem (by rw [← HZ.out]; exact hlt)⟩
        obtain ⟨b, o, cV, ve, vc, he, hbl, hve, hvc, d0, d1, d2, d3⟩ := HV.out.at_ hV
        rw [← HZ.out] at he
        simp only [Value.slice.injEq] at he
        obtain ⟨rfl, -, rfl⟩ := he
        have FE := Lib.hid (fewE_any hve.toEs)
        have FC := Lib.hid (fewC_any hvc.toCs)
        obtain ⟨Ae, ce, rfl⟩ := hve.toEs.shape
        obtain ⟨Ac, cc, rfl⟩ := hvc.toCs.shape
        have HX := Lib.hid hV
        have i2 : (k : Int) ≤ 12 := by omega
        clear hV hve hvc
        go_wp2_with fail
        refine FE.out.mono ?_
        rintro e w2 ⟨⟨be, rfl, hbe, rfl⟩⟩
        have HBE := Lib.hid hbe
        clear hbe
        cases be with
        | false =>
          go_wp2_with fail
          go_ret
          exact ⟨⟨false, rfl, (fun h => by cases h), B1.out⟩⟩
        | true =>
          go_wp2_with fail
          refine FC.out.mono ?_
          rintro e w3 ⟨⟨bc, rfl, hbc, rfl⟩⟩
          have HBC := Lib.hid hbc
          clear hbc
          cases bc with
          | false =>
            go_wp2_with fail
            go_ret
            exact ⟨⟨false, rfl, (fun h => by cases h), B1.out⟩⟩
          | true =>
            go_wp2_with fail
            refine ⟨⟨k + 1, by go_num, by omega, by omega, Lib.hid (by first | rfl | trivial), Lib.hid (fun a ha => ?_)⟩, by simp [intOf]; omega⟩
            rw [List.take_add_one, HX.out, Option.toList_some] at ha
            rcases List.mem_append.1 ha with ha | ha
            · exact HF.out a ha
            · rw [List.mem_singleton.1 ha]; exact ⟨HBE.out (by first | rfl | trivial), HBC.out (by first | rfl | trivial)⟩
      · have i2 : ¬ (k : Int) ≤ 12 := by omega
        have i3 : ¬ (z : Int) ≤ 12 := by omega
        go_wp2_with fail
        go_ret
        exact ⟨⟨false, rfl, (fun h => by cases h), B1.out⟩⟩
    · have i1 : ¬ (k : Int) < (z : Int) := by omega
      obtain rfl : k = z := by omega
      go_wp2_with fail
      go_ret
      refine ⟨⟨decide ((k : Int) ≤ 12), rfl, fun h => ⟨by have := of_decide_eq_true h; have := HZ.out; omega, ?_⟩, B1.out⟩⟩
      have := HF.out
      rwa [HZ.out, List.take_length] at this
set_option maxRecDepth 100000 in
set_option maxHeartbeats 2000000 in
theorem rat_any {N : Nat → Prop} {w : World} {v : Value} {M : Mod} {blk : Int} (h : Md N w v M) (hl : M.all.length ≤ 1000) (hle : ∀ V ∈ M.all, V.e.length ≤ 1000) :
    Calls Try.prog 19 #[v, .int .i64 blk] w fun e w' => ∃ v', e = .returned (.tuple #[v', .int .i64 (atM M blk).2]) ∧ Es w' v' (atM M blk).1 ∧ Below w.heap.size w w' := by
  have H := Lib.hid h
  obtain ⟨u, rfl, hv⟩ := h
  obtain ⟨A, c, rfl⟩ := hv.shape
  have B1 := Lib.hid (Blk.new w 37 #[.int .i64 M.w, .int .i64 M.n, .slice A M.all.length c])
  have bb : Below w.heap.size w (w.alloc (.cells #[.int .i64 M.w, .int .i64 M.n, .slice A M.all.length c] 37)) := (Below.refl _ _).alloc (Nat.le_refl _) _
  have BB := Lib.hid bb
  have VD := Lib.hid (rvalid_any (H.out.below bb) hl hle)
  have FN := Lib.hid (fun W (hW : Below w.heap.size w W) => rfind_any (blk := blk) (H.out.below hW) hl)
  obtain ⟨g, hg⟩ : ∃ g, g = w.heap.size := ⟨_, rfl⟩
  have HG := Lib.hid hg
  cases hvd : validM M with
  | false =>
    have HA : Hid (atM M blk = ([], 1)) := Lib.hid (by unfold atM; rw [hvd]; rfl)
    rw [hvd] at VD
    clear hvd hv bb
    go_enter Try.func19, Try.ntmps19
    go_wp2_with ((go_at_call 16; refine VD.out.mono ?_; rintro e w3 ⟨rfl, hb⟩; have B3 := Lib.hid (bel_trans' BB.out hb); clear hb))
    go_ret2
    exact ⟨_, by rw [HA.out]; rfl, by rw [HA.out]; exact Es.nil _, B3.out⟩
  | true =>
    rw [hvd] at VD
    cases hi : idxB M.all blk with
    | none =>
      have HA : Hid (atM M blk = ([], 4)) := Lib.hid (by unfold atM verB; rw [hvd, hi]; rfl)
      rw [hi] at FN
      simp only [idxI] at FN
      clear hvd hi hv bb
      go_enter Try.func19, Try.ntmps19
      go_upto_region 1 with (fail)
      rw [← hg] at B1
      rw [← hg]
      clear hg
      generalize w.alloc (.cells #[.int .i64 M.w, .int .i64 M.n, .slice A M.all.length c] 37) = w1 at *
      have q0 := B1.out.cell 0
      have q1 := B1.out.cell 1
      have q2 := B1.out.cell 2
      simp only [List.getElem?_toArray, List.getElem?_cons_succ, List.getElem?_cons_zero] at q0 q1 q2
      go_wp2_with (first
        | (go_at_call 16; refine VD.out.mono ?_; rintro e w3 ⟨rfl, hb⟩; have B3 := Lib.hid (bel_trans' BB.out hb); have X3 := Lib.hid (B1.out.below hb); clear hb q0 q1 q2; have q0 := X3.out.cell 0; have q1 := X3.out.cell 1; have q2 := X3.out.cell 2; simp only [List.getElem?_toArray, List.getElem?_cons_succ, List.getElem?_cons_zero] at q0 q1 q2)
        | (go_at_call 42; refine (FN.out _ B3.out).mono ?_; rintro e w4 ⟨rfl, hb⟩; have B4 := Lib.hid (bel_trans' B3.out hb); clear hb))
      go_ret2
      exact ⟨_, by rw [HA.out]; rfl, by rw [HA.out]; exact Es.nil _, B4.out⟩
    | some k =>
      obtain ⟨V, hV, hVb⟩ := idxB_get hi
      have HA : Hid (atM M blk = (V.e, 0)) := Lib.hid (by unfold atM verB; rw [hvd, hi]; simp only [if_true, Option.bind_some, hV])
      rw [hi] at FN
      simp only [idxI] at FN
      have hkl := (List.getElem?_eq_some_iff.1 hV).1
      obtain ⟨bb', oo, cc, ve, vc, he, hbl, hve, hvc, d0, d1, d2, d3⟩ := hv.at_ hV
      simp only [Value.slice.injEq] at he
      obtain ⟨rfl, -, rfl⟩ := he
      obtain ⟨Ae, ce, rfl⟩ := hve.toEs.shape
      have VE := Lib.hid hve.toEs
      have VP : Hid (∀ W, Below w.heap.size w W → W.cell? ⟨bb', oo + k * 4 + 1, none⟩ = some (.slice Ae V.e.length ce)) := Lib.hid (fun W hW => (hW.cell (p := ⟨bb', _, none⟩) hbl).trans d1)
      have ik : (k : Int) < (M.all.length : Int) := by omega
      have ik0 : ¬ (k : Int) < 0 := by omega
      clear hvd hi hv bb hV hVb hve hvc d0 d1 d2 d3 hbl
      go_enter Try.func19, Try.ntmps19
      go_upto_region 1 with (fail)
      rw [← hg] at B1
      rw [← hg]
      clear hg
      generalize w.alloc (.cells #[.int .i64 M.w, .int .i64 M.n, .slice (some ⟨bb', oo, none⟩) M.all.length c] 37) = w1 at *
      have q0 := B1.out.cell 0
      have q1 := B1.out.cell 1
      have q2 := B1.out.cell 2
      simp only [List.getElem?_toArray, List.getElem?_cons_succ, List.getElem?_cons_zero] at q0 q1 q2
      go_wp2_with (first
        | (go_at_call 16; refine VD.out.mono ?_; rintro e w3 ⟨rfl, hb⟩; have B3 := Lib.hid (bel_trans' BB.out hb); have X3 := Lib.hid (B1.out.below hb); clear hb q0 q1 q2; have q0 := X3.out.cell 0; have q1 := X3.out.cell 1; have q2 := X3.out.cell 2; simp only [List.getElem?_toArray, List.getElem?_cons_succ, List.getElem?_cons_zero] at q0 q1 q2)
        | (go_at_call 42; refine (FN.out _ B3.out).mono ?_; rintro e w4 ⟨rfl, hb⟩; have B4 := Lib.hid (bel_trans' B3.out hb); have X4 := Lib.hid (X3.out.below hb); clear hb q0 q1 q2; have q2 := X4.out.cell 2; have d1 := VP.out _ B4.out; simp only [List.getElem?_toArray, List.getElem?_cons_succ, List.getElem?_cons_zero] at q2))
      go_ret2
      exact ⟨_, by rw [HA.out]; rfl, by rw [HA.out]; exact VE.out.below B4.out, B4.out⟩
set_option maxRecDepth 100000 in
set_option maxHeartbeats 2000000 in
theorem rbetween_any {N : Nat → Prop} {w : World} {v : Value} {M : Mod} {a b : Int} (h : Md N w v M) (hl : M.all.length ≤ 1000) (hle : ∀ V ∈ M.all, V.e.length ≤ 1000) :
    Calls Try.prog 21 #[v, .int .i64 a, .int .i64 b] w fun e w' => ∃ v', e = .returned (.tuple #[v', .int .i64 (betweenM M a b).2]) ∧ Cs w' v' (betweenM M a b).1 ∧ Below w.heap.size w w' := by
  have H := Lib.hid h
  have AT := Lib.hid (fun W (hW : Below w.heap.size w W) (x : Int) => rat_any (blk := x) (H.out.below hW) hl hle)
  have LA := Lib.hid (atM_len (b := a) hle)
  have LB := Lib.hid (atM_len (b := b) hle)
  obtain ⟨u, rfl, hv⟩ := h
  obtain ⟨A, c, rfl⟩ := hv.shape
  have B1 := Lib.hid (Blk.new w 37 #[.int .i64 M.w, .int .i64 M.n, .slice A M.all.length c])
  have BB : Hid (Below w.heap.size w (w.alloc (.cells #[.int .i64 M.w, .int .i64 M.n, .slice A M.all.length c] 37))) := Lib.hid ((Below.refl _ _).alloc (Nat.le_refl _) _)
  clear hv
  obtain ⟨X, hX⟩ : ∃ X, X = atM M a := ⟨_, rfl⟩
  obtain ⟨Y, hY⟩ : ∃ Y, Y = atM M b := ⟨_, rfl⟩
  have A1 := Lib.hid (fun W (hW : Below w.heap.size w W) => AT.out W hW a)
  have A2 := Lib.hid (fun W (hW : Below w.heap.size w W) => AT.out W hW b)
  rw [← hX] at A1 LA
  rw [← hY] at A2 LB
  obtain ⟨K, hK⟩ : ∃ K, K = betweenM M a b := ⟨_, rfl⟩
  rw [← hK]
  have HK : Hid (K = if X.2 = 0 then (if Y.2 = 0 then (diffM X.1 Y.1, 0) else ([], Y.2)) else ([], X.2)) := Lib.hid (by rw [hK, hX, hY]; rfl)
  clear hK hX hY
  obtain ⟨xe, xs⟩ := X
  obtain ⟨ye, ys⟩ := Y
  simp only at A1 A2 LA LB HK
  obtain ⟨g, hg⟩ : ∃ g, g = w.heap.size := ⟨_, rfl⟩
  by_cases hx : xs = 0
  · subst hx
    have x1 : ((0 : Int) == 0) = true := rfl
    by_cases hy : ys = 0
    · subst hy
      have HA : Hid (K = (diffM xe ye, 0)) := Lib.hid (by have := HK.out; simpa using this)
      have DF := Lib.hid (fun W va vb (h1 : Es W va xe) (h2 : Es W vb ye) => rdiff_any h1 h2 LA.out LB.out)
      go_enter Try.func21, Try.ntmps21
      go_upto_region 1 with (fail)
      rw [← hg] at B1
      rw [← hg]
      clear hg
      generalize w.alloc (.cells #[.int .i64 M.w, .int .i64 M.n, .slice A M.all.length c] 37) = w1 at *
      have q0 := B1.out.cell 0
      have q1 := B1.out.cell 1
      have q2 := B1.out.cell 2
      simp only [List.getElem?_toArray, List.getElem?_cons_succ, List.getElem?_cons_zero] at q0 q1 q2
      go_upto_region 2 with (go_at_call 19; refine (A1.out _ BB.out).mono ?_; rintro e w3 ⟨v3, rfl, hes, hb⟩; obtain ⟨A3, c3, hs⟩ := hes.shape; subst hs; have E3 := Lib.hid hes; have B3 := Lib.hid (bel_trans' BB.out hb); have X3 := Lib.hid (B1.out.below hb); clear hb hes q0 q1 q2; have q0 := X3.out.cell 0; have q1 := X3.out.cell 1; have q2 := X3.out.cell 2; simp only [List.getElem?_toArray, List.getElem?_cons_succ, List.getElem?_cons_zero] at q0 q1 q2)
      go_upto_region 3 with (go_at_call 19; refine (A2.out _ B3.out).mono ?_; rintro e w4 ⟨v4, rfl, hes, hb⟩; obtain ⟨A4, c4, hs⟩ := hes.shape; subst hs; have E4 := Lib.hid hes; have E34 := Lib.hid (E3.out.below hb); have B4 := Lib.hid (bel_trans' B3.out hb); clear hb hes q0 q1 q2)
      go_wp2_with ((go_at_call 44; refine (DF.out _ _ _ E34.out E4.out).mono ?_; rintro e w5 ⟨v5, rfl, hcs, hb⟩; obtain ⟨A5, c5, hs⟩ := hcs.toCs.shape; subst hs; have C5 := Lib.hid hcs; have B5 := Lib.hid (bel_trans' B4.out hb); clear hb hcs))
      go_ret2
      exact ⟨_, by rw [HA.out]; rfl, by rw [HA.out]; exact C5.out.toCs, B5.out⟩
    · have y1 : (ys == 0) = false := beq_eq_false_iff_ne.2 hy
      have y2 : (ys != 0) = true := bne_iff_ne.2 hy
      have HA : Hid (K = ([], ys)) := Lib.hid (by have := HK.out; simpa [hy] using this)
      have DF : Hid True := Lib.hid trivial
      clear hy
      go_enter Try.func21, Try.ntmps21
      go_upto_region 1 with (fail)
      rw [← hg] at B1
      rw [← hg]
      clear hg
      generalize w.alloc (.cells #[.int .i64 M.w, .int .i64 M.n, .slice A M.all.length c] 37) = w1 at *
      have q0 := B1.out.cell 0
      have q1 := B1.out.cell 1
      have q2 := B1.out.cell 2
      simp only [List.getElem?_toArray, List.getElem?_cons_succ, List.getElem?_cons_zero] at q0 q1 q2
      go_upto_region 2 with (go_at_call 19; refine (A1.out _ BB.out).mono ?_; rintro e w3 ⟨v3, rfl, hes, hb⟩; obtain ⟨A3, c3, hs⟩ := hes.shape; subst hs; have E3 := Lib.hid hes; have B3 := Lib.hid (bel_trans' BB.out hb); have X3 := Lib.hid (B1.out.below hb); clear hb hes q0 q1 q2; have q0 := X3.out.cell 0; have q1 := X3.out.cell 1; have q2 := X3.out.cell 2; simp only [List.getElem?_toArray, List.getElem?_cons_succ, List.getElem?_cons_zero] at q0 q1 q2)
      go_upto_region 3 with (go_at_call 19; refine (A2.out _ B3.out).mono ?_; rintro e w4 ⟨v4, rfl, hes, hb⟩; obtain ⟨A4, c4, hs⟩ := hes.shape; subst hs; have E4 := Lib.hid hes; have E34 := Lib.hid (E3.out.below hb); have B4 := Lib.hid (bel_trans' B3.out hb); clear hb hes q0 q1 q2)
      go_wp2_with ((go_at_call 44; refine (DF.out _ _ _ E34.out E4.out).mono ?_; rintro e w5 ⟨v5, rfl, hcs, hb⟩; obtain ⟨A5, c5, hs⟩ := hcs.toCs.shape; subst hs; have C5 := Lib.hid hcs; have B5 := Lib.hid (bel_trans' B4.out hb); clear hb hcs))
      go_ret2
      exact ⟨_, by rw [HA.out]; rfl, by rw [HA.out]; exact Cs.nil _, B4.out⟩
  · have x1 : (xs == 0) = false := beq_eq_false_iff_ne.2 hx
    have x2 : (xs != 0) = true := bne_iff_ne.2 hx
    have HA : Hid (K = ([], xs)) := Lib.hid (by have := HK.out; simpa [hx] using this)
    have DF : Hid True := Lib.hid trivial
    clear hx
    go_enter Try.func21, Try.ntmps21
    go_upto_region 1 with (fail)
    rw [← hg] at B1
    rw [← hg]
    clear hg
    generalize w.alloc (.cells #[.int .i64 M.w, .int .i64 M.n, .slice A M.all.length c] 37) = w1 at *
    have q0 := B1.out.cell 0
    have q1 := B1.out.cell 1
    have q2 := B1.out.cell 2
    simp only [List.getElem?_toArray, List.getElem?_cons_succ, List.getElem?_cons_zero] at q0 q1 q2
    go_upto_region 2 with (go_at_call 19; refine (A1.out _ BB.out).mono ?_; rintro e w3 ⟨v3, rfl, hes, hb⟩; obtain ⟨A3, c3, hs⟩ := hes.shape; subst hs; have E3 := Lib.hid hes; have B3 := Lib.hid (bel_trans' BB.out hb); have X3 := Lib.hid (B1.out.below hb); clear hb hes q0 q1 q2; have q0 := X3.out.cell 0; have q1 := X3.out.cell 1; have q2 := X3.out.cell 2; simp only [List.getElem?_toArray, List.getElem?_cons_succ, List.getElem?_cons_zero] at q0 q1 q2)
    go_upto_region 3 with (go_at_call 19; refine (A2.out _ B3.out).mono ?_; rintro e w4 ⟨v4, rfl, hes, hb⟩; obtain ⟨A4, c4, hs⟩ := hes.shape; subst hs; have E4 := Lib.hid hes; have E34 := Lib.hid (E3.out.below hb); have B4 := Lib.hid (bel_trans' B3.out hb); clear hb hes q0 q1 q2)
    go_wp2_with ((go_at_call 44; refine (DF.out _ _ _ E34.out E4.out).mono ?_; rintro e w5 ⟨v5, rfl, hcs, hb⟩; obtain ⟨A5, c5, hs⟩ := hcs.toCs.shape; subst hs; have C5 := Lib.hid hcs; have B5 := Lib.hid (bel_trans' B4.out hb); clear hb hcs))
    go_ret2
    exact ⟨_, by rw [HA.out]; rfl, by rw [HA.out]; exact Cs.nil _, B4.out⟩
end Go.Proofs.Ytdahhnefcageeaa
