/-
  Package model: Pin (written by makers/mdlpin.py).
-/
import Derived.Test.YtdahhnefcageeaaMdlAt
import Derived.BigRegion
namespace Go.Proofs.Mdl
open Go.Proofs.Ytdahhnefcageeaa
def pinAt (M : Mod) (b : Int) : Int := if b = -1 then M.n - 1 else b
def pinM (M : Mod) (b : Int) : Mod × Int × Int :=
  if validM M then
    match idxB M.all (pinAt M b) with
    | none => (M, 0, 4)
    | some k => match M.all[k]? with
      | none => (M, 0, 4)
      | some V => if V.p = 1048576 then (M, 0, 12) else ({ M with all := M.all.set k { V with p := V.p + 1 } }, V.b, 0)
  else (M, 0, 1)
theorem vgo_mem {M : Mod} : ∀ {l : List Ver} {a : Int}, vgo M a l = true → ∀ V ∈ l, 0 ≤ V.p ∧ V.p ≤ 1048576 ∧ checkN V.e = 0
  | [], _, _, V, hV => by cases hV
  | v :: r, a, h, V, hV => by
    rw [vgo_cons, Bool.and_eq_true] at h
    rcases List.mem_cons.1 hV with rfl | hV
    · obtain ⟨_, h2, h3, h4, _⟩ := okV_iff.1 h.1
      exact ⟨h2, h3, h4⟩
    · exact vgo_mem h.2 V hV
theorem valid_vgo {M : Mod} (h : validM M = true) : rightM M = true ∧ vgo M (-1) M.all = true := by
  unfold validM at h
  simpa using h
theorem valid_pins {M : Mod} (h : validM M = true) {k : Nat} {V : Ver} (hV : M.all[k]? = some V) : 0 ≤ V.p ∧ V.p ≤ 1048576 := by
  have := vgo_mem (valid_vgo h).2 V (List.mem_of_getElem? hV)
  exact ⟨this.1, this.2.1⟩
end Go.Proofs.Mdl
namespace Go.Proofs.Ytdahhnefcageeaa
open Go.RowKit Go.Proofs.Mdl
set_option linter.unusedVariables false
set_option linter.unusedSimpArgs false
theorem flatR_setp : ∀ (rs : List Raw) (k : Nat) (x : Raw) (p : Int), rs[k]? = some x → (flatR rs).set (k * 4 + 3) (.int .i64 p) = flatR (rs.set k { x with p := p })
  | [], k, x, p, h => by simp at h
  | y :: r, 0, x, p, h => by
    simp only [List.getElem?_cons_zero, Option.some.injEq] at h
    subst h
    rfl
  | y :: r, k + 1, x, p, h => by
    have ih := flatR_setp r k x p (by simpa using h)
    rw [List.set_cons_succ, flatR_cons, flatR_cons, ← ih]
    rw [List.set_append_right _ _ (by simp [cellR]; omega)]
    congr 1
    have e1 : (k + 1) * 4 + 3 - (cellR y).length = k * 4 + 3 := by simp [cellR]; omega
    rw [e1]
/-- What fails hands back what it was given. -/
theorem back3 {N : Nat → Prop} {w W : World} {g p : Nat} {M : Mod} {u : Value} (hM : Md N w (.agg #[.int .i64 M.w, .int .i64 M.n, u]) M) (BP : Blk W p 24 #[.int .i64 0, .int .i64 0, .slice none 0 0]) (BW : Bl w.heap.size w W) (hp : w.heap.size ≤ p) :
    ∃ W', W' = ((W.setCell ⟨p, 0, none⟩ (.int .i64 M.w)).setCell ⟨p, 1, none⟩ (.int .i64 M.n)).setCell ⟨p, 2, none⟩ u ∧ Blk W' p 24 #[.int .i64 M.w, .int .i64 M.n, u] ∧ Md (fun b => N b ∨ w.heap.size ≤ b) W' (.agg #[.int .i64 M.w, .int .i64 M.n, u]) M ∧ Below w.heap.size w W' := by
  obtain ⟨W', hW, bw, ff, bp⟩ := put3 BP BW hp (.int .i64 M.w) (.int .i64 M.n) u
  exact ⟨W', hW, bp, (hM.below bw.1).mono (fun b hb _ => .inl hb), bw.1⟩
set_option maxRecDepth 100000 in
set_option maxHeartbeats 4000000 in
theorem pin_any {N : Nat → Prop} {w : World} {v : Value} {M : Mod} {b : Int} (h : Md N w v M) (hl : M.all.length ≤ 1000) (hle : ∀ V ∈ M.all, V.e.length ≤ 1000 ∧ V.c.length ≤ 1000) :
    Calls Try.prog 27 #[v, .int .i64 b] w fun e w' => ∃ v', e = .returned (.tuple #[v', .int .i64 (pinM M b).2.1, .int .i64 (pinM M b).2.2]) ∧ Md (fun b => N b ∨ w.heap.size ≤ b) w' v' (pinM M b).1 ∧ Below w.heap.size w w' := by
  have H := Lib.hid h
  obtain ⟨u, rfl, hv⟩ := h
  obtain ⟨A, c, rfl⟩ := hv.shape
  obtain ⟨w2, g, p, hw, hg, hp, hb2, b1, b2⟩ := two_boxes w 24 24 #[.int .i64 M.w, .int .i64 M.n, .slice A M.all.length c] #[.int .i64 0, .int .i64 0, .slice none 0 0]
  have VD := Lib.hid (valid_any (H.out.below hb2) hl (fun V hV => (hle V hV).1))
  have BW := Lib.hid (Bl.call (Bl.start w) hb2)
  have BG := Lib.hid b1
  have BP := Lib.hid b2
  have GW : Hid (w.heap.size ≤ g) := Lib.hid (by omega)
  have PW : Hid (w.heap.size ≤ p) := Lib.hid (by omega)
  have GP : Hid (¬ g = p) := Lib.hid (by omega)
  have q0 := b1.cell 0
  have q1 := b1.cell 1
  have q2 := b1.cell 2
  simp only [List.getElem?_toArray, List.getElem?_cons_succ, List.getElem?_cons_zero] at q0 q1 q2
  clear hv b1 b2
  cases hvd : validM M with
  | false =>
    have HA : Hid (pinM M b = (M, 0, 1)) := Lib.hid (by unfold pinM; rw [hvd]; rfl)
    rw [hvd] at VD
    clear hvd
    go_enter Try.func27, Try.ntmps27
    go_upto_region 1 with (fail)
    rw [← hw, ← hp, ← hg]
    clear hw hp hg
    go_wp2_with (go_at_call 17; refine VD.out.mono ?_; rintro e w3 ⟨rfl, hb⟩; have BG3 := Lib.hid (BG.out.below hb); have BP3 := Lib.hid (BP.out.below hb); have BW3 := Lib.hid (BW.out.call hb); clear hb q0 q1 q2; have q0 := BG3.out.cell 0; have q1 := BG3.out.cell 1; have q2 := BG3.out.cell 2; have p0 := BP3.out.cell 0; have p1 := BP3.out.cell 1; have p2 := BP3.out.cell 2; simp only [List.getElem?_toArray, List.getElem?_cons_succ, List.getElem?_cons_zero] at q0 q1 q2 p0 p1 p2; have f0 := BP3.out.frozen 0; have f1 := BP3.out.frozen 1; have f2 := BP3.out.frozen 2)
    obtain ⟨W', hW', bp', hM', bl'⟩ := back3 (g := g) H.out BP3.out BW3.out PW.out
    rw [← hW']
    refine bodyPost_ret (results_m3 rfl _ _ _ rfl rfl rfl bp') rfl ?_
    exact ⟨.agg #[.int .i64 M.w, .int .i64 M.n, .slice A M.all.length c], by rw [HA.out]; rfl, by rw [HA.out]; exact hM', bl'⟩
  | true =>
    rw [hvd] at VD
    have hrt : rightM M = true := by
      unfold validM at hvd
      cases hr : rightM M with
      | true => rfl
      | false => rw [hr] at hvd; cases hvd
    obtain ⟨r1, r2, r3, r4, r5⟩ := rightM_iff.1 hrt
    have wn : IntKind.i64.wrap (M.n - 1) = M.n - 1 := IntWalk.i64_in _ (by omega)
    have hat : (b = -1 ∧ pinAt M b = M.n - 1) ∨ ((b == -1) = false ∧ pinAt M b = b) := by
      by_cases e : b = -1
      · exact .inl ⟨e, if_pos e⟩
      · exact .inr ⟨beq_eq_false_iff_ne.2 e, if_neg e⟩
    cases hi : idxB M.all (pinAt M b) with
    | none =>
      have HA : Hid (pinM M b = (M, 0, 4)) := Lib.hid (by unfold pinM; rw [hvd, hi]; rfl)
      have FN := Lib.hid (fun W (hW : Below w.heap.size w W) => find_none (H.out.below hW) hi hl)
      unfold noSpot at FN
      clear hvd hi hrt
      rcases hat with ⟨rfl, hpa⟩ | ⟨hne, hpa⟩
      all_goals
        rw [hpa] at FN
        go_enter Try.func27, Try.ntmps27
        go_upto_region 1 with (fail)
        rw [← hw, ← hp, ← hg]
        clear hw hp hg
        go_wp2_with (first
          | (go_at_call 17; refine VD.out.mono ?_; rintro e w3 ⟨rfl, hb⟩; have BG3 := Lib.hid (BG.out.below hb); have BP3 := Lib.hid (BP.out.below hb); have BW3 := Lib.hid (BW.out.call hb); clear hb q0 q1 q2; have q0 := BG3.out.cell 0; have q1 := BG3.out.cell 1; have q2 := BG3.out.cell 2; have p0 := BP3.out.cell 0; have p1 := BP3.out.cell 1; have p2 := BP3.out.cell 2; simp only [List.getElem?_toArray, List.getElem?_cons_succ, List.getElem?_cons_zero] at q0 q1 q2 p0 p1 p2; have f0 := BP3.out.frozen 0; have f1 := BP3.out.frozen 1; have f2 := BP3.out.frozen 2)
          | (go_at_call 40; refine (FN.out _ BW3.out.1).mono ?_; rintro e w4 ⟨rfl, hb⟩; have BG4 := Lib.hid ((BG3.out.below hb).alloc (.cells #[.int .i64 0, .slice none 0 0, .slice none 0 0, .int .i64 0, .int .i64 0] 79)); have BP4 := Lib.hid ((BP3.out.below hb).alloc (.cells #[.int .i64 0, .slice none 0 0, .slice none 0 0, .int .i64 0, .int .i64 0] 79)); have BW4 := Lib.hid ((BW3.out.call hb).alloc (.cells #[.int .i64 0, .slice none 0 0, .slice none 0 0, .int .i64 0, .int .i64 0] 79)); clear hb q0 q1 q2 p0 p1 p2 f0 f1 f2; have q0 := BG4.out.cell 0; have q1 := BG4.out.cell 1; have q2 := BG4.out.cell 2; have p0 := BP4.out.cell 0; have p1 := BP4.out.cell 1; have p2 := BP4.out.cell 2; simp only [List.getElem?_toArray, List.getElem?_cons_succ, List.getElem?_cons_zero] at q0 q1 q2 p0 p1 p2; have f0 := BP4.out.frozen 0; have f1 := BP4.out.frozen 1; have f2 := BP4.out.frozen 2))
        obtain ⟨W', hW', bp', hM', bl'⟩ := back3 (g := g) H.out BP4.out BW4.out PW.out
        rw [← hW']
        refine bodyPost_ret (results_m3 rfl _ _ _ rfl rfl rfl bp') rfl ?_
        exact ⟨.agg #[.int .i64 M.w, .int .i64 M.n, .slice A M.all.length c], by rw [HA.out]; rfl, by rw [HA.out]; exact hM', bl'⟩
    | some k =>
      obtain ⟨V, hV, hVb⟩ := idxB_get hi
      have FS := Lib.hid (fun W (hW : Below w.heap.size w W) => find_some (H.out.below hW) hi hV hl)
      have HV := Lib.hid hV
      have hkl : k < M.all.length := (List.getElem?_eq_some_iff.1 hV).1
      by_cases hfull : V.p = 1048576
      · have HA : Hid (pinM M b = (M, 0, 12)) := Lib.hid (by unfold pinM; rw [hvd, hi]; simp only [if_true]; rw [hV]; simp only; rw [if_pos hfull])
        obtain ⟨Vb, Ve, Vc, Vp⟩ := V
        obtain rfl : Vp = 1048576 := hfull
        simp only at FS
        clear hvd hi hrt hV hVb
        rcases hat with ⟨rfl, hpa⟩ | ⟨hne, hpa⟩
        all_goals
          rw [hpa] at FS
          go_enter Try.func27, Try.ntmps27
          go_upto_region 1 with (fail)
          rw [← hw, ← hp, ← hg]
          clear hw hp hg
          go_wp2_with (first
            | (go_at_call 17; refine VD.out.mono ?_; rintro e w3 ⟨rfl, hb⟩; have BG3 := Lib.hid (BG.out.below hb); have BP3 := Lib.hid (BP.out.below hb); have BW3 := Lib.hid (BW.out.call hb); clear hb q0 q1 q2; have q0 := BG3.out.cell 0; have q1 := BG3.out.cell 1; have q2 := BG3.out.cell 2; have p0 := BP3.out.cell 0; have p1 := BP3.out.cell 1; have p2 := BP3.out.cell 2; simp only [List.getElem?_toArray, List.getElem?_cons_succ, List.getElem?_cons_zero] at q0 q1 q2 p0 p1 p2; have f0 := BP3.out.frozen 0; have f1 := BP3.out.frozen 1; have f2 := BP3.out.frozen 2)
            | (go_at_call 40; refine (FS.out _ BW3.out.1).mono ?_; rintro e w4 ⟨ve, vc, rfl, hes, hcs, hb⟩; obtain ⟨Ae, ce, hve⟩ := hes.toEs.shape; obtain ⟨Ac, cc, hvc⟩ := hcs.toCs.shape; subst hve; subst hvc; have BG4 := Lib.hid ((BG3.out.below hb).alloc (.cells #[.int .i64 Vb, .slice Ae Ve.length ce, .slice Ac Vc.length cc, .int .i64 1048576, .int .i64 (k : Int)] 79)); have BP4 := Lib.hid ((BP3.out.below hb).alloc (.cells #[.int .i64 Vb, .slice Ae Ve.length ce, .slice Ac Vc.length cc, .int .i64 1048576, .int .i64 (k : Int)] 79)); have BW4 := Lib.hid ((BW3.out.call hb).alloc (.cells #[.int .i64 Vb, .slice Ae Ve.length ce, .slice Ac Vc.length cc, .int .i64 1048576, .int .i64 (k : Int)] 79)); have BS4 := Lib.hid (Blk.new w4 79 #[.int .i64 Vb, .slice Ae Ve.length ce, .slice Ac Vc.length cc, .int .i64 1048576, .int .i64 (k : Int)]); have PW4 := Lib.hid (BP3.out.below hb).lt; clear hb hes hcs q0 q1 q2 p0 p1 p2 f0 f1 f2; have q0 := BG4.out.cell 0; have q1 := BG4.out.cell 1; have q2 := BG4.out.cell 2; have p0 := BP4.out.cell 0; have p1 := BP4.out.cell 1; have p2 := BP4.out.cell 2; simp only [List.getElem?_toArray, List.getElem?_cons_succ, List.getElem?_cons_zero] at q0 q1 q2 p0 p1 p2; have f0 := BP4.out.frozen 0; have f1 := BP4.out.frozen 1; have f2 := BP4.out.frozen 2))
          obtain ⟨W', hW', bp', hM', bl'⟩ := back3 (g := g) H.out BP4.out BW4.out PW.out
          rw [← hW']
          refine bodyPost_ret (results_m3 rfl _ _ _ rfl rfl rfl bp') rfl ?_
          exact ⟨.agg #[.int .i64 M.w, .int .i64 M.n, .slice A M.all.length c], by rw [HA.out]; rfl, by rw [HA.out]; exact hM', bl'⟩
      · have HA : Hid (pinM M b = ({ M with all := M.all.set k { V with p := V.p + 1 } }, V.b, 0)) := Lib.hid (by unfold pinM; rw [hvd, hi]; simp only [if_true]; rw [hV]; simp only; rw [if_neg hfull])
        have hfq : (V.p == 1048576) = false := beq_eq_false_iff_ne.2 hfull
        have VP : 0 ≤ V.p ∧ V.p ≤ 1048576 := valid_pins hvd hV
        have wp : IntKind.i64.wrap (V.p + 1) = V.p + 1 := IntWalk.i64_in _ (by omega)
        clear hvd hi hrt hV hVb
        rcases hat with ⟨rfl, hpa⟩ | ⟨hne, hpa⟩
        all_goals
          rw [hpa] at FS
          go_enter Try.func27, Try.ntmps27
          go_upto_region 1 with (fail)
          rw [← hw, ← hp, ← hg]
          clear hw hp hg
          go_upto_region 10 with (first
            | (go_at_call 17; refine VD.out.mono ?_; rintro e w3 ⟨rfl, hb⟩; have BG3 := Lib.hid (BG.out.below hb); have BP3 := Lib.hid (BP.out.below hb); have BW3 := Lib.hid (BW.out.call hb); clear hb q0 q1 q2; have q0 := BG3.out.cell 0; have q1 := BG3.out.cell 1; have q2 := BG3.out.cell 2; have p0 := BP3.out.cell 0; have p1 := BP3.out.cell 1; have p2 := BP3.out.cell 2; simp only [List.getElem?_toArray, List.getElem?_cons_succ, List.getElem?_cons_zero] at q0 q1 q2 p0 p1 p2; have f0 := BP3.out.frozen 0; have f1 := BP3.out.frozen 1; have f2 := BP3.out.frozen 2)
            | (go_at_call 40; refine (FS.out _ BW3.out.1).mono ?_; rintro e w4 ⟨ve, vc, rfl, hes, hcs, hb⟩; obtain ⟨Ae, ce, hve⟩ := hes.toEs.shape; obtain ⟨Ac, cc, hvc⟩ := hcs.toCs.shape; subst hve; subst hvc; have BG4 := Lib.hid ((BG3.out.below hb).alloc (.cells #[.int .i64 V.b, .slice Ae V.e.length ce, .slice Ac V.c.length cc, .int .i64 V.p, .int .i64 (k : Int)] 79)); have BP4 := Lib.hid ((BP3.out.below hb).alloc (.cells #[.int .i64 V.b, .slice Ae V.e.length ce, .slice Ac V.c.length cc, .int .i64 V.p, .int .i64 (k : Int)] 79)); have BW4 := Lib.hid ((BW3.out.call hb).alloc (.cells #[.int .i64 V.b, .slice Ae V.e.length ce, .slice Ac V.c.length cc, .int .i64 V.p, .int .i64 (k : Int)] 79)); have BS4 := Lib.hid (Blk.new w4 79 #[.int .i64 V.b, .slice Ae V.e.length ce, .slice Ac V.c.length cc, .int .i64 V.p, .int .i64 (k : Int)]); have PW4 := Lib.hid (BP3.out.below hb).lt; clear hb hes hcs q0 q1 q2 p0 p1 p2 f0 f1 f2; have q0 := BG4.out.cell 0; have q1 := BG4.out.cell 1; have q2 := BG4.out.cell 2; have p0 := BP4.out.cell 0; have p1 := BP4.out.cell 1; have p2 := BP4.out.cell 2; simp only [List.getElem?_toArray, List.getElem?_cons_succ, List.getElem?_cons_zero] at q0 q1 q2 p0 p1 p2; have f0 := BP4.out.frozen 0; have f1 := BP4.out.frozen 1; have f2 := BP4.out.frozen 2))
          have P3 : Hid (p < w4.heap.size) := PW4
          generalize hw5 : w4.alloc (.cells #[.int .i64 V.b, .slice Ae V.e.length ce, .slice Ac V.c.length cc, .int .i64 V.p, .int .i64 (k : Int)] 79) = w5 at *
          generalize w4.heap.size = s at *
          have CO := Lib.hid (copied_any (H.out.below BW4.out.1) hl r5 hle)
          have SL := Lib.hid BS4.out.lt
          have P4 := Lib.hid BP4.out.lt
          clear hw5 p0 p1 p2 f0 f1 f2
          go_upto_region 11 with (go_at_call 49; refine CO.out.mono ?_; rintro e w6 ⟨r, rfl, hrw, ⟨rs, hrv, hrow⟩, hb⟩; have BG6 := Lib.hid (BG4.out.below hb); have BP6 := Lib.hid (BP4.out.below hb); have BS6 := Lib.hid (BS4.out.below hb); have BW6 := Lib.hid (BW4.out.call hb); have RW := Lib.hid hrw; have RV := Lib.hid hrv; have ROW := Lib.hid hrow; clear hb hrw hrv hrow q0 q1 q2)
          have bl7 : Below w6.heap.size w6 (w6.alloc (.cells #[.int .i64 M.w, .int .i64 M.n, .slice (some ⟨r, 0, none⟩) M.all.length M.all.length] 24)) := (Below.refl _ _).alloc (Nat.le_refl _) _
          have BN7 := Lib.hid (Blk.new w6 24 #[.int .i64 M.w, .int .i64 M.n, .slice (some ⟨r, 0, none⟩) M.all.length M.all.length])
          have BP7 := Lib.hid (BP6.out.below bl7)
          have BS7 := Lib.hid (BS6.out.below bl7)
          have BW7 := Lib.hid (BW6.out.call bl7)
          have ROW7 := Lib.hid (ROW.out.below bl7)
          have RV7 := Lib.hid (RV.out.below bl7)
          have R6 := Lib.hid ROW.out.lt
          have P6 := Lib.hid BP6.out.lt
          have S6 := Lib.hid BS6.out.lt
          clear bl7
          generalize w6.alloc (.cells #[.int .i64 M.w, .int .i64 M.n, .slice (some ⟨r, 0, none⟩) M.all.length M.all.length] 24) = w7 at *
          generalize w6.heap.size = g9 at *
          obtain ⟨x, hx, hsh⟩ := RV7.out.get HV.out
          have SH := Lib.hid hsh
          have HX := Lib.hid hx
          have c3 := (flatR_at rs k x hx).2.2.2
          have n2 := BN7.out.cell 2
          have s4 := BS7.out.cell 4
          have r3 := ROW7.out.cell (k * 4 + 3)
          have fr3 := ROW7.out.frozen (k * 4 + 3)
          rw [List.getElem?_toArray, c3, hsh.p] at r3
          simp only [List.getElem?_toArray, List.getElem?_cons_succ, List.getElem?_cons_zero] at n2 s4
          have i1 : (k : Int) < (M.all.length : Int) := by omega
          clear c3 hx hsh
          go_upto_region 12 with (fail)
          have F8 := Lib.hid ((Far.refl (fun i => i = r) w7).setCell (p := ⟨r, k * 4 + 3, none⟩) (fun _ => rfl) (.int .i64 (V.p + 1)))
          have ROW8 := Lib.hid (ROW7.out.set (k * 4 + 3) (.int .i64 (V.p + 1)))
          have NR : Hid (¬ g9 = r) := Lib.hid (by have := R6.out; omega)
          have PR : Hid (¬ p = r) := Lib.hid (by have := RW.out; have := P4.out; omega)
          have SR : Hid (¬ s = r) := Lib.hid (by have := RW.out; have := SL.out; omega)
          have WR : Hid (w.heap.size ≤ r) := Lib.hid (Nat.le_trans BW4.out.2 RW.out)
          have BN8 := Lib.hid (BN7.out.far F8.out NR.out)
          have BP8 := Lib.hid (BP7.out.far F8.out PR.out)
          have BS8 := Lib.hid (BS7.out.far F8.out SR.out)
          have BW8 := Lib.hid (Far.bl BW7.out F8.out (fun i e => by rw [e]; exact WR.out))
          have RV8 := Lib.hid (RV7.out.far F8.out (fun b hb _ e => hb.2 e))
          rw [List.setIfInBounds_toArray, flatR_setp rs k x (V.p + 1) HX.out] at ROW8
          clear n2 s4 r3 fr3
          generalize w7.setCell ⟨r, k * 4 + 3, none⟩ (.int .i64 (V.p + 1)) = w8 at *
          have n0 := BN8.out.cell 0
          have n1 := BN8.out.cell 1
          have n2 := BN8.out.cell 2
          have s0 := BS8.out.cell 0
          have p0 := BP8.out.cell 0
          have p1 := BP8.out.cell 1
          have p2 := BP8.out.cell 2
          simp only [List.getElem?_toArray, List.getElem?_cons_succ, List.getElem?_cons_zero] at n0 n1 n2 s0 p0 p1 p2
          have f0 := BP8.out.frozen 0
          have f1 := BP8.out.frozen 1
          have f2 := BP8.out.frozen 2
          have P9 : Hid (¬ p = g9) := Lib.hid (by have := P6.out; omega)
          have PSS : Hid (¬ p = s) := Lib.hid (by have := P3.out; omega)
          have pn : g9 ≠ p := fun e => P9.out e.symm
          have ps : s ≠ p := fun e => PSS.out e.symm
          go_region
          go_wp2_with fail
          obtain ⟨W', hW', bw', ff', bp'⟩ := put3 BP8.out BW8.out PW.out (.int .i64 M.w) (.int .i64 M.n) (.slice (some ⟨r, 0, none⟩) M.all.length M.all.length)
          rw [← hW']
          refine bodyPost_ret (results_m3 rfl _ _ _ rfl rfl rfl (bp'.drewN 1)) rfl ?_
          have l1 := P4.out
          have l2 := RW.out
          have rvf := (RV8.out.far ff' (fun b hb hlt e => by have e1 : b = p := e; have := hb.1; omega)).below (Below.refl W'.heap.size W').drew
          have shf := rvf.at_ k x V HX.out HV.out
          have rvn := (rvf.set k (r := { x with p := V.p + 1 }) (V := { V with p := V.p + 1 }) ⟨shf.b, rfl, shf.e, shf.c⟩).mono (N' := fun b => N b ∨ w.heap.size ≤ b) (fun b hb _ => .inr (Nat.le_trans BW4.out.2 hb.1))
          have row := ((ROW8.out.far ff' (fun e => PR.out (show r = p from e).symm)).drewN 1)
          have vl := Vl.of_blk row rvn (.inr WR.out) (Nat.le_refl _)
          rw [List.length_set] at vl
          refine ⟨.agg #[.int .i64 M.w, .int .i64 M.n, .slice (some ⟨r, 0, none⟩) M.all.length M.all.length], by rw [HA.out]; rfl, by rw [HA.out]; exact ⟨_, rfl, vl⟩, bw'.1.drew⟩
end Go.Proofs.Ytdahhnefcageeaa
