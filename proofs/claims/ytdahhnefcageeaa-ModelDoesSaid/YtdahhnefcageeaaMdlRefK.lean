/-
  The document's answer, package guillocheref14: kept, Find, New; a model as a result.
-/
import Derived.Test.YtdahhnefcageeaaMdlRefD
import Derived.Test.YtdahhnefcageeaaMdlInv
namespace Go.Proofs.Mdl
def keptR (M : Mod) (V : Ver) : Bool := decide (V.b = M.n - 1) || decide (M.n - M.w ≤ V.b) || decide (0 < V.p)
end Go.Proofs.Mdl
namespace Go.Proofs.Ytdahhnefcageeaa
open Go.RowKit Go.Proofs.Mdl
set_option linter.unusedVariables false
set_option linter.unusedSimpArgs false
theorem isAggR (w : World) : (isAgg 37).run Try.prog w = .ok true w := by kernel_rfl
theorem sizeR (w : World) : (sizeOf 37).run Try.prog w = .ok 3 w := by kernel_rfl
theorem results_r1 {fn : Func} {s : Tmp} (h : fn.results = #[.cell s 37]) (tmps : Array Value) (w : World) (g : Nat) (h4 : tmps[s]?.getD undef = .pointer (some ⟨g, 0, none⟩)) {T : TypeId} {a b c : Value} (hf : Blk w g T #[a, b, c]) :
    (results fn tmps).run Try.prog w = .ok (.agg #[a, b, c]) w := by
  simp [results, h, h4, loadVar, isAggR, sizeR, asAddr, load_blk3 hf, Result.andThen]
theorem results_r2 {fn : Func} {s s5 : Tmp} (h : fn.results = #[.cell s 37, .tmp s5]) (tmps : Array Value) (w : World) (g : Nat) (h4 : tmps[s]?.getD undef = .pointer (some ⟨g, 0, none⟩)) {y : Value} (h5 : tmps[s5]?.getD undef = y) {T : TypeId} {a b c : Value} (hf : Blk w g T #[a, b, c]) :
    (results fn tmps).run Try.prog w = .ok (.tuple #[.agg #[a, b, c], y]) w := by
  simp [results, h, h4, h5, loadVar, isAggR, sizeR, asAddr, load_blk3 hf, Result.andThen]
theorem results_r3 {fn : Func} {s s5 s6 : Tmp} (h : fn.results = #[.cell s 37, .tmp s5, .tmp s6]) (tmps : Array Value) (w : World) (g : Nat) (h4 : tmps[s]?.getD undef = .pointer (some ⟨g, 0, none⟩)) {y z : Value} (h5 : tmps[s5]?.getD undef = y) (h6 : tmps[s6]?.getD undef = z) {T : TypeId} {a b c : Value} (hf : Blk w g T #[a, b, c]) :
    (results fn tmps).run Try.prog w = .ok (.tuple #[.agg #[a, b, c], y, z]) w := by
  simp [results, h, h4, h5, h6, loadVar, isAggR, sizeR, asAddr, load_blk3 hf, Result.andThen]
theorem rkept_any {w : World} {M : Mod} {V : Ver} {Au Ae Ac : Option Addr} {nu cu ne ce nc cc : Nat} (h1 : 1 ≤ M.w) (h2 : M.w ≤ 8) (h3 : 1 ≤ M.n) (h4 : M.n ≤ 1048576) :
    Calls Try.prog 37 #[.agg #[.int .i64 M.w, .int .i64 M.n, .slice Au nu cu], .agg #[.int .i64 V.b, .slice Ae ne ce, .slice Ac nc cc, .int .i64 V.p]] w fun e w' => e = .returned (.bool (keptR M V)) ∧ Below w.heap.size w w' := by
  obtain ⟨mw, mn, ml⟩ := M
  obtain ⟨vb, ve, vc, vp⟩ := V
  simp only at h1 h2 h3 h4 ⊢
  have HK : Hid (keptR ⟨mw, mn, ml⟩ ⟨vb, ve, vc, vp⟩ = (decide (vb = mn - 1) || decide (mn - mw ≤ vb) || decide (0 < vp))) := Lib.hid rfl
  have w1 : IntKind.i64.wrap (mn - 1) = mn - 1 := IntWalk.i64_in _ (by omega)
  have w2 : IntKind.i64.wrap (mn - mw) = mn - mw := IntWalk.i64_in _ (by omega)
  have BB := Lib.hid ((Below.refl w.heap.size w).alloc (Nat.le_refl _) (.cells #[.int .i64 mw, .int .i64 mn, .slice Au nu cu] 37) |>.alloc (by simp) (.cells #[.int .i64 vb, .slice Ae ne ce, .slice Ac nc cc, .int .i64 vp] 74))
  clear h1 h2 h3 h4
  by_cases e1 : vb = mn - 1
  · have b1 : (vb == mn - 1) = true := beq_iff_eq.2 e1
    have HV : Hid (keptR ⟨mw, mn, ml⟩ ⟨vb, ve, vc, vp⟩ = true) := Lib.hid (by rw [HK.out, decide_eq_true e1]; rfl)
    clear e1
    go_enter Try.func37, Try.ntmps37
    go_wp2_with fail
    go_ret
    exact ⟨retB HV.out.symm, BB.out⟩
  · have b1 : (vb == mn - 1) = false := beq_eq_false_iff_ne.2 e1
    by_cases e2 : mn - mw ≤ vb
    · have HV : Hid (keptR ⟨mw, mn, ml⟩ ⟨vb, ve, vc, vp⟩ = true) := Lib.hid (by rw [HK.out, decide_eq_true e2, Bool.or_true]; rfl)
      clear e1
      go_enter Try.func37, Try.ntmps37
      go_wp2_with fail
      go_ret
      exact ⟨retB HV.out.symm, BB.out⟩
    · by_cases e3 : 0 < vp
      · have HV : Hid (keptR ⟨mw, mn, ml⟩ ⟨vb, ve, vc, vp⟩ = true) := Lib.hid (by rw [HK.out, decide_eq_true e3, Bool.or_true])
        clear e1
        go_enter Try.func37, Try.ntmps37
        go_wp2_with fail
        go_ret
        exact ⟨retB HV.out.symm, BB.out⟩
      · have HV : Hid (keptR ⟨mw, mn, ml⟩ ⟨vb, ve, vc, vp⟩ = false) := Lib.hid (by rw [HK.out, decide_eq_false e1, decide_eq_false e2, decide_eq_false e3]; rfl)
        clear e1
        go_enter Try.func37, Try.ntmps37
        go_wp2_with fail
        go_ret
        exact ⟨retB HV.out.symm, BB.out⟩
theorem rnew_any (n : Int) (w : World) : Calls Try.prog 26 #[.int .i64 n] w fun e w' => ∃ v', e = .returned v' ∧ Md (fun b => w.heap.size ≤ b) w' v' (newM n) ∧ Below w.heap.size w w' := by
  go_enter Try.func26, Try.ntmps26
  go_wp2_with fail
  obtain ⟨W, g, p, hW, hg, hp, hb, b1, b2⟩ := two_boxes w 37 74 #[.int .i64 (min (max n 1) 8), .int .i64 1, .slice (some ⟨w.heap.size + 1, 0, none⟩) 1 1] #[.int .i64 0, .slice none 0 0, .slice none 0 0, .int .i64 0]
  rw [← hW]
  rw [hg] at b1
  refine bodyPost_ret (results_r1 rfl _ _ _ rfl b1) rfl ?_
  refine ⟨_, rfl, ⟨_, rfl, ?_⟩, hb⟩
  rw [hp] at b2
  exact Vl.of_blk (rs := [⟨0, .slice none 0 0, .slice none 0 0, 0⟩]) b2 (Rv.single ⟨rfl, rfl, EsN.nil _ _, CsN.nil _ _⟩) (Nat.le_succ _) (Nat.le_refl _)
set_option maxRecDepth 100000 in
set_option maxHeartbeats 2000000 in
theorem rfind_any {N : Nat → Prop} {w : World} {v : Value} {M : Mod} {blk : Int} (h : Md N w v M) (hl : M.all.length ≤ 1000) :
    Calls Try.prog 42 #[v, .int .i64 blk] w fun e w' => e = .returned (.int .i64 (idxI (idxB M.all blk))) ∧ Below w.heap.size w w' := by
  obtain ⟨u, rfl, hv⟩ := h
  obtain ⟨A, c, rfl⟩ := hv.shape
  obtain ⟨z, hz⟩ : ∃ z, z = M.all.length := ⟨_, rfl⟩
  have HZ := Lib.hid hz
  have bl := (Below.refl w.heap.size w).alloc (Nat.le_refl _) (.cells #[.int .i64 M.w, .int .i64 M.n, .slice A M.all.length c] 37)
  have HV := Lib.hid (hv.below bl)
  have BX := Lib.hid (Blk.new w 37 #[.int .i64 M.w, .int .i64 M.n, .slice A M.all.length c])
  have B1 := Lib.hid bl
  rw [← hz] at HV BX B1 ⊢
  have z1 : z ≤ 1000 := by omega
  clear hv bl hz hl
  go_enter Try.func42, Try.ntmps42
  go_upto_region 2 with (fail)
  generalize w.alloc (.cells #[.int .i64 M.w, .int .i64 M.n, .slice A z c] 37) = w1 at *
  obtain ⟨g, hg⟩ : ∃ g, g = w.heap.size := ⟨_, rfl⟩
  rw [← hg] at BX ⊢
  clear hg
  have q2 := BX.out.cell 2
  simp only [List.getElem?_toArray, List.getElem?_cons_succ, List.getElem?_cons_zero] at q2
  go_loopw [5] (fun vi wr => ∃ k : Nat, vi = .int .i64 (k : Int) ∧ k ≤ z ∧ wr = w1 ∧ Hid (∀ (j : Nat) (U : Ver), j < k → M.all[j]? = some U → ¬ U.b = blk)) (fun vi _ => z - (intOf vi).toNat)
  case atStart => exact ⟨0, rfl, Nat.zero_le _, rfl, Lib.hid (fun j U hj => by omega)⟩
  case round =>
    obtain ⟨k, rfl, hk, rfl, HN⟩ := hrel
    have wk : IntKind.i64.wrap ((k : Int) + 1) = (k : Int) + 1 := IntWalk.i64_in _ (by omega)
    by_cases hlt : k < z
    · obtain ⟨V, hV⟩ : ∃ V, M.all[k]? = some V := ⟨_, List.getElem?_eq_getElem (by rw [← HZ.out]; exact hlt)⟩
      obtain ⟨b, o, cV, ve, vc, he, hbl, _, _, d0, _, _, _⟩ := HV.out.at_ hV
      rw [← HZ.out] at he
      simp only [Value.slice.injEq] at he
      obtain ⟨rfl, -, rfl⟩ := he
      have i1 : (k : Int) < (z : Int) := by omega
      by_cases hb : V.b = blk
      · have b1 : (V.b == blk) = true := beq_iff_eq.2 hb
        have HI : Hid (idxB M.all blk = some k) := Lib.hid (idxB_some hV hb HN.out)
        clear hV hb
        go_wp2_with fail
        go_ret
        exact ⟨by rw [HI.out]; rfl, B1.out⟩
      · have b1 : (V.b == blk) = false := beq_eq_false_iff_ne.2 hb
        have HN2 : Hid (∀ (j : Nat) (U : Ver), j < k + 1 → M.all[j]? = some U → ¬ U.b = blk) := Lib.hid (fun j U hj hU => by
          by_cases e : j = k
          · subst e
            rw [hV] at hU
            cases hU
            exact hb
          · exact HN.out j U (by omega) hU)
        clear hV hb
        go_wp2_with fail
        exact ⟨⟨k + 1, by go_num, by omega, by first | rfl | trivial, HN2⟩, by simp [intOf]; omega⟩
    · obtain rfl : k = z := by omega
      have i1 : ¬ (k : Int) < (k : Int) := by omega
      have HI : Hid (idxB M.all blk = none) := Lib.hid (idxB_none (fun j U hj hU => HN.out j U (by have := HZ.out; omega) hU))
      go_wp2_with fail
      go_ret
      exact ⟨by rw [HI.out]; rfl, B1.out⟩
end Go.Proofs.Ytdahhnefcageeaa
