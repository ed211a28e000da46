/-
  Package model: isKept, find.
-/
import Derived.Test.YtdahhnefcageeaaMdlVer
import Derived.Handy
namespace Go.Proofs.Ytdahhnefcageeaa
open Go.RowKit Go.Proofs.Mdl
set_option linter.unusedVariables false
set_option linter.unusedSimpArgs false
set_option maxRecDepth 100000 in
set_option maxHeartbeats 2000000 in
theorem isKept_any {N : Nat → Prop} {w : World} {v : Value} {M : Mod} {i : Nat} {V : Ver} (h : Md N w v M) (hi : M.all[i]? = some V) (h1 : 1 ≤ M.w) (h2 : M.w ≤ 8) (h3 : 1 ≤ M.n) (h4 : M.n ≤ 1048576) (hl : M.all.length ≤ 1000) :
    Calls Try.prog 39 #[v, .int .i64 (i : Int)] w fun e w' => e = .returned (.bool (keptV M (decide (i + 1 = M.all.length)) V)) ∧ Below w.heap.size w w' := by
  obtain ⟨u, rfl, hv⟩ := h
  have B0 := Lib.hid (((Below.refl w.heap.size w).alloc (Nat.le_refl _) (.cells #[.int .i64 M.w, .int .i64 M.n, u] 24)))
  obtain ⟨b, o, c, ve, vc, rfl, hb, he, hc, d0, d1, d2, d3⟩ := (hv.below B0.out).at_ hi
  obtain ⟨Ae, ce, rfl⟩ := he.toEs.shape
  obtain ⟨Ac, cc, rfl⟩ := hc.toCs.shape
  have hlt : i < M.all.length := (List.getElem?_eq_some_iff.1 hi).1
  obtain ⟨W, Nx, all⟩ := M
  obtain ⟨Vb, Ves, Vcs, Vp⟩ := V
  simp only at h1 h2 h3 h4 hl hlt d0 d1 d2 d3 hi ⊢
  generalize Ves.length = le at *
  generalize Vcs.length = lc at *
  have HB := Lib.hid hb
  have BB := Lib.hid (B0.out.alloc (by simp) (.cells #[.int .i64 Vb, .slice Ae le ce, .slice Ac lc cc, .int .i64 Vp, .int .i64 (i : Int)] 79))
  have i1 : (i : Int) < (all.length : Int) := by omega
  have w1 : IntKind.i64.wrap ((all.length : Int) - 1) = (all.length : Int) - 1 := IntWalk.i64_in _ (by omega)
  have w2 : IntKind.i64.wrap (Nx - W) = Nx - W := IntWalk.i64_in _ (by omega)
  clear hv he hc hi hb
  go_enter Try.func39, Try.ntmps39
  go_wp2_with fail
  all_goals
    go_ret
    refine ⟨?_, B0.out.alloc (by simp) _⟩
    have g1 : decide ((i : Int) = (all.length : Int) - 1) = decide (i + 1 = all.length) := by
      by_cases e : i + 1 = all.length
      · rw [decide_eq_true e, decide_eq_true (by omega)]
      · rw [decide_eq_false e, decide_eq_false (by omega)]
    first
      | rfl
      | (unfold keptV; simp only []; rw [← g1]; simp_all; done)
      | (unfold keptV; simp only []; rw [← g1]; rfl)
      | (unfold keptV; simp only []; rw [← g1]; done)
/-- The first version of a block. -/
def idxB (L : List Ver) (b : Int) : Option Nat := L.findIdx? (fun V => decide (V.b = b))
theorem idxB_some {L : List Ver} {b : Int} {k : Nat} {V : Ver} (hk : L[k]? = some V) (hV : V.b = b) (hn : ∀ (j : Nat) (U : Ver), j < k → L[j]? = some U → ¬ U.b = b) : idxB L b = some k := by
  unfold idxB
  rw [List.findIdx?_eq_some_iff_getElem]
  obtain ⟨hlt, he⟩ := List.getElem?_eq_some_iff.1 hk
  refine ⟨hlt, by rw [he]; exact decide_eq_true hV, fun j hj => ?_⟩
  have := hn j _ hj (List.getElem?_eq_getElem (Nat.lt_trans hj hlt))
  simpa using this
theorem idxB_none {L : List Ver} {b : Int} (hn : ∀ (j : Nat) (U : Ver), j < L.length → L[j]? = some U → ¬ U.b = b) : idxB L b = none := by
  unfold idxB
  rw [List.findIdx?_eq_none_iff]
  intro V hV
  obtain ⟨j, hj⟩ := List.getElem?_of_mem hV
  exact decide_eq_false (hn j V (List.getElem?_eq_some_iff.1 hj).1 hj)
theorem idxB_get {L : List Ver} {b : Int} {k : Nat} (h : idxB L b = some k) : ∃ V, L[k]? = some V ∧ V.b = b := by
  unfold idxB at h
  rw [List.findIdx?_eq_some_iff_getElem] at h
  obtain ⟨hlt, hV, _⟩ := h
  exact ⟨_, List.getElem?_eq_getElem hlt, by simpa using hV⟩
theorem isBlock_any {W : World} {p : Nat} {blk Vb Vp : Int} {Ae Ac : Option Addr} {le ce lc cc : Nat} (hp : p < W.heap.size) (hc : W.cell? ⟨p, 0, none⟩ = some (.int .i64 blk)) :
    Calls Try.prog 67 #[.agg #[.int .i64 Vb, .slice Ae le ce, .slice Ac lc cc, .int .i64 Vp], .pointer (some ⟨p, 0, none⟩)] W fun e w' => e = .returned (.bool (decide (Vb = blk))) ∧ Below W.heap.size W w' := by
  have B0 := Lib.hid (((Below.refl W.heap.size W).alloc (Nat.le_refl _) (.cells #[.int .i64 Vb, .slice Ae le ce, .slice Ac lc cc, .int .i64 Vp] 62)))
  have c1 := (B0.out.cell (p := ⟨p, 0, none⟩) hp).trans hc
  clear hc
  go_enter Try.func67, Try.ntmps67
  go_wp2_with fail
  go_ret
  exact ⟨rfl, B0.out⟩
def idxI : Option Nat → Int
  | some k => (k : Int)
  | none => -1
set_option maxRecDepth 100000 in
set_option maxHeartbeats 2000000 in
theorem index_any {N : Nat → Prop} {w : World} {v : Value} {L : List Ver} {p : Nat} {blk : Int} (h : Vl N w v L) (hp : p < w.heap.size) (hc : w.cell? ⟨p, 0, none⟩ = some (.int .i64 blk)) (hl : L.length ≤ 1000) :
    Calls Try.prog 66 #[v, .func (.func 67) #[] #[.pointer (some ⟨p, 0, none⟩)]] w fun e w' => e = .returned (.int .i64 (idxI (idxB L blk))) ∧ Below w.heap.size w w' := by
  obtain ⟨A, c, rfl⟩ := h.shape
  obtain ⟨z, hz⟩ : ∃ z, z = L.length := ⟨_, rfl⟩
  rw [← hz] at h ⊢
  have HE := Lib.hid h
  have HN := Lib.hid hz
  have n1 : z ≤ 1000 := by omega
  have IS := Lib.hid (fun W (hW : Below w.heap.size w W) (Vb Vp : Int) (Ae Ac : Option Addr) (le ce lc cc : Nat) => isBlock_any (Vb := Vb) (Vp := Vp) (Ae := Ae) (Ac := Ac) (le := le) (ce := ce) (lc := lc) (cc := cc) (Nat.lt_of_lt_of_le hp hW.size) ((hW.cell (p := ⟨p, 0, none⟩) hp).trans hc))
  have eg : ∀ args w, (callFunc 67 args).run Try.prog w = .ok (.enter 67 args) w := enters_of Try.func67 (by kernel_rfl) rfl
  clear h hz hl hp hc
  go_enter Try.func66, Try.ntmps66
  go_wp2_with fail
  go_loopw [8] (fun vi wr => ∃ k : Nat, vi = .int .i64 (k : Int) ∧ k ≤ z ∧ Hid (∀ (j : Nat) (U : Ver), j < k → L[j]? = some U → ¬ U.b = blk) ∧ Hid (Below w.heap.size w wr)) (fun vi _ => z - (intOf vi).toNat)
  case atStart => exact ⟨0, rfl, Nat.zero_le _, Lib.hid (fun j U hj => by omega), Lib.hid (Below.refl _ _)⟩
  case round =>
    obtain ⟨k, rfl, hk, HV, HB⟩ := hrel
    by_cases hlt : k < z
    · obtain ⟨V, hx⟩ : ∃ x, L[k]? = some x := ⟨_, List.getElem?_eq_getElem (by rw [← HN.out]; exact hlt)⟩
      obtain ⟨b, o, c', ve, vc, hv, hbl, he, hc, d0, d1, d2, d3⟩ := (HE.out.below HB.out).at_ hx
      obtain ⟨Ae, ce, rfl⟩ := he.toEs.shape
      obtain ⟨Ac, cc, rfl⟩ := hc.toCs.shape
      simp only [Value.slice.injEq] at hv
      obtain ⟨rfl, -, -⟩ := hv
      have HX := Lib.hid hx
      have i1 : (k : Int) < (z : Int) := by omega
      have wk : IntKind.i64.wrap ((k : Int) + 1) = (k : Int) + 1 := IntWalk.i64_in _ (by omega)
      have HC := Lib.hid (IS.out wr HB.out V.b V.p Ae Ac V.e.length ce V.c.length cc)
      clear he hc hx
      by_cases hb : V.b = blk
      · have HBB := Lib.hid hb
        rw [decide_eq_true hb] at HC
        clear hb
        go_wp2_with (go_at_fn 67; refine HC.out.mono ?_; rintro e w2 ⟨rfl, hb2⟩; have HB2 := Lib.hid hb2; clear hb2)
        go_ret
        refine ⟨by rw [idxB_some HX.out HBB.out HV.out]; rfl, HB.out.trans (Below.mono HB2.out HB.out.size)⟩
      · have HBB := Lib.hid hb
        rw [decide_eq_false hb] at HC
        clear hb
        go_wp2_with (go_at_fn 67; refine HC.out.mono ?_; rintro e w2 ⟨rfl, hb2⟩; have HB2 := Lib.hid hb2; clear hb2)
        refine ⟨⟨k + 1, rfl, hlt, Lib.hid ?_, Lib.hid (HB.out.trans (Below.mono HB2.out HB.out.size))⟩, by simp [intOf]; omega⟩
        intro j U hj hU
        by_cases e : j = k
        · subst e
          rw [HX.out] at hU
          cases hU
          exact HBB.out
        · exact HV.out j U (by omega) hU
    · have i1 : ¬ (k : Int) < (z : Int) := by omega
      obtain rfl : k = z := by omega
      go_wp2_with fail
      go_ret
      refine ⟨by rw [idxB_none (by rw [← HN.out]; exact HV.out)]; rfl, HB.out⟩
end Go.Proofs.Ytdahhnefcageeaa
