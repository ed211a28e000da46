/-
  The document's answer for cache (guillocheref07): Forget; the keys.
-/
import Derived.Test.YtplahkhohhbgaaaCacheRf6
namespace Go.Proofs.Ytplahkhohhbgaaa
open Go.RowKit Go.Proofs.Cch
set_option linter.unusedVariables false
set_option linter.unusedSimpArgs false
theorem brg {w w' : World} {g base : Nat} {t e : TypeId} {size n : Nat} {v : Value} {cs : Array Value} {xs : List Value} (h : Blk w g t cs) (hown : w.ownsRow base e size v n xs) (hg : g < base) (k : w.grownBy w' v.ownBlock) : Blk w' g t cs :=
  h.grown k (fun e => by have := (hown.lt g e).1; omega)
theorem pT_drop (ts : Things) (q : Nat) : pT (ts.drop q) = (pT ts).drop q := by unfold pT; rw [List.map_drop]
theorem Tp.drop' {w : World} {b o : Nat} {l : List (Value × Value)} (h : Tp w (some ⟨b, o, none⟩) l) (n : Nat) : Tp w (some ⟨b, o + n * 2, none⟩) (l.drop n) := by
  rcases h with h | ⟨b', o', e, h2, h3, h4⟩
  · exact .inl (by rw [h]; simp)
  · cases e
    refine .inr ⟨b, o + n * 2, rfl, h2, fun j t ht => ?_, h4⟩
    rw [List.getElem?_drop] at ht
    have := h3 (n + j) t ht
    rw [show o + n * 2 + j * 2 = o + (n + j) * 2 by omega]
    exact this

set_option maxRecDepth 100000 in
set_option maxHeartbeats 2000000 in
theorem rcforget_any (sz : Nat) (vA : Value) (C : Option Addr) (mC d : Nat) (ts : Things) (ask : Nat) (key : ByteArray) (w : World) (hA : Rp w vA (pT ts)) (hl : ts.length ≤ 64) :
    Calls Try.prog 23 #[.agg #[.int .i64 (sz : Int), vA, .slice C mC d, .int .i64 (ask : Int)], .string key] w (Ro w sz (.slice C mC d) ask (forgetF ts key).1 (forgetF ts key).2) := by
  obtain ⟨A, c, rfl, hTA, hA2, hA3⟩ := hA
  have RA : Hid (Rp w (.slice A (pT ts).length c) (pT ts)) := Lib.hid ⟨A, c, rfl, hTA, hA2, hA3⟩
  obtain ⟨mA, hmA⟩ : ∃ m, m = (pT ts).length := ⟨_, rfl⟩
  have hmA' : mA = ts.length := by rw [hmA, pT_length]
  rw [← hmA] at RA ⊢
  have HMA := Lib.hid hmA'
  have HCC := Lib.hid (show mA ≤ c by rw [hmA]; exact hA3)
  obtain ⟨N, hN⟩ : ∃ N, N = w.heap.size := ⟨_, rfl⟩
  obtain ⟨W1, hW1⟩ : ∃ W, W = (w.alloc (.cells #[.int .i64 (sz : Int), .slice A mA c, .slice C mC d, .int .i64 (ask : Int)] 30)).alloc (.cells #[.int .i64 0, .slice none 0 0, .slice none 0 0, .int .i64 0] 30) := ⟨_, rfl⟩
  obtain ⟨k0, k1, kb⟩ := boxes2 w (.int .i64 (sz : Int)) (.slice A mA c) (.slice C mC d) (.int .i64 (ask : Int)) N hN
  rw [← hW1] at k0 k1 kb
  have ra := RA.out.below (by rw [← hN]; exact kb.1 : Below w.heap.size w W1)
  have K0 := Lib.hid k0
  have K1 := Lib.hid k1
  have KB := Lib.hid kb
  have HW1 := Lib.hid hW1
  have HN := Lib.hid hN
  clear hTA hmA hmA' hN hW1 k0 k1 kb RA hA2 hA3
  have RA := Lib.hid ra
  clear ra
  have FD := Lib.hid (fun W (h : Rp W (.slice A mA c) (pT ts)) => rcfind_any (sz : Int) (.slice A mA c) (.slice C mC d) ts (ask : Int) key W h (by omega))
  have e0 : W1.cell? ⟨N, 0, none⟩ = some (.int .i64 (sz : Int)) := by rw [K0.out.cell]; rfl
  have e1 : W1.cell? ⟨N, 1, none⟩ = some (.slice A mA c) := by rw [K0.out.cell]; rfl
  have e2 : W1.cell? ⟨N, 2, none⟩ = some (.slice C mC d) := by rw [K0.out.cell]; rfl
  have e3 : W1.cell? ⟨N, 3, none⟩ = some (.int .i64 (ask : Int)) := by rw [K0.out.cell]; rfl
  have f1 := K0.out.frozen 1
  rcases placeOf_cases ts key with ⟨e, hno⟩ | ⟨kk, ⟨tk, tv⟩, e, ht, hk, _⟩
  · have ho : forgetF ts key = (ts, false) := by unfold forgetF; rw [if_pos e]
    rw [ho]
    rw [e] at FD
    clear ho e hno
    go_enter Try.func23, Try.ntmps23
    go_wp2_with fail
    rw [← HW1.out, ← HN.out]
    refine (FD.out _ RA.out).mono ?_
    rintro e w2 ⟨rfl, hb2⟩
    have K0 := Lib.hid (K0.out.below hb2)
    have K1 := Lib.hid (K1.out.below hb2)
    have KB := Lib.hid (KB.out.call hb2)
    have RA := Lib.hid (RA.out.below hb2)
    clear hb2 e0 e1 e2 e3 f1
    have e0 : w2.cell? ⟨N, 0, none⟩ = some (.int .i64 (sz : Int)) := by rw [K0.out.cell]; rfl
    have e1 : w2.cell? ⟨N, 1, none⟩ = some (.slice A mA c) := by rw [K0.out.cell]; rfl
    have e2 : w2.cell? ⟨N, 2, none⟩ = some (.slice C mC d) := by rw [K0.out.cell]; rfl
    have e3 : w2.cell? ⟨N, 3, none⟩ = some (.int .i64 (ask : Int)) := by rw [K0.out.cell]; rfl
    have f1 := K0.out.frozen 1
    have r0 : w2.cell? ⟨N + 1, 0, none⟩ = some (.int .i64 0) := by rw [K1.out.cell]; rfl
    have r1 : w2.cell? ⟨N + 1, 1, none⟩ = some (.slice none 0 0) := by rw [K1.out.cell]; rfl
    have r2 : w2.cell? ⟨N + 1, 2, none⟩ = some (.slice none 0 0) := by rw [K1.out.cell]; rfl
    have r3 : w2.cell? ⟨N + 1, 3, none⟩ = some (.int .i64 0) := by rw [K1.out.cell]; rfl
    have g0 := K1.out.frozen 0
    have g1 := K1.out.frozen 1
    have g2 := K1.out.frozen 2
    have g3 := K1.out.frozen 3
    obtain ⟨q1, q2, _, q4⟩ := set_box K1.out KB.out (by omega) (.int .i64 (sz : Int)) (.slice A mA c) (.slice C mC d) (.int .i64 (ask : Int))
    have Q1 := Lib.hid q1
    have Q2 := Lib.hid q2.1
    have QA := Lib.hid (q4 _ _ (str1_T _) RA.out)
    clear q1 q2 q4
    go_wp2_with fail
    refine bodyPost_ret (results_c2 rfl _ _ _ rfl rfl Q1.out.four) rfl ⟨_, rfl, QA.out, ?_⟩
    have := Q2.out
    rw [← HN.out]
    exact this
  · have ho : forgetF ts key = (ts.eraseIdx kk, true) := by unfold forgetF; rw [e, if_neg (by omega), Int.toNat_natCast]
    rw [ho]
    rw [e] at FD
    have hkk := (List.getElem?_eq_some_iff.1 ht).1
    have i1 : ¬ (kk : Int) < 0 := by omega
    have wk : IntKind.i64.wrap ((kk : Int) + 1) = (kk : Int) + 1 := IntWalk.i64_in _ (by omega)
    have HKK := Lib.hid hkk
    have HT := Lib.hid ht
    clear ho e ht hk hkk
    go_enter Try.func23, Try.ntmps23
    go_wp2_with fail
    rw [← HW1.out, ← HN.out]
    refine (FD.out _ RA.out).mono ?_
    rintro e w2 ⟨rfl, hb2⟩
    have K0 := Lib.hid (K0.out.below hb2)
    have K1 := Lib.hid (K1.out.below hb2)
    have KB := Lib.hid (KB.out.call hb2)
    have RA := Lib.hid (RA.out.below hb2)
    clear hb2 e0 e1 e2 e3 f1
    have hTP : Tp w2 A (pT ts) := by obtain ⟨_, _, hee, h, _⟩ := RA.out; cases hee; exact h
    obtain ⟨b, o, rfl, hbl, _, _⟩ := hTP.at_ kk _ (pT_at HT.out)
    obtain ⟨oo, hoo⟩ : ∃ q, q = if c = kk + 1 then o else o + (kk + 1) * 2 := ⟨_, rfl⟩
    have hcm := HCC.out
    have hmm := HMA.out
    have hkm := HKK.out
    have s1 : ∀ W : World, (Instr.slice 27 (.slice (some ⟨b, o, none⟩) mA c) (some (.int .i64 ((kk : Int) + 1))) none none).run Try.prog W = .ok (.slice (some ⟨b, oo, none⟩) (mA - (kk + 1)) (c - (kk + 1))) W := fun W => by
      have := ref_low b o mA c (kk + 1) (by omega) W
      rw [show (if c = kk + 1 then (some ⟨b, o, none⟩ : Option Addr) else some ⟨b, o + (kk + 1) * 2, none⟩) = some ⟨b, oo, none⟩ by rw [hoo]; split <;> rfl] at this
      rw [← this]
      rfl
    have s2 : ∀ W : World, (Instr.slice 27 (.slice (some ⟨b, o, none⟩) mA c) none (some (.int .i64 (kk : Int))) none).run Try.prog W = .ok (.slice (some ⟨b, o, none⟩) kk c) W := fun W => ref_high b o mA c kk (by omega) (by omega) (by omega) W
    have p1 : ∀ W : World, Below w2.heap.size w2 W → ∀ j y, (flat2 (pT (ts.take kk)))[j]? = some y → W.cell? ⟨b, o + j, none⟩ = some y := fun W hW => tp_flat (Tp.below (RA.out.cut' HMA.out kk) hW)
    have p2 : ∀ W : World, Below w2.heap.size w2 W → ∀ j y, (flat2 (pT (ts.drop (kk + 1))))[j]? = some y → W.cell? ⟨b, oo + j, none⟩ = some y := fun W hW j y hj => by
      by_cases hc : c = kk + 1
      · rw [List.drop_of_length_le (by omega)] at hj
        cases hj
      · rw [hoo, if_neg hc]
        rw [pT_drop] at hj
        exact tp_flat ((hTP.below hW).drop' (kk + 1)) j y hj
    have P1 := Lib.hid p1
    have P2 := Lib.hid p2
    have LF1 := Lib.hid (show (flat2 (pT (ts.take kk))).length = kk * 2 by rw [flat2_length, pT_length, List.length_take]; omega)
    have LF2 := Lib.hid (show (flat2 (pT (ts.drop (kk + 1)))).length = (mA - (kk + 1)) * 2 by rw [flat2_length, pT_length, List.length_drop]; omega)
    have NQ1 := Lib.hid (show 0 + kk ≤ 1000000 by omega)
    have NQ2 := Lib.hid (show 0 + kk + (mA - (kk + 1)) ≤ 1000000 by omega)
    have LL1 : Hid ((w2.alloc (.cells #[] 79)).drew.ownsRow w2.heap.size 79 2 (.slice (some ⟨w2.heap.size, 0, none⟩) 0 0) 0 []) := Lib.hid (own_drewN (lit_none w2 79 w2.heap.size rfl) 1)
    have EA : Hid (Below w2.heap.size w2 (w2.alloc (.cells #[] 79)).drew) := Lib.hid (((Below.refl _ _).alloc (Nat.le_refl _) _).drew)
    have N2 : Hid (w2.heap.size ≤ (w2.alloc (.cells #[] 79)).drew.heap.size) := Lib.hid (by simp)
    have HEN := Lib.hid (show ts.eraseIdx kk = ts.take kk ++ ts.drop (kk + 1) from List.eraseIdx_eq_take_drop_succ ..)
    have HLE := Lib.hid (show (pT (ts.take kk ++ ts.drop (kk + 1))).length = 0 + kk + (mA - (kk + 1)) by rw [pT_length, List.length_append, List.length_take, List.length_drop]; omega)
    have NN := Lib.hid (show N < w2.heap.size ∧ N + 1 < w2.heap.size from ⟨K0.out.lt, K1.out.lt⟩)
    clear hTP hoo hcm hmm hkm p1 p2
    have e0 : w2.cell? ⟨N, 0, none⟩ = some (.int .i64 (sz : Int)) := by rw [K0.out.cell]; rfl
    have e1 : w2.cell? ⟨N, 1, none⟩ = some (.slice (some ⟨b, o, none⟩) mA c) := by rw [K0.out.cell]; rfl
    have e2 : w2.cell? ⟨N, 2, none⟩ = some (.slice C mC d) := by rw [K0.out.cell]; rfl
    have e3 : w2.cell? ⟨N, 3, none⟩ = some (.int .i64 (ask : Int)) := by rw [K0.out.cell]; rfl
    have f1 := K0.out.frozen 1
    go_wp2_with fail
    have c1a : w2.drew.cell? ⟨N, 1, none⟩ = some (.slice (some ⟨b, o, none⟩) mA c) := e1
    have c1b : (w2.alloc (.cells #[] 79)).cell? ⟨N, 1, none⟩ = some (.slice (some ⟨b, o, none⟩) mA c) := by rw [Blk.cell (Blk.alloc (w := w2) K0.out _)]; rfl
    clear e0 e1 e2 e3 f1
    go_region_law (first
      | (refine step_append_two Try.underlying27 infoRefThing rfl (by decide) (by decide) rfl (.tmp 13) (.tmp 17) rfl rfl w2.heap.size _ _ _ b o kk c (flat2 (pT (ts.take kk))) rfl rfl LL1.out LF1.out (P1.out _ EA.out) (one2_T _) NQ1.out N2.out ?_; intro v5 w5 own5 gr5; rw [List.nil_append] at own5; have b1 := brg (K0.out.below EA.out) LL1.out NN.out.1 gr5; have b2 := brg (K1.out.below EA.out) LL1.out NN.out.2 gr5; have b3 := (KB.out.call EA.out).grownRow LL1.out KB.out.2 gr5; have b4 : Below w2.heap.size w2 w5 := (Bl.grownRow ⟨EA.out, N2.out⟩ LL1.out (Nat.le_refl _) gr5).1; have C1 := Blk.cell b1 1; simp only [List.getElem?_toArray, List.getElem?_cons_succ, List.getElem?_cons_zero] at C1; have C5 := Lib.hid b1; have C6 := Lib.hid b2; have C7 := Lib.hid b3; have C8 := Lib.hid b4; have O5 := Lib.hid own5; clear own5 gr5 b1 b2 b3 b4)
      | (refine step_append_two Try.underlying27 infoRefThing rfl (by decide) (by decide) rfl (.tmp 18) (.tmp 23) rfl rfl w2.heap.size v5 _ _ b oo (mA - (kk + 1)) (c - (kk + 1)) (flat2 (pT (ts.drop (kk + 1)))) rfl rfl O5.out LF2.out (P2.out _ C8.out) (one2_T _) NQ2.out C8.out.size ?_; intro v6 w6 own6 gr6; rw [← flat2_append, ← pT_append] at own6; have b4 := brg C5.out O5.out NN.out.1 gr6; have b5 := brg C6.out O5.out NN.out.2 gr6; have b6 := C7.out.grownRow O5.out KB.out.2 gr6; have K0n := Lib.hid b4; have K1n := Lib.hid b5; have KBn := Lib.hid b6; have O6 := Lib.hid own6; have h0 := Blk.cell b4 0; have h1 := Blk.cell b4 1; have h2 := Blk.cell b4 2; have h3 := Blk.cell b4 3; have hf := Blk.frozen b4 1; simp only [List.getElem?_toArray, List.getElem?_cons_succ, List.getElem?_cons_zero] at h0 h1 h2 h3; obtain ⟨A6, c6, hv6, _⟩ := Rp.of_own (l := pT (ts.take kk ++ ts.drop (kk + 1))) (by rw [HLE.out]; exact own6); rw [HLE.out] at hv6; obtain ⟨m6, hm6⟩ : ∃ m, m = 0 + kk + (mA - (kk + 1)) := ⟨_, rfl⟩; rw [← hm6] at hv6; have HM6 := Lib.hid hm6; subst hv6; clear hm6 own6 gr6 b4 b5 b6))
    all_goals
      have R5 : Hid (Rp w6 (.slice A6 m6 c6) (pT (ts.take kk ++ ts.drop (kk + 1)))) := Lib.hid (Rp.of_own (l := pT (ts.take kk ++ ts.drop (kk + 1))) (by have h := O6.out; rw [← HLE.out] at h; exact h))
      have F5 : Far (fun i => i = N) w6 (w6.setCell ⟨N, 1, none⟩ (.slice A6 m6 c6)) := (Far.refl (fun i => i = N) w6).setCell (p := ⟨N, 1, none⟩) (fun _ => rfl) _
      have k0 := K0n.out.set 1 (.slice A6 m6 c6)
      simp only [List.setIfInBounds_toArray, List.set_cons_zero, List.set_cons_succ] at k0
      have k1 := K1n.out.far F5 (by omega)
      have kb := KBn.out.setCell (p := ⟨N, 1, none⟩) (Nat.le_refl _) (.slice A6 m6 c6)
      have ra := R5.out.past (str1_T _) K0n.out (by intro i s; rcases i with _ | _ | _ | _ | i <;> simp) F5
      clear K0 K1 KB RA K0n K1n KBn F5 R5 O6 O5 h0 h1 h2 h3 hf c1a c1b C1 C5 C6 C7 C8 s1 s2
      have K0 := Lib.hid k0
      have K1 := Lib.hid k1
      have KB := Lib.hid kb
      have RA := Lib.hid (by rw [HEN.out]; exact ra : Rp (w6.setCell ⟨N, 1, none⟩ (.slice A6 m6 c6)) (.slice A6 m6 c6) (pT (ts.eraseIdx kk)))
      clear k0 k1 kb ra
      generalize w6.setCell ⟨N, 1, none⟩ (.slice A6 m6 c6) = w7 at *
      have e0 : w7.cell? ⟨N, 0, none⟩ = some (.int .i64 (sz : Int)) := by rw [K0.out.cell]; rfl
      have e1 : w7.cell? ⟨N, 1, none⟩ = some (.slice A6 m6 c6) := by rw [K0.out.cell]; rfl
      have e2 : w7.cell? ⟨N, 2, none⟩ = some (.slice C mC d) := by rw [K0.out.cell]; rfl
      have e3 : w7.cell? ⟨N, 3, none⟩ = some (.int .i64 (ask : Int)) := by rw [K0.out.cell]; rfl
      have f1 := K0.out.frozen 1
      have r0 : w7.cell? ⟨N + 1, 0, none⟩ = some (.int .i64 0) := by rw [K1.out.cell]; rfl
      have r1 : w7.cell? ⟨N + 1, 1, none⟩ = some (.slice none 0 0) := by rw [K1.out.cell]; rfl
      have r2 : w7.cell? ⟨N + 1, 2, none⟩ = some (.slice none 0 0) := by rw [K1.out.cell]; rfl
      have r3 : w7.cell? ⟨N + 1, 3, none⟩ = some (.int .i64 0) := by rw [K1.out.cell]; rfl
      have g0 := K1.out.frozen 0
      have g1 := K1.out.frozen 1
      have g2 := K1.out.frozen 2
      have g3 := K1.out.frozen 3
      obtain ⟨q1, q2, _, q4⟩ := set_box K1.out KB.out (by omega) (.int .i64 (sz : Int)) (.slice A6 m6 c6) (.slice C mC d) (.int .i64 (ask : Int))
      have Q1 := Lib.hid q1
      have Q2 := Lib.hid q2.1
      have QA := Lib.hid (q4 _ _ (str1_T _) RA.out)
      clear q1 q2 q4
      go_wp2_with fail
      refine bodyPost_ret (results_c2 rfl _ _ _ rfl rfl Q1.out.four) rfl ⟨_, rfl, QA.out, ?_⟩
      have := Q2.out
      rw [← HN.out]
      exact this
set_option maxRecDepth 100000 in
set_option maxHeartbeats 1000000 in
theorem rckeys_any (z : Int) (vA vC : Value) (ts : Things) (ak : Int) (w : World) (hA : Rp w vA (pT ts)) (hl : ts.length ≤ 1000) :
    Calls Try.prog 26 #[.agg #[.int .i64 z, vA, vC, .int .i64 ak]] w fun e w' => ∃ v', e = .returned v' ∧ w'.ownsRow w.heap.size 9 1 v' (keysF ts).length ((keysF ts).map Value.string) ∧ Below w.heap.size w w' := by
  obtain ⟨A, c, rfl, hT, _, _⟩ := hA
  rw [pT_length]
  obtain ⟨N, hN⟩ : ∃ N, N = w.heap.size := ⟨_, rfl⟩
  obtain ⟨W1, hW1⟩ : ∃ W, W = w.alloc (.cells #[.int .i64 z, .slice A ts.length c, vC, .int .i64 ak] 30) := ⟨_, rfl⟩
  have k0 : Blk W1 N 30 #[.int .i64 z, .slice A ts.length c, vC, .int .i64 ak] := by rw [hW1, hN]; exact Blk.new w _ _
  have kb : Bl N w W1 := by rw [hW1, hN]; exact (Bl.start w).alloc _
  have hs1 : W1.heap.size = N + 1 := by rw [hW1, hN]; simp
  have HT := Lib.hid (hT.below (by rw [← hN]; exact kb.1 : Below w.heap.size w W1))
  have K0 := Lib.hid k0
  have KB := Lib.hid kb
  have HW1 := Lib.hid hW1
  have HN := Lib.hid hN
  have HS1 := Lib.hid hs1
  clear hT hN hW1 k0 kb hs1
  go_enter Try.func26, Try.ntmps26
  go_wp2_with fail
  rw [← HW1.out, ← HN.out]
  go_loopw [3, 4] (fun vo vi wr => ∃ k : Nat, vi = .int .i64 (k : Int) ∧ k ≤ ts.length ∧ Hid (wr.ownsRow W1.heap.size 9 1 vo (keysF (ts.take k)).length ((keysF (ts.take k)).map Value.string)) ∧ Hid (Bl W1.heap.size W1 wr)) (fun _ vi _ => ts.length - (intOf vi).toNat)
  case atStart => exact ⟨0, rfl, Nat.zero_le _, Lib.hid ⟨rfl, .inl ⟨rfl, rfl⟩⟩, Lib.hid (Bl.start W1)⟩
  case round =>
    obtain ⟨k, rfl, hk, HO, HB⟩ := hrel
    have e1 : wr.cell? ⟨N, 1, none⟩ = some (.slice A ts.length c) := by rw [(K0.out.below HB.out.1).cell]; rfl
    by_cases hlt : k < ts.length
    · obtain ⟨⟨tk, tv⟩, ht⟩ : ∃ t, ts[k]? = some t := ⟨_, List.getElem?_eq_getElem hlt⟩
      obtain ⟨b, o, rfl, _, d0, d1⟩ := (HT.out.below HB.out.1).at_ k _ (pT_at ht)
      simp only at d0 d1
      have i1 : (k : Int) < (ts.length : Int) := by omega
      have wk : IntKind.i64.wrap ((k : Int) + 1) = (k : Int) + 1 := IntWalk.i64_in _ (by omega)
      have hks : keysF (ts.take (k + 1)) = keysF (ts.take k) ++ [tk] := by
        unfold keysF
        rw [List.take_add_one, ht, List.map_append]
        rfl
      have hkl : (keysF (ts.take k)).length = k := by unfold keysF; rw [List.length_map, List.length_take]; omega
      have HKS := Lib.hid hks
      have N1 : Hid ((keysF (ts.take k)).length + [tk].length ≤ 1000000) := Lib.hid (by rw [hkl]; simp; omega)
      have B1 : Hid (Bl W1.heap.size W1 (wr.alloc (.cells #[.string tk] 9))) := Lib.hid (HB.out.alloc _)
      clear ht hks hkl
      go_wp2_with (at_builtin; (refine wpList_append_strs rfl _ _ rfl rfl W1.heap.size _ _ (keysF (ts.take k)) [tk] rfl rfl (World.ownsRow.alloc HO.out _) (one_lit _ tk) N1.out B1.out.2 ?_; intro v5 w5 own5 gr5 _; have b5 := B1.out.grownRow (World.ownsRow.alloc HO.out _) (Nat.le_refl _) gr5; have B5 := Lib.hid b5; have O5 := Lib.hid own5; clear own5 gr5 b5))
      refine ⟨⟨k + 1, by go_num, by omega, Lib.hid ?_, B5⟩, by simp [intOf]; omega⟩
      rw [HKS.out]
      exact O5.out
    · obtain rfl : k = ts.length := by omega
      go_wp2_with fail
      go_ret
      have := HO.out
      rw [List.take_length] at this
      refine ⟨_, rfl, own_base this (by rw [HS1.out, ← HN.out]; omega), ?_⟩
      rw [← HN.out]
      exact (KB.out.call HB.out.1).1
end Go.Proofs.Ytplahkhohhbgaaa
