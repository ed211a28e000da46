/-
  The document's answer for cache (guillocheref07): Offer.
-/
import Derived.Test.YtplahkhohhbgaaaCacheRf5
import Derived.Deep.RegionHeld3
import Derived.Deep.CutBlock
namespace Go.Proofs.Ytplahkhohhbgaaa
open Go.RowKit Go.Proofs.Cch
set_option linter.unusedVariables false
set_option linter.unusedSimpArgs false
/-- What Offer, and Forget, hand back. -/
def Ro (w : World) (sz : Nat) (vC : Value) (ask : Nat) (ts : Things) (b : Bool) (e : Ending) (w' : World) : Prop :=
  ∃ vA, e = .returned (.tuple #[.agg #[.int .i64 (sz : Int), vA, vC, .int .i64 (ask : Int)], .bool b]) ∧ Rp w' vA (pT ts) ∧ Below w.heap.size w w'
theorem first_none {ts : Things} {key value : ByteArray} (h : ∀ (j : Nat) (t : ByteArray × ByteArray), ts[j]? = some t → t.1 ≠ key) : firstF ts (key, value) = (key, value) :: ts := by
  unfold firstF
  rw [List.filter_eq_self.2]
  intro y hy
  obtain ⟨j, hj⟩ := List.getElem?_of_mem hy
  simpa using h j y hj
theorem first_at {ts : Things} {k : Nat} {t : ByteArray × ByteArray} {key value : ByteArray} (hn : (keysF ts).Nodup) (ht : ts[k]? = some t) (hk : t.1 = key) : firstF ts (key, value) = (key, value) :: ts.eraseIdx k := by
  subst hk
  unfold firstF
  rw [← filter_erase ts k t hn ht]
theorem Rp.cut {w : World} {b o c : Nat} {l : List (Value × Value)} (h : Rp w (.slice (some ⟨b, o, none⟩) l.length c) l) (n : Nat) : Tp w (some ⟨b, o, none⟩) (l.take n) := by
  obtain ⟨A', c', he, hT, _⟩ := h
  cases he
  rcases hT with h | ⟨b', o', e, h2, h3, h4⟩
  · exact .inl (by rw [h]; simp)
  · cases e
    refine .inr ⟨b, o, rfl, h2, fun j t ht => h3 j t ?_, h4⟩
    rw [List.getElem?_take] at ht
    split at ht
    · exact ht
    · cases ht

theorem tp_flat {w : World} {b o : Nat} {l : List (Value × Value)} (h : Tp w (some ⟨b, o, none⟩) l) : ∀ j y, (flat2 l)[j]? = some y → w.cell? ⟨b, o + j, none⟩ = some y := by
  intro j y hy
  have hj := (List.getElem?_eq_some_iff.1 hy).1
  rw [flat2_length] at hj
  obtain ⟨i, hi⟩ : ∃ i, j = i * 2 ∨ j = i * 2 + 1 := ⟨j / 2, by omega⟩
  obtain ⟨t, ht⟩ : ∃ t, l[i]? = some t := ⟨_, List.getElem?_eq_getElem (by omega)⟩
  obtain ⟨b', o', e, _, c0, c1⟩ := h.at_ i t ht
  cases e
  obtain ⟨g0, g1⟩ := flat2_get l i t ht
  rcases hi with rfl | rfl
  · rw [g0] at hy
    cases hy
    exact c0
  · rw [g1] at hy
    cases hy
    rw [← Nat.add_assoc]
    exact c1
theorem pT_take (ts : Things) (q : Nat) : pT (ts.take q) = (pT ts).take q := by unfold pT; rw [List.map_take]
theorem Rp.cut' {w : World} {b o c mA : Nat} {ts : Things} (h : Rp w (.slice (some ⟨b, o, none⟩) mA c) (pT ts)) (hm : mA = ts.length) (q : Nat) : Tp w (some ⟨b, o, none⟩) (pT (ts.take q)) := by
  rw [pT_take]
  rw [hm, ← pT_length] at h
  exact h.cut q
theorem elemRT : Try.prog.underlying 27 = some (.slice (Try.prog.elem 27)) := by kernel_rfl
theorem sizeRT (W : World) : (sizeOf (Try.prog.elem 27)).run Try.prog W = .ok 2 W := by kernel_rfl
/-- s[:h] of things. -/
theorem ref_high (b o m cap h : Nat) (hm : h ≤ m) (hh : h ≤ cap) (hc : 0 < cap) (W : World) : (Instr.slice 27 (.slice (some ⟨b, o, none⟩) m cap) none (some (.int .i64 (h : Int))) none).run Try.prog W = .ok (.slice (some ⟨b, o, none⟩) h cap) W := by
  rw [run_slice_h W 27 (some ⟨b, o, none⟩) m cap elemRT .i64 (h : Int) (by omega) (by omega), sizeRT]
  simp [Result.andThen, sliced, Addr.add]
/-- s[l:] of things. -/
theorem ref_low (b o m cap l : Nat) (hl : l ≤ m) (W : World) : (Instr.slice 27 (.slice (some ⟨b, o, none⟩) m cap) (some (.int .i64 (l : Int))) none none).run Try.prog W = .ok (.slice (if cap = l then some ⟨b, o, none⟩ else some ⟨b, o + l * 2, none⟩) (m - l) (cap - l)) W := by
  rw [run_slice_l W 27 (some ⟨b, o, none⟩) m cap elemRT .i64 (l : Int) (by omega) (by omega), sizeRT]
  simp only [Result.andThen, sliced, Int.toNat_natCast, Option.map_some, Addr.add_mid]
set_option maxRecDepth 100000 in
set_option maxHeartbeats 2000000 in
theorem rcoffer_any (sz : Nat) (vA vC : Value) (ts : Things) (cs : Counts) (ask : Nat) (key value : ByteArray) (w : World) (hA : Rp w vA (pT ts)) (hC : Rp w vC (pC cs)) (hl : ts.length ≤ sz) (hs : sz ≤ 64) (hlc : cs.length ≤ 90000) (hnt : (keysF ts).Nodup) :
    Calls Try.prog 21 #[.agg #[.int .i64 (sz : Int), vA, vC, .int .i64 (ask : Int)], .string key, .string value] w (Ro w sz vC ask (offerF sz ts cs key value).1 (offerF sz ts cs key value).2) := by
  obtain ⟨A, c, rfl, hTA, hA2, hA3⟩ := hA
  obtain ⟨C, d, rfl, hTC, hC2, hC3⟩ := hC
  have RA : Hid (Rp w (.slice A (pT ts).length c) (pT ts)) := Lib.hid ⟨A, c, rfl, hTA, hA2, hA3⟩
  have RC : Hid (Rp w (.slice C (pC cs).length d) (pC cs)) := Lib.hid ⟨C, d, rfl, hTC, hC2, hC3⟩
  obtain ⟨mA, hmA⟩ : ∃ m, m = (pT ts).length := ⟨_, rfl⟩
  obtain ⟨mC, hmC⟩ : ∃ m, m = (pC cs).length := ⟨_, rfl⟩
  have hmA' : mA = ts.length := by rw [hmA, pT_length]
  rw [← hmA] at RA ⊢
  rw [← hmC] at RC ⊢
  have HMA := Lib.hid hmA'
  obtain ⟨N, hN⟩ : ∃ N, N = w.heap.size := ⟨_, rfl⟩
  obtain ⟨W1, hW1⟩ : ∃ W, W = ((w.alloc (.cells #[.int .i64 (sz : Int), .slice A mA c, .slice C mC d, .int .i64 (ask : Int)] 30)).alloc (.cells #[.int .i64 0, .slice none 0 0, .slice none 0 0, .int .i64 0] 30)).alloc (.cells #[.string key, .string value] 79) := ⟨_, rfl⟩
  obtain ⟨k0, k1, kb⟩ := boxes2 w (.int .i64 (sz : Int)) (.slice A mA c) (.slice C mC d) (.int .i64 (ask : Int)) N hN
  have kx := Blk.new ((w.alloc (.cells #[.int .i64 (sz : Int), .slice A mA c, .slice C mC d, .int .i64 (ask : Int)] 30)).alloc (.cells #[.int .i64 0, .slice none 0 0, .slice none 0 0, .int .i64 0] 30)) 79 #[.string key, .string value]
  have k0 := k0.alloc (.cells #[.string key, .string value] 79)
  have k1 := k1.alloc (.cells #[.string key, .string value] 79)
  have kb := kb.alloc (.cells #[.string key, .string value] 79)
  rw [show ((w.alloc (.cells #[.int .i64 (sz : Int), .slice A mA c, .slice C mC d, .int .i64 (ask : Int)] 30)).alloc (.cells #[.int .i64 0, .slice none 0 0, .slice none 0 0, .int .i64 0] 30)).heap.size = N + 1 + 1 by rw [hN]; simp] at kx
  rw [← hW1] at k0 k1 kb kx
  have ra := RA.out.below (by rw [← hN]; exact kb.1 : Below w.heap.size w W1)
  have rc := RC.out.below (by rw [← hN]; exact kb.1 : Below w.heap.size w W1)
  have K0 := Lib.hid k0
  have K1 := Lib.hid k1
  have KX := Lib.hid kx
  have KB := Lib.hid kb
  have HW1 := Lib.hid hW1
  have HN := Lib.hid hN
  have HNT := Lib.hid hnt
  clear hTA hTC hmA hmC hmA' hN hW1 k0 k1 kb kx RA RC hnt
  have RA := Lib.hid ra
  have RC := Lib.hid rc
  clear ra rc
  have FD := Lib.hid (fun W (h : Rp W (.slice A mA c) (pT ts)) => rcfind_any (sz : Int) (.slice A mA c) (.slice C mC d) ts (ask : Int) key W h (by omega))
  have FST : Hid (∀ W A' m' c' (l : Things), l.length ≤ 1000 → Rp W (.slice A' m' c') (pT l) → Calls Try.prog 47 #[.agg #[.int .i64 (sz : Int), .slice A' m' c', .slice C mC d, .int .i64 (ask : Int)], .agg #[.string key, .string value]] W fun e w' => ∃ v', e = .returned (.agg #[.int .i64 (sz : Int), v', .slice C mC d, .int .i64 (ask : Int)]) ∧ Rp w' v' (pT (firstF l (key, value))) ∧ Below W.heap.size W w') := Lib.hid (fun W A' m' c' l hl h => rcfirst_any (sz : Int) (.slice A' m' c') C mC d l (ask : Int) (key, value) W h hl)
  have OFT := Lib.hid (fun W s (h : Rp W (.slice C mC d) (pC cs)) => rcoften_any (sz : Int) (.slice A mA c) (.slice C mC d) cs (ask : Int) s W h (by omega))
  have HLL := Lib.hid (by omega : ts.length ≤ 1000)
  have e0 : W1.cell? ⟨N, 0, none⟩ = some (.int .i64 (sz : Int)) := by rw [K0.out.cell]; rfl
  have e1 : W1.cell? ⟨N, 1, none⟩ = some (.slice A mA c) := by rw [K0.out.cell]; rfl
  have e2 : W1.cell? ⟨N, 2, none⟩ = some (.slice C mC d) := by rw [K0.out.cell]; rfl
  have e3 : W1.cell? ⟨N, 3, none⟩ = some (.int .i64 (ask : Int)) := by rw [K0.out.cell]; rfl
  have f0 := K0.out.frozen 0
  have f1 := K0.out.frozen 1
  have f2 := K0.out.frozen 2
  have f3 := K0.out.frozen 3
  have x0 : W1.cell? ⟨N + 1 + 1, 0, none⟩ = some (.string key) := by rw [KX.out.cell]; rfl
  have x1 : W1.cell? ⟨N + 1 + 1, 1, none⟩ = some (.string value) := by rw [KX.out.cell]; rfl
  rcases placeOf_cases ts key with ⟨e, hno⟩ | ⟨kk, ⟨tk, tv⟩, e, ht, hk, _⟩
  · rw [e] at FD
    by_cases hlt : ts.length < sz
    · have ho : offerF sz ts cs key value = ((key, value) :: ts, true) := by unfold offerF; rw [if_pos e, if_neg (by omega)]
      rw [ho, ← first_none hno]
      have i1 : (mA : Int) < (sz : Int) := by have := HMA.out; omega
      clear ho hno e
      go_enter Try.func21, Try.ntmps21
      go_wp2_with fail
      rw [← HW1.out, ← HN.out]
      refine (FD.out _ RA.out).mono ?_
      rintro e w2 ⟨rfl, hb2⟩
      have K0 := Lib.hid (K0.out.below hb2)
      have K1 := Lib.hid (K1.out.below hb2)
      have KX := Lib.hid (KX.out.below hb2)
      have KB := Lib.hid (KB.out.call hb2)
      have RA := Lib.hid (RA.out.below hb2)
      have RC := Lib.hid (RC.out.below hb2)
      clear hb2 e0 e1 e2 e3 f0 f1 f2 f3 x0 x1
      have e0 : w2.cell? ⟨N, 0, none⟩ = some (.int .i64 (sz : Int)) := by rw [K0.out.cell]; rfl
      have e1 : w2.cell? ⟨N, 1, none⟩ = some (.slice A mA c) := by rw [K0.out.cell]; rfl
      have e2 : w2.cell? ⟨N, 2, none⟩ = some (.slice C mC d) := by rw [K0.out.cell]; rfl
      have e3 : w2.cell? ⟨N, 3, none⟩ = some (.int .i64 (ask : Int)) := by rw [K0.out.cell]; rfl
      have f0 := K0.out.frozen 0
      have f1 := K0.out.frozen 1
      have f2 := K0.out.frozen 2
      have f3 := K0.out.frozen 3
      have x0 : w2.cell? ⟨N + 1 + 1, 0, none⟩ = some (.string key) := by rw [KX.out.cell]; rfl
      have x1 : w2.cell? ⟨N + 1 + 1, 1, none⟩ = some (.string value) := by rw [KX.out.cell]; rfl
      go_wp2_with fail
      refine (FST.out _ _ _ _ _ HLL.out RA.out).mono ?_
      rintro e w8 ⟨v8, rfl, hR8, hb8⟩
      obtain ⟨A8, c8, hv8, _⟩ := id hR8
      obtain ⟨m8, hm8⟩ : ∃ m, m = (pT (firstF ts (key, value))).length := ⟨_, rfl⟩
      rw [← hm8] at hv8
      subst hv8
      clear e0 e1 e2 e3 f0 f1 f2 f3 x0 x1 hm8
      have K0 := Lib.hid (K0.out.below hb8)
      have K1 := Lib.hid (K1.out.below hb8)
      have KX := Lib.hid (KX.out.below hb8)
      have KB := Lib.hid (KB.out.call hb8)
      have RA := Lib.hid hR8
      have RC := Lib.hid (RC.out.below hb8)
      clear hR8 hb8
      have e0 : w8.cell? ⟨N, 0, none⟩ = some (.int .i64 (sz : Int)) := by rw [K0.out.cell]; rfl
      have e1 : w8.cell? ⟨N, 1, none⟩ = some (.slice A mA c) := by rw [K0.out.cell]; rfl
      have e2 : w8.cell? ⟨N, 2, none⟩ = some (.slice C mC d) := by rw [K0.out.cell]; rfl
      have e3 : w8.cell? ⟨N, 3, none⟩ = some (.int .i64 (ask : Int)) := by rw [K0.out.cell]; rfl
      have f0 := K0.out.frozen 0
      have f1 := K0.out.frozen 1
      have f2 := K0.out.frozen 2
      have f3 := K0.out.frozen 3
      have x0 : w8.cell? ⟨N + 1 + 1, 0, none⟩ = some (.string key) := by rw [KX.out.cell]; rfl
      have x1 : w8.cell? ⟨N + 1 + 1, 1, none⟩ = some (.string value) := by rw [KX.out.cell]; rfl
      have r0 : w8.cell? ⟨N + 1, 0, none⟩ = some (.int .i64 0) := by rw [K1.out.cell]; rfl
      have r1 : w8.cell? ⟨N + 1, 1, none⟩ = some (.slice none 0 0) := by rw [K1.out.cell]; rfl
      have r2 : w8.cell? ⟨N + 1, 2, none⟩ = some (.slice none 0 0) := by rw [K1.out.cell]; rfl
      have r3 : w8.cell? ⟨N + 1, 3, none⟩ = some (.int .i64 0) := by rw [K1.out.cell]; rfl
      have g0 := K1.out.frozen 0
      have g1 := K1.out.frozen 1
      have g2 := K1.out.frozen 2
      have g3 := K1.out.frozen 3
      obtain ⟨q1, q2, _, q4⟩ := set_box K1.out KB.out (by omega) (.int .i64 (sz : Int)) (.slice A8 m8 c8) (.slice C mC d) (.int .i64 (ask : Int))
      have Q1 := Lib.hid q1
      have Q2 := Lib.hid q2.1
      have QA := Lib.hid (q4 _ _ (str1_T _) RA.out)
      clear q1 q2 q4
      go_wp2_with fail
      refine bodyPost_ret (results_c2 rfl _ _ _ rfl rfl Q1.out.four) rfl ⟨_, rfl, QA.out, ?_⟩
      have := Q2.out
      rw [← HN.out]
      exact this
    · have hls : ts.length = sz := by omega
      have i1 : ¬ (mA : Int) < (sz : Int) := by have := HMA.out; omega
      by_cases hz : sz = 0
      · have ho : offerF sz ts cs key value = (ts, false) := by
          unfold offerF
          rw [if_pos e, if_pos hls]
          rw [List.getElem?_eq_none (by omega)]
        rw [ho]
        have i2 : ((sz : Int) == 0) = true := by simp; omega
        clear ho hno e hz hls
        go_enter Try.func21, Try.ntmps21
        go_wp2_with fail
        rw [← HW1.out, ← HN.out]
        refine (FD.out _ RA.out).mono ?_
        rintro e w2 ⟨rfl, hb2⟩
        have K0 := Lib.hid (K0.out.below hb2)
        have K1 := Lib.hid (K1.out.below hb2)
        have KX := Lib.hid (KX.out.below hb2)
        have KB := Lib.hid (KB.out.call hb2)
        have RA := Lib.hid (RA.out.below hb2)
        have RC := Lib.hid (RC.out.below hb2)
        clear hb2 e0 e1 e2 e3 f0 f1 f2 f3 x0 x1
        have e0 : w2.cell? ⟨N, 0, none⟩ = some (.int .i64 (sz : Int)) := by rw [K0.out.cell]; rfl
        have e1 : w2.cell? ⟨N, 1, none⟩ = some (.slice A mA c) := by rw [K0.out.cell]; rfl
        have e2 : w2.cell? ⟨N, 2, none⟩ = some (.slice C mC d) := by rw [K0.out.cell]; rfl
        have e3 : w2.cell? ⟨N, 3, none⟩ = some (.int .i64 (ask : Int)) := by rw [K0.out.cell]; rfl
        have f0 := K0.out.frozen 0
        have f1 := K0.out.frozen 1
        have f2 := K0.out.frozen 2
        have f3 := K0.out.frozen 3
        have x0 : w2.cell? ⟨N + 1 + 1, 0, none⟩ = some (.string key) := by rw [KX.out.cell]; rfl
        have x1 : w2.cell? ⟨N + 1 + 1, 1, none⟩ = some (.string value) := by rw [KX.out.cell]; rfl
        go_wp2_with fail
        go_quiet (fail)
        have K0 := Lib.hid (K0.out.below (below_drewN (Below.refl _ w2) nq))
        have K1 := Lib.hid (K1.out.below (below_drewN (Below.refl _ w2) nq))
        have KX := Lib.hid (KX.out.below (below_drewN (Below.refl _ w2) nq))
        have KB := Lib.hid (KB.out.call (below_drewN (Below.refl _ w2) nq))
        have RA := Lib.hid (RA.out.below (below_drewN (Below.refl _ w2) nq))
        have RC := Lib.hid (RC.out.below (below_drewN (Below.refl _ w2) nq))
        generalize w2.drewN nq = w3 at *
        clear e0 e1 e2 e3 f0 f1 f2 f3 x0 x1
        have e0 : w3.cell? ⟨N, 0, none⟩ = some (.int .i64 (sz : Int)) := by rw [K0.out.cell]; rfl
        have e1 : w3.cell? ⟨N, 1, none⟩ = some (.slice A mA c) := by rw [K0.out.cell]; rfl
        have e2 : w3.cell? ⟨N, 2, none⟩ = some (.slice C mC d) := by rw [K0.out.cell]; rfl
        have e3 : w3.cell? ⟨N, 3, none⟩ = some (.int .i64 (ask : Int)) := by rw [K0.out.cell]; rfl
        have f0 := K0.out.frozen 0
        have f1 := K0.out.frozen 1
        have f2 := K0.out.frozen 2
        have f3 := K0.out.frozen 3
        have x0 : w3.cell? ⟨N + 1 + 1, 0, none⟩ = some (.string key) := by rw [KX.out.cell]; rfl
        have x1 : w3.cell? ⟨N + 1 + 1, 1, none⟩ = some (.string value) := by rw [KX.out.cell]; rfl
        have r0 : w3.cell? ⟨N + 1, 0, none⟩ = some (.int .i64 0) := by rw [K1.out.cell]; rfl
        have r1 : w3.cell? ⟨N + 1, 1, none⟩ = some (.slice none 0 0) := by rw [K1.out.cell]; rfl
        have r2 : w3.cell? ⟨N + 1, 2, none⟩ = some (.slice none 0 0) := by rw [K1.out.cell]; rfl
        have r3 : w3.cell? ⟨N + 1, 3, none⟩ = some (.int .i64 0) := by rw [K1.out.cell]; rfl
        have g0 := K1.out.frozen 0
        have g1 := K1.out.frozen 1
        have g2 := K1.out.frozen 2
        have g3 := K1.out.frozen 3
        obtain ⟨q1, q2, _, q4⟩ := set_box K1.out KB.out (by omega) (.int .i64 (sz : Int)) (.slice A mA c) (.slice C mC d) (.int .i64 (ask : Int))
        have Q1 := Lib.hid q1
        have Q2 := Lib.hid q2.1
        have QA := Lib.hid (q4 _ _ (str1_T _) RA.out)
        clear q1 q2 q4
        go_wp2_with fail
        refine bodyPost_ret (results_c2 rfl _ _ _ rfl rfl Q1.out.four) rfl ⟨_, rfl, QA.out, ?_⟩
        have := Q2.out
        rw [← HN.out]
        exact this
      · obtain ⟨⟨tk, tv⟩, ht⟩ : ∃ t, ts[sz - 1]? = some t := ⟨_, List.getElem?_eq_getElem (by omega)⟩
        obtain ⟨q, hq⟩ : ∃ q, q = mA - 1 := ⟨_, rfl⟩
        have hqs : q = sz - 1 := by have := HMA.out; omega
        have wq : IntKind.i64.wrap ((mA : Int) - 1) = (q : Int) := by rw [IntWalk.i64_in _ (by have := HMA.out; omega)]; have := HMA.out; omega
        have i2 : ((sz : Int) == 0) = false := by simp; omega
        have i3 : (q : Int) < (mA : Int) := by have := HMA.out; omega
        have hqm : q ≤ mA := by omega
        rw [← hqs] at ht
        have HT := Lib.hid ht
        have HQM := Lib.hid hqm
        by_cases hc : cntAt cs key ≤ cntAt cs tk
        · have ho : offerF sz ts cs key value = (ts, false) := by
            unfold offerF
            rw [if_pos e, if_pos hls, ← hqs, ht]
            simp only
            rw [if_pos hc]
          rw [ho]
          obtain ⟨n1, hn1⟩ : ∃ n, n = cntAt cs key := ⟨_, rfl⟩
          obtain ⟨n2, hn2⟩ : ∃ n, n = cntAt cs tk := ⟨_, rfl⟩
          have O1 := Lib.hid (fun W (h : Rp W (.slice C mC d) (pC cs)) => OFT.out W key h)
          have O2 := Lib.hid (fun W (h : Rp W (.slice C mC d) (pC cs)) => OFT.out W tk h)
          rw [← hn1] at O1
          rw [← hn2] at O2
          have i4 : (n1 : Int) ≤ (n2 : Int) := by omega
          clear ho hno e hz hls hq hqs hc hn1 hn2 ht hqm
          go_enter Try.func21, Try.ntmps21
          go_wp2_with fail
          rw [← HW1.out, ← HN.out]
          refine (FD.out _ RA.out).mono ?_
          rintro e w2 ⟨rfl, hb2⟩
          have K0 := Lib.hid (K0.out.below hb2)
          have K1 := Lib.hid (K1.out.below hb2)
          have KX := Lib.hid (KX.out.below hb2)
          have KB := Lib.hid (KB.out.call hb2)
          have RA := Lib.hid (RA.out.below hb2)
          have RC := Lib.hid (RC.out.below hb2)
          clear hb2 e0 e1 e2 e3 f0 f1 f2 f3 x0 x1
          have e0 : w2.cell? ⟨N, 0, none⟩ = some (.int .i64 (sz : Int)) := by rw [K0.out.cell]; rfl
          have e1 : w2.cell? ⟨N, 1, none⟩ = some (.slice A mA c) := by rw [K0.out.cell]; rfl
          have e2 : w2.cell? ⟨N, 2, none⟩ = some (.slice C mC d) := by rw [K0.out.cell]; rfl
          have e3 : w2.cell? ⟨N, 3, none⟩ = some (.int .i64 (ask : Int)) := by rw [K0.out.cell]; rfl
          have f0 := K0.out.frozen 0
          have f1 := K0.out.frozen 1
          have f2 := K0.out.frozen 2
          have f3 := K0.out.frozen 3
          have x0 : w2.cell? ⟨N + 1 + 1, 0, none⟩ = some (.string key) := by rw [KX.out.cell]; rfl
          have x1 : w2.cell? ⟨N + 1 + 1, 1, none⟩ = some (.string value) := by rw [KX.out.cell]; rfl
          have hTP : Tp w2 A (pT ts) := by obtain ⟨_, _, hee, h, _⟩ := RA.out; cases hee; exact h
          obtain ⟨b, o, rfl, hbl, d0, d1'⟩ := hTP.at_ q _ (pT_at HT.out)
          simp only at d0 d1'
          have ST : Hid (∀ W : World, Below w2.heap.size w2 W → W.cell? ⟨N, 0, none⟩ = some (.int .i64 (sz : Int)) ∧ W.cell? ⟨N, 1, none⟩ = some (.slice (some ⟨b, o, none⟩) mA c) ∧ W.cell? ⟨N, 2, none⟩ = some (.slice C mC d) ∧ W.cell? ⟨N, 3, none⟩ = some (.int .i64 (ask : Int)) ∧ W.cell? ⟨b, o + q * 2, none⟩ = some (.string tk)) := Lib.hid (fun W hW =>
            ⟨(hW.cell (p := ⟨N, 0, none⟩) K0.out.lt).trans e0, (hW.cell (p := ⟨N, 1, none⟩) K0.out.lt).trans e1, (hW.cell (p := ⟨N, 2, none⟩) K0.out.lt).trans e2, (hW.cell (p := ⟨N, 3, none⟩) K0.out.lt).trans e3, (hW.cell (p := ⟨b, _, none⟩) hbl).trans d0⟩)
          have E0 : Hid (Below w2.heap.size w2 w2.drew) := Lib.hid (Below.refl _ _).drew
          have RCd : Hid (Rp w2.drew (.slice C mC d) (pC cs)) := Lib.hid (RC.out.below E0.out)
          clear hTP
          go_wp2_with fail
          clear e0 e1 e2 e3 d0 d1'
          go_region_held3 (fun W => W.cell? ⟨N, 0, none⟩ = some (.int .i64 (sz : Int)) ∧ W.cell? ⟨N, 1, none⟩ = some (.slice (some ⟨b, o, none⟩) mA c) ∧ W.cell? ⟨N, 2, none⟩ = some (.slice C mC d) ∧ W.cell? ⟨N, 3, none⟩ = some (.int .i64 (ask : Int)) ∧ W.cell? ⟨b, o + q * 2, none⟩ = some (.string tk))
            (first | exact ST.out _ E0.out | exact ST.out _ B3.out | exact ST.out _ B4.out)
            (first
              | (go_at_call_of 28 (Value.string key); refine (O1.out _ RCd.out).mono ?_; rintro e w3 ⟨rfl, hb3⟩; have B3 := Lib.hid (E0.out.trans (hb3.mono E0.out.size)); have RC3 := Lib.hid (RCd.out.below hb3); clear hb3)
              | (go_at_call_of 28 (Value.string tk); refine (O2.out _ RC3.out).mono ?_; rintro e w4 ⟨rfl, hb4⟩; have B4 := Lib.hid (B3.out.trans (hb4.mono B3.out.size)); clear hb4))
          have K0 := Lib.hid (K0.out.below B4.out)
          have K1 := Lib.hid (K1.out.below B4.out)
          have KX := Lib.hid (KX.out.below B4.out)
          have KB := Lib.hid (KB.out.call B4.out)
          have RA := Lib.hid (RA.out.below B4.out)
          have RC := Lib.hid (RC.out.below B4.out)
          clear f0 f1 f2 f3 x0 x1
          have e0 : w4.cell? ⟨N, 0, none⟩ = some (.int .i64 (sz : Int)) := by rw [K0.out.cell]; rfl
          have e1 : w4.cell? ⟨N, 1, none⟩ = some (.slice (some ⟨b, o, none⟩) mA c) := by rw [K0.out.cell]; rfl
          have e2 : w4.cell? ⟨N, 2, none⟩ = some (.slice C mC d) := by rw [K0.out.cell]; rfl
          have e3 : w4.cell? ⟨N, 3, none⟩ = some (.int .i64 (ask : Int)) := by rw [K0.out.cell]; rfl
          have f0 := K0.out.frozen 0
          have f1 := K0.out.frozen 1
          have f2 := K0.out.frozen 2
          have f3 := K0.out.frozen 3
          have x0 : w4.cell? ⟨N + 1 + 1, 0, none⟩ = some (.string key) := by rw [KX.out.cell]; rfl
          have x1 : w4.cell? ⟨N + 1 + 1, 1, none⟩ = some (.string value) := by rw [KX.out.cell]; rfl
          have r0 : w4.cell? ⟨N + 1, 0, none⟩ = some (.int .i64 0) := by rw [K1.out.cell]; rfl
          have r1 : w4.cell? ⟨N + 1, 1, none⟩ = some (.slice none 0 0) := by rw [K1.out.cell]; rfl
          have r2 : w4.cell? ⟨N + 1, 2, none⟩ = some (.slice none 0 0) := by rw [K1.out.cell]; rfl
          have r3 : w4.cell? ⟨N + 1, 3, none⟩ = some (.int .i64 0) := by rw [K1.out.cell]; rfl
          have g0 := K1.out.frozen 0
          have g1 := K1.out.frozen 1
          have g2 := K1.out.frozen 2
          have g3 := K1.out.frozen 3
          obtain ⟨q1, q2, _, q4⟩ := set_box K1.out KB.out (by omega) (.int .i64 (sz : Int)) (.slice (some ⟨b, o, none⟩) mA c) (.slice C mC d) (.int .i64 (ask : Int))
          have Q1 := Lib.hid q1
          have Q2 := Lib.hid q2.1
          have QA := Lib.hid (q4 _ _ (str1_T _) RA.out)
          clear q1 q2 q4
          go_wp2_with fail
          refine bodyPost_ret (results_c2 rfl _ _ _ rfl rfl Q1.out.four) rfl ⟨_, rfl, QA.out, ?_⟩
          have := Q2.out
          rw [← HN.out]
          exact this
        · have ho : offerF sz ts cs key value = ((key, value) :: ts.take q, true) := by
            unfold offerF
            rw [if_pos e, if_pos hls, ← hqs, ht]
            simp only
            rw [if_neg hc, List.eraseIdx_eq_take_drop_succ, List.drop_of_length_le (by omega), List.append_nil]
          rw [ho, ← first_none (ts := ts.take q) (fun j t hj => hno j t (by rw [List.getElem?_take] at hj; split at hj <;> simp_all))]
          obtain ⟨n1, hn1⟩ : ∃ n, n = cntAt cs key := ⟨_, rfl⟩
          obtain ⟨n2, hn2⟩ : ∃ n, n = cntAt cs tk := ⟨_, rfl⟩
          have O1 := Lib.hid (fun W (h : Rp W (.slice C mC d) (pC cs)) => OFT.out W key h)
          have O2 := Lib.hid (fun W (h : Rp W (.slice C mC d) (pC cs)) => OFT.out W tk h)
          rw [← hn1] at O1
          rw [← hn2] at O2
          have i4 : ¬ (n1 : Int) ≤ (n2 : Int) := by omega
          have HTL := Lib.hid (show (ts.take q).length ≤ 1000 by rw [List.length_take]; omega)
          have HTQ := Lib.hid (show (pT (ts.take q)).length = q by rw [pT_length, List.length_take]; have := HMA.out; omega)
          clear ho hno e hz hls hq hqs hc hn1 hn2 ht hqm
          go_enter Try.func21, Try.ntmps21
          go_wp2_with fail
          rw [← HW1.out, ← HN.out]
          refine (FD.out _ RA.out).mono ?_
          rintro e w2 ⟨rfl, hb2⟩
          have K0 := Lib.hid (K0.out.below hb2)
          have K1 := Lib.hid (K1.out.below hb2)
          have KX := Lib.hid (KX.out.below hb2)
          have KB := Lib.hid (KB.out.call hb2)
          have RA := Lib.hid (RA.out.below hb2)
          have RC := Lib.hid (RC.out.below hb2)
          clear hb2 e0 e1 e2 e3 f0 f1 f2 f3 x0 x1
          have e0 : w2.cell? ⟨N, 0, none⟩ = some (.int .i64 (sz : Int)) := by rw [K0.out.cell]; rfl
          have e1 : w2.cell? ⟨N, 1, none⟩ = some (.slice A mA c) := by rw [K0.out.cell]; rfl
          have e2 : w2.cell? ⟨N, 2, none⟩ = some (.slice C mC d) := by rw [K0.out.cell]; rfl
          have e3 : w2.cell? ⟨N, 3, none⟩ = some (.int .i64 (ask : Int)) := by rw [K0.out.cell]; rfl
          have f0 := K0.out.frozen 0
          have f1 := K0.out.frozen 1
          have f2 := K0.out.frozen 2
          have f3 := K0.out.frozen 3
          have x0 : w2.cell? ⟨N + 1 + 1, 0, none⟩ = some (.string key) := by rw [KX.out.cell]; rfl
          have x1 : w2.cell? ⟨N + 1 + 1, 1, none⟩ = some (.string value) := by rw [KX.out.cell]; rfl
          have hTP : Tp w2 A (pT ts) := by obtain ⟨_, _, hee, h, _⟩ := RA.out; cases hee; exact h
          obtain ⟨b, o, rfl, hbl, d0, d1'⟩ := hTP.at_ q _ (pT_at HT.out)
          simp only at d0 d1'
          have ST : Hid (∀ W : World, Below w2.heap.size w2 W → W.cell? ⟨N, 0, none⟩ = some (.int .i64 (sz : Int)) ∧ W.cell? ⟨N, 1, none⟩ = some (.slice (some ⟨b, o, none⟩) mA c) ∧ W.cell? ⟨N, 2, none⟩ = some (.slice C mC d) ∧ W.cell? ⟨N, 3, none⟩ = some (.int .i64 (ask : Int)) ∧ W.cell? ⟨b, o + q * 2, none⟩ = some (.string tk)) := Lib.hid (fun W hW =>
            ⟨(hW.cell (p := ⟨N, 0, none⟩) K0.out.lt).trans e0, (hW.cell (p := ⟨N, 1, none⟩) K0.out.lt).trans e1, (hW.cell (p := ⟨N, 2, none⟩) K0.out.lt).trans e2, (hW.cell (p := ⟨N, 3, none⟩) K0.out.lt).trans e3, (hW.cell (p := ⟨b, _, none⟩) hbl).trans d0⟩)
          have E0 : Hid (Below w2.heap.size w2 w2.drew) := Lib.hid (Below.refl _ _).drew
          have RCd : Hid (Rp w2.drew (.slice C mC d) (pC cs)) := Lib.hid (RC.out.below E0.out)
          clear hTP
          go_wp2_with fail
          clear e0 e1 e2 e3 d0 d1'
          go_region_held3 (fun W => W.cell? ⟨N, 0, none⟩ = some (.int .i64 (sz : Int)) ∧ W.cell? ⟨N, 1, none⟩ = some (.slice (some ⟨b, o, none⟩) mA c) ∧ W.cell? ⟨N, 2, none⟩ = some (.slice C mC d) ∧ W.cell? ⟨N, 3, none⟩ = some (.int .i64 (ask : Int)) ∧ W.cell? ⟨b, o + q * 2, none⟩ = some (.string tk))
            (first | exact ST.out _ E0.out | exact ST.out _ B3.out | exact ST.out _ B4.out)
            (first
              | (go_at_call_of 28 (Value.string key); refine (O1.out _ RCd.out).mono ?_; rintro e w3 ⟨rfl, hb3⟩; have B3 := Lib.hid (E0.out.trans (hb3.mono E0.out.size)); have RC3 := Lib.hid (RCd.out.below hb3); clear hb3)
              | (go_at_call_of 28 (Value.string tk); refine (O2.out _ RC3.out).mono ?_; rintro e w4 ⟨rfl, hb4⟩; have B4 := Lib.hid (B3.out.trans (hb4.mono B3.out.size)); clear hb4))
          have K0 := Lib.hid (K0.out.below B4.out)
          have K1 := Lib.hid (K1.out.below B4.out)
          have KX := Lib.hid (KX.out.below B4.out)
          have KB := Lib.hid (KB.out.call B4.out)
          have RA := Lib.hid (RA.out.below B4.out)
          have RC := Lib.hid (RC.out.below B4.out)
          clear f0 f1 f2 f3 x0 x1
          have e0 : w4.cell? ⟨N, 0, none⟩ = some (.int .i64 (sz : Int)) := by rw [K0.out.cell]; rfl
          have e1 : w4.cell? ⟨N, 1, none⟩ = some (.slice (some ⟨b, o, none⟩) mA c) := by rw [K0.out.cell]; rfl
          have e2 : w4.cell? ⟨N, 2, none⟩ = some (.slice C mC d) := by rw [K0.out.cell]; rfl
          have e3 : w4.cell? ⟨N, 3, none⟩ = some (.int .i64 (ask : Int)) := by rw [K0.out.cell]; rfl
          have f0 := K0.out.frozen 0
          have f1 := K0.out.frozen 1
          have f2 := K0.out.frozen 2
          have f3 := K0.out.frozen 3
          have x0 : w4.cell? ⟨N + 1 + 1, 0, none⟩ = some (.string key) := by rw [KX.out.cell]; rfl
          have x1 : w4.cell? ⟨N + 1 + 1, 1, none⟩ = some (.string value) := by rw [KX.out.cell]; rfl
          have SH := ref_high b o mA c q HQM.out (by obtain ⟨_, _, h, _, _, h4⟩ := RA.out; cases h; have := HQM.out; omega) (by obtain ⟨_, _, h, _, _, h4⟩ := RA.out; cases h; omega)
          have L4 := Lib.hid (lit_none w4 79 w4.heap.size rfl)
          have TC := Lib.hid (tp_flat (Tp.below (RA.out.cut' HMA.out q) ((Below.refl w4.heap.size w4).alloc (Nat.le_refl _) (.cells #[] 79))))
          have LF := Lib.hid (show (flat2 (pT (ts.take q))).length = q * 2 by rw [flat2_length, HTQ.out])
          have NQ := Lib.hid (show 0 + q ≤ 1000000 by have := HLL.out; have := HMA.out; have := HQM.out; omega)
          have SZ4 : Hid (w4.heap.size ≤ (w4.alloc (.cells #[] 79)).heap.size) := Lib.hid (by simp)
          have K0z := Lib.hid (K0.out.below ((Below.refl w4.heap.size w4).alloc (Nat.le_refl _) (.cells #[] 79)))
          have K1z := Lib.hid (K1.out.below ((Below.refl w4.heap.size w4).alloc (Nat.le_refl _) (.cells #[] 79)))
          have KXz := Lib.hid (KX.out.below ((Below.refl w4.heap.size w4).alloc (Nat.le_refl _) (.cells #[] 79)))
          have KBz := Lib.hid (KB.out.call ((Below.refl w4.heap.size w4).alloc (Nat.le_refl _) (.cells #[] 79)))
          have RAz := Lib.hid (RA.out.below ((Below.refl w4.heap.size w4).alloc (Nat.le_refl _) (.cells #[] 79)))
          have RCz := Lib.hid (RC.out.below ((Below.refl w4.heap.size w4).alloc (Nat.le_refl _) (.cells #[] 79)))
          have e1L : (w4.alloc (.cells #[] 79)).cell? ⟨N, 1, none⟩ = some (.slice (some ⟨b, o, none⟩) mA c) := by rw [K0z.out.cell]; rfl
          have NE0 := Lib.hid (show (Value.slice (some ⟨w4.heap.size, 0, none⟩) 0 0).ownBlock ≠ some (N) from fun h => by have h1 := K0.out.lt; simp [Value.ownBlock] at h; omega)
          have NE1 := Lib.hid (show (Value.slice (some ⟨w4.heap.size, 0, none⟩) 0 0).ownBlock ≠ some (N + 1) from fun h => by have h1 := K1.out.lt; simp [Value.ownBlock] at h; omega)
          have NEX := Lib.hid (show (Value.slice (some ⟨w4.heap.size, 0, none⟩) 0 0).ownBlock ≠ some (N + 1 + 1) from fun h => by have h1 := KX.out.lt; simp [Value.ownBlock] at h; omega)
          go_upto_region 7 with (at_builtin; (refine wpList_append_two Try.underlying27 infoRefThing rfl (by decide) (by decide) rfl _ _ rfl rfl w4.heap.size _ _ _ b o q c (flat2 (pT (ts.take q))) rfl rfl L4.out LF.out TC.out (one2_T _) NQ.out SZ4.out ?_; intro v5 w5 own5 gr5; rw [Nat.zero_add, List.nil_append] at own5; have k0 := K0z.out.grown gr5 NE0.out; have k1 := K1z.out.grown gr5 NE1.out; have kx := KXz.out.grown gr5 NEX.out; have kb := KBz.out.grownRow L4.out KB.out.2 gr5; have O5 := Lib.hid own5; have K05 := Lib.hid k0; have K15 := Lib.hid k1; have KX5 := Lib.hid kx; have KB5 := Lib.hid kb; obtain ⟨A5, c5, hv5, _⟩ := Rp.of_own (l := pT (ts.take q)) (by rw [HTQ.out]; exact own5); rw [HTQ.out] at hv5; subst hv5; have e15 := k0.cell 1; have f15 := k0.frozen 1; simp only [List.getElem?_toArray, List.getElem?_cons_succ, List.getElem?_cons_zero] at e15; clear own5 gr5 k0 k1 kx kb))
          have R5 : Hid (Rp w5 (.slice A5 q c5) (pT (ts.take q))) := Lib.hid (by have := Rp.of_own (l := pT (ts.take q)) (by rw [HTQ.out]; exact O5.out); exact this)
          have F5 : Far (fun i => i = N) w5 (w5.setCell ⟨N, 1, none⟩ (.slice A5 q c5)) := (Far.refl (fun i => i = N) w5).setCell (p := ⟨N, 1, none⟩) (fun _ => rfl) _
          have k0 := K05.out.set 1 (.slice A5 q c5)
          simp only [List.setIfInBounds_toArray, List.set_cons_zero, List.set_cons_succ] at k0
          have k1 := K15.out.far F5 (by omega)
          have kx := KX5.out.far F5 (by omega)
          have kb := KB5.out.setCell (p := ⟨N, 1, none⟩) (Nat.le_refl _) (.slice A5 q c5)
          have ra := R5.out.past (str1_T _) K05.out (by intro i s; rcases i with _ | _ | _ | _ | i <;> simp) F5
          clear K0 K1 KX KB RA K0z K1z KXz KBz RAz RCz RC K05 K15 KX5 KB5 F5 R5 O5 e0 e1 e2 e3 f0 f1 f2 f3 x0 x1 e1L L4 TC LF NQ SZ4 SH
          have K0 := Lib.hid k0
          have K1 := Lib.hid k1
          have KX := Lib.hid kx
          have KB := Lib.hid kb
          have RA := Lib.hid ra
          clear k0 k1 kx kb ra e15 f15
          generalize w5.setCell ⟨N, 1, none⟩ (.slice A5 q c5) = w6 at *
          have e0 : w6.cell? ⟨N, 0, none⟩ = some (.int .i64 (sz : Int)) := by rw [K0.out.cell]; rfl
          have e1 : w6.cell? ⟨N, 1, none⟩ = some (.slice A5 q c5) := by rw [K0.out.cell]; rfl
          have e2 : w6.cell? ⟨N, 2, none⟩ = some (.slice C mC d) := by rw [K0.out.cell]; rfl
          have e3 : w6.cell? ⟨N, 3, none⟩ = some (.int .i64 (ask : Int)) := by rw [K0.out.cell]; rfl
          have f0 := K0.out.frozen 0
          have f1 := K0.out.frozen 1
          have f2 := K0.out.frozen 2
          have f3 := K0.out.frozen 3
          have x0 : w6.cell? ⟨N + 1 + 1, 0, none⟩ = some (.string key) := by rw [KX.out.cell]; rfl
          have x1 : w6.cell? ⟨N + 1 + 1, 1, none⟩ = some (.string value) := by rw [KX.out.cell]; rfl
          go_wp2_with fail
          refine (FST.out _ _ _ _ _ HTL.out RA.out).mono ?_
          rintro e w8 ⟨v8, rfl, hR8, hb8⟩
          obtain ⟨A8, c8, hv8, _⟩ := id hR8
          obtain ⟨m8, hm8⟩ : ∃ m, m = (pT (firstF (ts.take q) (key, value))).length := ⟨_, rfl⟩
          rw [← hm8] at hv8
          subst hv8
          clear e0 e1 e2 e3 f0 f1 f2 f3 x0 x1 hm8
          have K0 := Lib.hid (K0.out.below hb8)
          have K1 := Lib.hid (K1.out.below hb8)
          have KX := Lib.hid (KX.out.below hb8)
          have KB := Lib.hid (KB.out.call hb8)
          have RA := Lib.hid hR8
          clear hR8 hb8
          have e0 : w8.cell? ⟨N, 0, none⟩ = some (.int .i64 (sz : Int)) := by rw [K0.out.cell]; rfl
          have e1 : w8.cell? ⟨N, 1, none⟩ = some (.slice A5 q c5) := by rw [K0.out.cell]; rfl
          have e2 : w8.cell? ⟨N, 2, none⟩ = some (.slice C mC d) := by rw [K0.out.cell]; rfl
          have e3 : w8.cell? ⟨N, 3, none⟩ = some (.int .i64 (ask : Int)) := by rw [K0.out.cell]; rfl
          have f0 := K0.out.frozen 0
          have f1 := K0.out.frozen 1
          have f2 := K0.out.frozen 2
          have f3 := K0.out.frozen 3
          have x0 : w8.cell? ⟨N + 1 + 1, 0, none⟩ = some (.string key) := by rw [KX.out.cell]; rfl
          have x1 : w8.cell? ⟨N + 1 + 1, 1, none⟩ = some (.string value) := by rw [KX.out.cell]; rfl
          have r0 : w8.cell? ⟨N + 1, 0, none⟩ = some (.int .i64 0) := by rw [K1.out.cell]; rfl
          have r1 : w8.cell? ⟨N + 1, 1, none⟩ = some (.slice none 0 0) := by rw [K1.out.cell]; rfl
          have r2 : w8.cell? ⟨N + 1, 2, none⟩ = some (.slice none 0 0) := by rw [K1.out.cell]; rfl
          have r3 : w8.cell? ⟨N + 1, 3, none⟩ = some (.int .i64 0) := by rw [K1.out.cell]; rfl
          have g0 := K1.out.frozen 0
          have g1 := K1.out.frozen 1
          have g2 := K1.out.frozen 2
          have g3 := K1.out.frozen 3
          obtain ⟨q1, q2, _, q4⟩ := set_box K1.out KB.out (by omega) (.int .i64 (sz : Int)) (.slice A8 m8 c8) (.slice C mC d) (.int .i64 (ask : Int))
          have Q1 := Lib.hid q1
          have Q2 := Lib.hid q2.1
          have QA := Lib.hid (q4 _ _ (str1_T _) RA.out)
          clear q1 q2 q4
          go_wp2_with fail
          refine bodyPost_ret (results_c2 rfl _ _ _ rfl rfl Q1.out.four) rfl ⟨_, rfl, QA.out, ?_⟩
          have := Q2.out
          rw [← HN.out]
          exact this
  · rw [e] at FD
    have ho : offerF sz ts cs key value = ((key, value) :: ts.eraseIdx kk, true) := by unfold offerF; rw [e, if_neg (by omega), Int.toNat_natCast]
    rw [ho, ← first_at HNT.out ht hk]
    have i1 : (0 : Int) ≤ (kk : Int) := by omega
    clear ho e ht hk
    go_enter Try.func21, Try.ntmps21
    go_wp2_with fail
    rw [← HW1.out, ← HN.out]
    refine (FD.out _ RA.out).mono ?_
    rintro e w2 ⟨rfl, hb2⟩
    have K0 := Lib.hid (K0.out.below hb2)
    have K1 := Lib.hid (K1.out.below hb2)
    have KX := Lib.hid (KX.out.below hb2)
    have KB := Lib.hid (KB.out.call hb2)
    have RA := Lib.hid (RA.out.below hb2)
    have RC := Lib.hid (RC.out.below hb2)
    clear hb2 e0 e1 e2 e3 f0 f1 f2 f3 x0 x1
    have e0 : w2.cell? ⟨N, 0, none⟩ = some (.int .i64 (sz : Int)) := by rw [K0.out.cell]; rfl
    have e1 : w2.cell? ⟨N, 1, none⟩ = some (.slice A mA c) := by rw [K0.out.cell]; rfl
    have e2 : w2.cell? ⟨N, 2, none⟩ = some (.slice C mC d) := by rw [K0.out.cell]; rfl
    have e3 : w2.cell? ⟨N, 3, none⟩ = some (.int .i64 (ask : Int)) := by rw [K0.out.cell]; rfl
    have f0 := K0.out.frozen 0
    have f1 := K0.out.frozen 1
    have f2 := K0.out.frozen 2
    have f3 := K0.out.frozen 3
    have x0 : w2.cell? ⟨N + 1 + 1, 0, none⟩ = some (.string key) := by rw [KX.out.cell]; rfl
    have x1 : w2.cell? ⟨N + 1 + 1, 1, none⟩ = some (.string value) := by rw [KX.out.cell]; rfl
    go_wp2_with fail
    refine (FST.out _ _ _ _ _ HLL.out RA.out).mono ?_
    rintro e w8 ⟨v8, rfl, hR8, hb8⟩
    obtain ⟨A8, c8, hv8, _⟩ := id hR8
    obtain ⟨m8, hm8⟩ : ∃ m, m = (pT (firstF ts (key, value))).length := ⟨_, rfl⟩
    rw [← hm8] at hv8
    subst hv8
    clear e0 e1 e2 e3 f0 f1 f2 f3 x0 x1 hm8
    have K0 := Lib.hid (K0.out.below hb8)
    have K1 := Lib.hid (K1.out.below hb8)
    have KX := Lib.hid (KX.out.below hb8)
    have KB := Lib.hid (KB.out.call hb8)
    have RA := Lib.hid hR8
    have RC := Lib.hid (RC.out.below hb8)
    clear hR8 hb8
    have e0 : w8.cell? ⟨N, 0, none⟩ = some (.int .i64 (sz : Int)) := by rw [K0.out.cell]; rfl
    have e1 : w8.cell? ⟨N, 1, none⟩ = some (.slice A mA c) := by rw [K0.out.cell]; rfl
    have e2 : w8.cell? ⟨N, 2, none⟩ = some (.slice C mC d) := by rw [K0.out.cell]; rfl
    have e3 : w8.cell? ⟨N, 3, none⟩ = some (.int .i64 (ask : Int)) := by rw [K0.out.cell]; rfl
    have f0 := K0.out.frozen 0
    have f1 := K0.out.frozen 1
    have f2 := K0.out.frozen 2
    have f3 := K0.out.frozen 3
    have x0 : w8.cell? ⟨N + 1 + 1, 0, none⟩ = some (.string key) := by rw [KX.out.cell]; rfl
    have x1 : w8.cell? ⟨N + 1 + 1, 1, none⟩ = some (.string value) := by rw [KX.out.cell]; rfl
    have r0 : w8.cell? ⟨N + 1, 0, none⟩ = some (.int .i64 0) := by rw [K1.out.cell]; rfl
    have r1 : w8.cell? ⟨N + 1, 1, none⟩ = some (.slice none 0 0) := by rw [K1.out.cell]; rfl
    have r2 : w8.cell? ⟨N + 1, 2, none⟩ = some (.slice none 0 0) := by rw [K1.out.cell]; rfl
    have r3 : w8.cell? ⟨N + 1, 3, none⟩ = some (.int .i64 0) := by rw [K1.out.cell]; rfl
    have g0 := K1.out.frozen 0
    have g1 := K1.out.frozen 1
    have g2 := K1.out.frozen 2
    have g3 := K1.out.frozen 3
    obtain ⟨q1, q2, _, q4⟩ := set_box K1.out KB.out (by omega) (.int .i64 (sz : Int)) (.slice A8 m8 c8) (.slice C mC d) (.int .i64 (ask : Int))
    have Q1 := Lib.hid q1
    have Q2 := Lib.hid q2.1
    have QA := Lib.hid (q4 _ _ (str1_T _) RA.out)
    clear q1 q2 q4
    go_wp2_with fail
    refine bodyPost_ret (results_c2 rfl _ _ _ rfl rfl Q1.out.four) rfl ⟨_, rfl, QA.out, ?_⟩
    have := Q2.out
    rw [← HN.out]
    exact this
end Go.Proofs.Ytplahkhohhbgaaa
