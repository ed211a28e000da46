/-
  The document's answer for cache (guillocheref07): Get.
-/
import Derived.Test.YtplahkhohhbgaaaCacheRf4
import Derived.Deep.CutBlock
namespace Go.Proofs.Cch
theorem filter_erase : ∀ (l : Things) (k : Nat) (t : ByteArray × ByteArray), (keysF l).Nodup → l[k]? = some t → l.filter (fun y => ¬ y.1 = t.1) = l.eraseIdx k
  | [], _, _, _, h => by simp at h
  | a :: r, 0, t, hn, h => by
    simp at h
    subst h
    have hn' : (a.1 :: keysF r).Nodup := hn
    rw [List.nodup_cons] at hn'
    rw [List.eraseIdx_cons_zero, List.filter_cons_of_neg (by simp), List.filter_eq_self.2]
    intro y hy
    have : ¬ y.1 = a.1 := fun e => hn'.1 (by rw [← e]; exact List.mem_map.2 ⟨y, hy, rfl⟩)
    simpa using this
  | a :: r, k + 1, t, hn, h => by
    have hn' : (a.1 :: keysF r).Nodup := hn
    rw [List.nodup_cons] at hn'
    have h1 : r[k]? = some t := by simpa using h
    have hne : ¬ a.1 = t.1 := fun e => hn'.1 (by rw [e]; exact List.mem_map.2 ⟨t, List.mem_of_getElem? h1, rfl⟩)
    rw [List.eraseIdx_cons_succ, List.filter_cons_of_pos (by simpa using hne), filter_erase r k t hn'.2 h1]
end Go.Proofs.Cch
namespace Go.Proofs.Ytplahkhohhbgaaa
open Go.RowKit Go.Proofs.Cch
set_option linter.unusedVariables false
set_option linter.unusedSimpArgs false
theorem first_use {ts : Things} {k : Nat} {t : ByteArray × ByteArray} (hn : (keysF ts).Nodup) (ht : ts[k]? = some t) : firstF ts t = t :: ts.eraseIdx k := by
  unfold firstF
  rw [filter_erase ts k t hn ht]
/-- Rows of pairs that begin with a string. -/
def Str1 (l : List (Value × Value)) : Prop := ∀ p ∈ l, ∃ s, p.1 = .string s
theorem str1_T (ts : Things) : Str1 (pT ts) := fun p hp => by
  obtain ⟨t, _, rfl⟩ := List.mem_map.1 hp
  exact ⟨_, rfl⟩
theorem str1_C (cs : Counts) : Str1 (pC cs) := fun p hp => by
  obtain ⟨t, _, rfl⟩ := List.mem_map.1 hp
  exact ⟨_, rfl⟩
theorem Rp.past {w w' : World} {v : Value} {l : List (Value × Value)} {g : Nat} {t : TypeId} {cs : Array Value} (h : Rp w v l) (h1 : Str1 l) (hb : Blk w g t cs) (hno : ∀ (i : Nat) (s : ByteArray), cs[i]? ≠ some (.string s)) (k : Far (fun i => i = g) w w') : Rp w' v l := by
  obtain ⟨A, c, rfl, hT, h2, h3⟩ := h
  refine ⟨A, c, rfl, ?_, h2, h3⟩
  rcases hT with hT | ⟨b, o, rfl, hbl, hc, us, T, fr, hus, hT⟩
  · exact .inl hT
  · rcases l with _ | ⟨p, r⟩
    · exact .inl rfl
    · have hne : ¬ b = g := fun e => by
        obtain ⟨s, hs⟩ := h1 p (by simp)
        have q := (hc 0 p rfl).1
        rw [e, hb.cell, hs] at q
        exact hno _ s q
      have hbk := k.block b hbl hne
      refine .inr ⟨b, o, rfl, Nat.lt_of_lt_of_le hbl k.size, fun j t' ht' => ?_, us, T, fr, hbk.trans hus, hT⟩
      exact ⟨(World.cell?_of_block (a := ⟨b, _, none⟩) hbk).trans (hc j t' ht').1, (World.cell?_of_block (a := ⟨b, _, none⟩) hbk).trans (hc j t' ht').2⟩
/-- What becomes of all when a box is set. -/
theorem set_box {w W : World} {N g : Nat} {T : TypeId} {a0 d0 : Int} {A0 A1 : Option Addr} {m0 c0 m1 c1 : Nat} (B : Blk W g T #[.int .i64 a0, .slice A0 m0 c0, .slice A1 m1 c1, .int .i64 d0]) (hB : Bl N w W) (hg : N ≤ g) (a b c d : Value) :
    Blk ((((W.setCell ⟨g, 0, none⟩ a).setCell ⟨g, 1, none⟩ b).setCell ⟨g, 2, none⟩ c).setCell ⟨g, 3, none⟩ d) g T #[a, b, c, d] ∧
    Bl N w ((((W.setCell ⟨g, 0, none⟩ a).setCell ⟨g, 1, none⟩ b).setCell ⟨g, 2, none⟩ c).setCell ⟨g, 3, none⟩ d) ∧
    (∀ h, h ≠ g → ∀ t cs, Blk W h t cs → Blk ((((W.setCell ⟨g, 0, none⟩ a).setCell ⟨g, 1, none⟩ b).setCell ⟨g, 2, none⟩ c).setCell ⟨g, 3, none⟩ d) h t cs) ∧
    (∀ v l, Str1 l → Rp W v l → Rp ((((W.setCell ⟨g, 0, none⟩ a).setCell ⟨g, 1, none⟩ b).setCell ⟨g, 2, none⟩ c).setCell ⟨g, 3, none⟩ d) v l) := by
  obtain ⟨h1, h2, h3⟩ := end4 B hB hg a b c d
  refine ⟨h1, h2, fun h hne t cs hb => hb.far h3 hne, fun v l hl hr => hr.past hl B ?_ h3⟩
  intro i s
  rcases i with _ | _ | _ | _ | i <;> simp
/-- What Get hands back. -/
def Rg (w : World) (sz : Nat) (ts : Things) (cs : Counts) (ask : Int) (v : ByteArray) (b : Bool) (e : Ending) (w' : World) : Prop :=
  ∃ vA vC, e = .returned (.tuple #[.agg #[.int .i64 (sz : Int), vA, vC, .int .i64 ask], .string v, .bool b]) ∧ Rp w' vA (pT ts) ∧ Rp w' vC (pC cs) ∧ Below w.heap.size w w'
theorem boxes2 (w : World) (a b c d : Value) (N : Nat) (hN : N = w.heap.size) :
    let W := (w.alloc (.cells #[a, b, c, d] 30)).alloc (.cells #[.int .i64 0, .slice none 0 0, .slice none 0 0, .int .i64 0] 30)
    Blk W N 30 #[a, b, c, d] ∧ Blk W (N + 1) 30 #[.int .i64 0, .slice none 0 0, .slice none 0 0, .int .i64 0] ∧ Bl N w W := by
  intro W
  subst hN
  refine ⟨(Blk.new w _ _).alloc _, ?_, ((Bl.start w).alloc _).alloc _⟩
  have := Blk.new (w.alloc (.cells #[a, b, c, d] 30)) 30 #[.int .i64 0, .slice none 0 0, .slice none 0 0, .int .i64 0]
  simpa using this

set_option maxRecDepth 100000 in
set_option maxHeartbeats 2000000 in
theorem rcget_any (sz : Nat) (vA vC : Value) (ts : Things) (cs : Counts) (ask : Nat) (key : ByteArray) (w : World) (hA : Rp w vA (pT ts)) (hC : Rp w vC (pC cs)) (hl : ts.length ≤ sz) (hs : sz ≤ 64) (hlc : cs.length ≤ 90000) (h15 : ∀ p ∈ cs, p.2 ≤ 15) (hnc : (cs.map Prod.fst).Nodup) (hnt : (keysF ts).Nodup) (hask : ask ≤ 90000) :
    Calls Try.prog 19 #[.agg #[.int .i64 (sz : Int), vA, vC, .int .i64 (ask : Int)], .string key] w (Rg w sz (getF sz ts cs ask key).1 (getF sz ts cs ask key).2.1 ((getF sz ts cs ask key).2.2 : Nat) (gotF sz ts key).1 (gotF sz ts key).2) := by
  obtain ⟨A, c, rfl, hTA, hA2, hA3⟩ := hA
  obtain ⟨C, d, rfl, hTC, hC2, hC3⟩ := hC
  have RA : Hid (Rp w (.slice A (pT ts).length c) (pT ts)) := Lib.hid ⟨A, c, rfl, hTA, hA2, hA3⟩
  have RC : Hid (Rp w (.slice C (pC cs).length d) (pC cs)) := Lib.hid ⟨C, d, rfl, hTC, hC2, hC3⟩
  obtain ⟨mA, hmA⟩ : ∃ m, m = (pT ts).length := ⟨_, rfl⟩
  obtain ⟨mC, hmC⟩ : ∃ m, m = (pC cs).length := ⟨_, rfl⟩
  have hmA' : mA = ts.length := by rw [hmA, pT_length]
  rw [← hmA] at RA ⊢
  rw [← hmC] at RC ⊢
  have HMA := Lib.hid hmA'
  obtain ⟨N, hN⟩ : ∃ N, N = w.heap.size := ⟨_, rfl⟩
  obtain ⟨W1, hW1⟩ : ∃ W, W = (w.alloc (.cells #[.int .i64 (sz : Int), .slice A mA c, .slice C mC d, .int .i64 (ask : Int)] 30)).alloc (.cells #[.int .i64 0, .slice none 0 0, .slice none 0 0, .int .i64 0] 30) := ⟨_, rfl⟩
  obtain ⟨k0, k1, kb⟩ := boxes2 w (.int .i64 (sz : Int)) (.slice A mA c) (.slice C mC d) (.int .i64 (ask : Int)) N hN
  rw [← hW1] at k0 k1 kb
  have ra := RA.out.below (by rw [← hN]; exact kb.1 : Below w.heap.size w W1)
  have rc := RC.out.below (by rw [← hN]; exact kb.1 : Below w.heap.size w W1)
  have K0 := Lib.hid k0
  have K1 := Lib.hid k1
  have KB := Lib.hid kb
  have HW1 := Lib.hid hW1
  have HN := Lib.hid hN
  have H15 := Lib.hid h15
  have HNC := Lib.hid hnc
  have HNT := Lib.hid hnt
  clear hTA hTC hmA hmC hmA' hN hW1 k0 k1 kb RA RC h15 hnc hnt
  have RA := Lib.hid ra
  have RC := Lib.hid rc
  clear ra rc
  by_cases hz : sz = 0
  · have hts : ts = [] := List.length_eq_zero_iff.1 (by omega)
    have hg : getF sz ts cs ask key = (ts, cs, ask) := by unfold getF; rw [if_pos hz]
    have hg2 : gotF sz ts key = (⟨#[]⟩, false) := by unfold gotF; rw [if_pos hz]
    rw [hg, hg2]
    have FD := Lib.hid (fun W (h : Rp W (.slice A mA c) (pT ts)) => rcfind_any (sz : Int) (.slice A mA c) (.slice C mC d) ts (ask : Int) key W h (by omega))
    rw [show placeOf ts key = -1 by rw [hts]; rfl] at FD
    have i0 : ¬ (0 : Int) < (sz : Int) := by omega
    clear hg hg2 hts hz
    have e0 : W1.cell? ⟨N, 0, none⟩ = some (.int .i64 (sz : Int)) := by rw [K0.out.cell]; rfl
    have e1 : W1.cell? ⟨N, 1, none⟩ = some (.slice A mA c) := by rw [K0.out.cell]; rfl
    have e2 : W1.cell? ⟨N, 2, none⟩ = some (.slice C mC d) := by rw [K0.out.cell]; rfl
    have e3 : W1.cell? ⟨N, 3, none⟩ = some (.int .i64 (ask : Int)) := by rw [K0.out.cell]; rfl
    have f0 := K0.out.frozen 0
    have f1 := K0.out.frozen 1
    have f2 := K0.out.frozen 2
    have f3 := K0.out.frozen 3
    go_enter Try.func19, Try.ntmps19
    go_wp2_with fail
    rw [← HW1.out, ← HN.out]
    refine (FD.out _ RA.out).mono ?_
    rintro e w2 ⟨rfl, hb2⟩
    have K0 := Lib.hid (K0.out.below hb2)
    have K1 := Lib.hid (K1.out.below hb2)
    have KB := Lib.hid (KB.out.call hb2)
    have RA := Lib.hid (RA.out.below hb2)
    have RC := Lib.hid (RC.out.below hb2)
    clear hb2 e0 e1 e2 e3 f0 f1 f2 f3
    have e0 : w2.cell? ⟨N, 0, none⟩ = some (.int .i64 (sz : Int)) := by rw [K0.out.cell]; rfl
    have e1 : w2.cell? ⟨N, 1, none⟩ = some (.slice A mA c) := by rw [K0.out.cell]; rfl
    have e2 : w2.cell? ⟨N, 2, none⟩ = some (.slice C mC d) := by rw [K0.out.cell]; rfl
    have e3 : w2.cell? ⟨N, 3, none⟩ = some (.int .i64 (ask : Int)) := by rw [K0.out.cell]; rfl
    have f0 := K0.out.frozen 0
    have f1 := K0.out.frozen 1
    have f2 := K0.out.frozen 2
    have f3 := K0.out.frozen 3
    have r0 : w2.cell? ⟨N + 1, 0, none⟩ = some (.int .i64 0) := by rw [K1.out.cell]; rfl
    have r1 : w2.cell? ⟨N + 1, 1, none⟩ = some (.slice none 0 0) := by rw [K1.out.cell]; rfl
    have r2 : w2.cell? ⟨N + 1, 2, none⟩ = some (.slice none 0 0) := by rw [K1.out.cell]; rfl
    have r3 : w2.cell? ⟨N + 1, 3, none⟩ = some (.int .i64 0) := by rw [K1.out.cell]; rfl
    have g0 := K1.out.frozen 0
    have g1 := K1.out.frozen 1
    have g2 := K1.out.frozen 2
    have g3 := K1.out.frozen 3
    obtain ⟨q1, q2, _, q4⟩ := set_box K1.out KB.out (by omega) (.int .i64 (sz : Int)) (.slice A mA c) (.slice C mC d) (.int .i64 (ask : Int))
    have Q1 := Lib.hid q1
    have Q2 := Lib.hid q2.1
    have QA := Lib.hid (q4 _ _ (str1_T _) RA.out)
    have QC := Lib.hid (q4 _ _ (str1_C _) RC.out)
    clear q1 q2 q4
    go_wp2_with fail
    refine bodyPost_ret (results_c3 rfl _ _ _ rfl rfl rfl Q1.out.four) rfl ⟨_, _, ?_, QA.out, QC.out, ?_⟩
    · rfl
    have := Q2.out
    rw [← HN.out]
    exact this
  · have i0 : (0 : Int) < (sz : Int) := by omega
    have hcp := cntd_put HNC.out key
    obtain ⟨CS1, hCS⟩ : ∃ l, l = cntdF cs key := ⟨_, rfl⟩
    have h115 : ∀ p ∈ CS1, p.2 ≤ 15 := fun p hp => by
      rw [hCS, hcp] at hp
      rcases mem_put hp with rfl | ⟨hm, _⟩
      · simp only; omega
      · exact H15.out p hm
    have hl1 : CS1.length ≤ 100000 := by rw [hCS, hcp, putC_length]; split <;> omega
    have CNT := Lib.hid (fun W (h : Rp W (.slice C mC d) (pC cs)) => rccounted_any (sz : Int) A mA c (.slice C mC d) cs (ask : Int) key W h (by omega) H15.out (by omega) (by omega))
    rw [← hCS] at CNT
    have FD := Lib.hid (fun W C' m' d' (k : Int) (h : Rp W (.slice A mA c) (pT ts)) => rcfind_any (sz : Int) (.slice A mA c) (.slice C' m' d') ts k key W h (by omega))
    obtain ⟨US, hUS⟩ : ∃ u, u = useF ts key := ⟨_, rfl⟩
    have hGF2 : getF sz ts cs ask key = if ask + 1 = 10 * sz then (US.1, halvedC CS1, 0) else (US.1, CS1, ask + 1) := by rw [hUS, hCS, hcp]; unfold getF; rw [if_neg hz]
    have hGV : gotF sz ts key = US.2 := by rw [hUS]; unfold gotF; rw [if_neg hz]
    rw [hGF2, hGV]
    obtain ⟨ts', gv, gb⟩ := US
    obtain ⟨CS', hCS'⟩ : ∃ l, l = if ask + 1 = 10 * sz then halvedC CS1 else CS1 := ⟨_, rfl⟩
    obtain ⟨AK', hAK'⟩ : ∃ l : Int, l = if ask + 1 = 10 * sz then 0 else (ask : Int) + 1 := ⟨_, rfl⟩
    have hpost : (Rg w sz (if ask + 1 = 10 * sz then ((ts', gv, gb) : Things × ByteArray × Bool).1 else ts') CS' AK' gv gb) = Rg w sz ts' CS' AK' gv gb := by split <;> rfl
    rw [show ((if ask + 1 = 10 * sz then (((ts', gv, gb) : Things × ByteArray × Bool).1, halvedC CS1, 0) else (((ts', gv, gb) : Things × ByteArray × Bool).1, CS1, ask + 1)) : Things × Counts × Nat).1 = ts' by split <;> rfl,
      show ((if ask + 1 = 10 * sz then (((ts', gv, gb) : Things × ByteArray × Bool).1, halvedC CS1, 0) else (((ts', gv, gb) : Things × ByteArray × Bool).1, CS1, ask + 1)) : Things × Counts × Nat).2.1 = CS' by rw [hCS']; split <;> rfl,
      show ((((if ask + 1 = 10 * sz then (((ts', gv, gb) : Things × ByteArray × Bool).1, halvedC CS1, 0) else (((ts', gv, gb) : Things × ByteArray × Bool).1, CS1, ask + 1)) : Things × Counts × Nat).2.2 : Nat) : Int) = AK' by rw [hAK']; split <;> simp]
    have HUS := Lib.hid hUS
    have HGF := Lib.hid (And.intro hCS' hAK')
    clear hUS hGF2 hGV hpost hCS' hAK'
    have HCS := Lib.hid h115
    have wq : IntKind.i64.wrap (10 * (sz : Int)) = 10 * (sz : Int) := IntWalk.i64_in _ (by omega)
    clear hcp hCS h115 hz
    have e0 : W1.cell? ⟨N, 0, none⟩ = some (.int .i64 (sz : Int)) := by rw [K0.out.cell]; rfl
    have e1 : W1.cell? ⟨N, 1, none⟩ = some (.slice A mA c) := by rw [K0.out.cell]; rfl
    have e2 : W1.cell? ⟨N, 2, none⟩ = some (.slice C mC d) := by rw [K0.out.cell]; rfl
    have e3 : W1.cell? ⟨N, 3, none⟩ = some (.int .i64 (ask : Int)) := by rw [K0.out.cell]; rfl
    have f0 := K0.out.frozen 0
    have f1 := K0.out.frozen 1
    have f2 := K0.out.frozen 2
    have f3 := K0.out.frozen 3
    go_enter Try.func19, Try.ntmps19
    go_wp2_with fail
    rw [← HW1.out, ← HN.out]
    refine (CNT.out _ RC.out).mono ?_
    rintro e w2 ⟨v1, rfl, hR1, hb2⟩
    obtain ⟨C1, d1, hv1, _⟩ := id hR1
    obtain ⟨m1, hm1⟩ : ∃ m, m = (pC CS1).length := ⟨_, rfl⟩
    rw [← hm1] at hv1
    subst hv1
    clear e0 e1 e2 e3 f0 f1 f2 f3 hm1
    have K0 := Lib.hid (K0.out.below hb2)
    have K1 := Lib.hid (K1.out.below hb2)
    have KB := Lib.hid (KB.out.call hb2)
    have RA := Lib.hid (RA.out.below hb2)
    have RC := Lib.hid hR1
    clear hR1 hb2
    have HAL := Lib.hid (fun W A' m' c' (h : Rp W (.slice C1 m1 d1) (pC CS1)) => rchalved_any (sz : Int) A' m' c' (.slice C1 m1 d1) CS1 ((ask : Int) + 1) W h hl1 HCS.out)
    obtain ⟨q1, q2, q3, q4⟩ := set_box K0.out KB.out (Nat.le_refl _) (.int .i64 (sz : Int)) (.slice A mA c) (.slice C1 m1 d1) (.int .i64 ((ask : Int) + 1))
    have K0n := Lib.hid q1
    have KBn := Lib.hid q2
    have K1n := Lib.hid (q3 (N + 1) (by omega) _ _ K1.out)
    have RAn := Lib.hid (q4 _ _ (str1_T _) RA.out)
    have RCn := Lib.hid (q4 _ _ (str1_C _) RC.out)
    clear q1 q2 q3 q4
    have e0 : w2.cell? ⟨N, 0, none⟩ = some (.int .i64 (sz : Int)) := by rw [K0.out.cell]; rfl
    have e1 : w2.cell? ⟨N, 1, none⟩ = some (.slice A mA c) := by rw [K0.out.cell]; rfl
    have e2 : w2.cell? ⟨N, 2, none⟩ = some (.slice C mC d) := by rw [K0.out.cell]; rfl
    have e3 : w2.cell? ⟨N, 3, none⟩ = some (.int .i64 (ask : Int)) := by rw [K0.out.cell]; rfl
    have f0 := K0.out.frozen 0
    have f1 := K0.out.frozen 1
    have f2 := K0.out.frozen 2
    have f3 := K0.out.frozen 3
    go_wp2_with fail
    generalize (((w2.setCell ⟨N, 0, none⟩ (.int .i64 (sz : Int))).setCell ⟨N, 1, none⟩ (.slice A mA c)).setCell ⟨N, 2, none⟩ (.slice C1 m1 d1)).setCell ⟨N, 3, none⟩ (.int .i64 ((ask : Int) + 1)) = W3 at *
    clear e0 e1 e2 e3 f0 f1 f2 f3 K0 KB K1 RA RC
    have K0 := K0n
    have KB := KBn
    have K1 := K1n
    have RA := RAn
    have RC := RCn
    clear K0n KBn K1n RAn RCn
    refine (FD.out _ _ _ _ _ RA.out).mono ?_
    rintro e w4 ⟨rfl, hb4⟩
    have K0 := Lib.hid (K0.out.below hb4)
    have K1 := Lib.hid (K1.out.below hb4)
    have KB := Lib.hid (KB.out.call hb4)
    have RA := Lib.hid (RA.out.below hb4)
    have RC := Lib.hid (RC.out.below hb4)
    clear hb4
    rcases placeOf_cases ts key with ⟨e, _⟩ | ⟨kk, ⟨tk, tv⟩, e, ht, hk, _⟩
    · rw [e]
      have hu := HUS.out
      rw [useF_miss e] at hu
      cases hu
      clear e HUS
      by_cases hq : ask + 1 = 10 * sz
      · have hq1 : ((ask : Int) + 1 == 10 * (sz : Int)) = true := by simp; omega
        obtain ⟨hg1, hg2⟩ := HGF.out
        rw [if_pos hq] at hg1 hg2
        subst hg1
        subst hg2
        clear hq
        have e0 : w4.cell? ⟨N, 0, none⟩ = some (.int .i64 (sz : Int)) := by rw [K0.out.cell]; rfl
        have e1 : w4.cell? ⟨N, 1, none⟩ = some (.slice A mA c) := by rw [K0.out.cell]; rfl
        have e2 : w4.cell? ⟨N, 2, none⟩ = some (.slice C1 m1 d1) := by rw [K0.out.cell]; rfl
        have e3 : w4.cell? ⟨N, 3, none⟩ = some (.int .i64 ((ask : Int) + 1)) := by rw [K0.out.cell]; rfl
        have f0 := K0.out.frozen 0
        have f1 := K0.out.frozen 1
        have f2 := K0.out.frozen 2
        have f3 := K0.out.frozen 3
        go_wp2_with fail
        refine (HAL.out _ _ _ _ RC.out).mono ?_
        rintro e w7 ⟨v7, rfl, hR7, hb7⟩
        obtain ⟨C7, d7, hv7, _⟩ := id hR7
        obtain ⟨m7, hm7⟩ : ∃ m, m = (pC (halvedC CS1)).length := ⟨_, rfl⟩
        rw [← hm7] at hv7
        subst hv7
        clear e0 e1 e2 e3 f0 f1 f2 f3 hm7
        have K0 := Lib.hid (K0.out.below hb7)
        have K1 := Lib.hid (K1.out.below hb7)
        have KB := Lib.hid (KB.out.call hb7)
        have RA := Lib.hid (RA.out.below hb7)
        have RC := Lib.hid hR7
        clear hR7 hb7
        obtain ⟨q1, q2, q3, q4⟩ := set_box K0.out KB.out (Nat.le_refl _) (.int .i64 (sz : Int)) (.slice A mA c) (.slice C7 m7 d7) (.int .i64 0)
        have K0n := Lib.hid q1
        have KBn := Lib.hid q2
        have K1n := Lib.hid (q3 (N + 1) (by omega) _ _ K1.out)
        have RAn := Lib.hid (q4 _ _ (str1_T _) RA.out)
        have RCn := Lib.hid (q4 _ _ (str1_C _) RC.out)
        clear q1 q2 q3 q4
        have e0 : w7.cell? ⟨N, 0, none⟩ = some (.int .i64 (sz : Int)) := by rw [K0.out.cell]; rfl
        have e1 : w7.cell? ⟨N, 1, none⟩ = some (.slice A mA c) := by rw [K0.out.cell]; rfl
        have e2 : w7.cell? ⟨N, 2, none⟩ = some (.slice C1 m1 d1) := by rw [K0.out.cell]; rfl
        have e3 : w7.cell? ⟨N, 3, none⟩ = some (.int .i64 ((ask : Int) + 1)) := by rw [K0.out.cell]; rfl
        have f0 := K0.out.frozen 0
        have f1 := K0.out.frozen 1
        have f2 := K0.out.frozen 2
        have f3 := K0.out.frozen 3
        go_upto_region 10 with (fail)
        generalize (((w7.setCell ⟨N, 0, none⟩ (.int .i64 (sz : Int))).setCell ⟨N, 1, none⟩ (.slice A mA c)).setCell ⟨N, 2, none⟩ (.slice C7 m7 d7)).setCell ⟨N, 3, none⟩ (.int .i64 0) = W8 at *
        clear e0 e1 e2 e3 f0 f1 f2 f3 K0 KB K1 RA RC
        have K0 := K0n
        have KB := KBn
        have K1 := K1n
        have RA := RAn
        have RC := RCn
        clear K0n KBn K1n RAn RCn
        have e0 : W8.cell? ⟨N, 0, none⟩ = some (.int .i64 (sz : Int)) := by rw [K0.out.cell]; rfl
        have e1 : W8.cell? ⟨N, 1, none⟩ = some (.slice A mA c) := by rw [K0.out.cell]; rfl
        have e2 : W8.cell? ⟨N, 2, none⟩ = some (.slice C7 m7 d7) := by rw [K0.out.cell]; rfl
        have e3 : W8.cell? ⟨N, 3, none⟩ = some (.int .i64 0) := by rw [K0.out.cell]; rfl
        have f0 := K0.out.frozen 0
        have f1 := K0.out.frozen 1
        have f2 := K0.out.frozen 2
        have f3 := K0.out.frozen 3
        have r0 : W8.cell? ⟨N + 1, 0, none⟩ = some (.int .i64 0) := by rw [K1.out.cell]; rfl
        have r1 : W8.cell? ⟨N + 1, 1, none⟩ = some (.slice none 0 0) := by rw [K1.out.cell]; rfl
        have r2 : W8.cell? ⟨N + 1, 2, none⟩ = some (.slice none 0 0) := by rw [K1.out.cell]; rfl
        have r3 : W8.cell? ⟨N + 1, 3, none⟩ = some (.int .i64 0) := by rw [K1.out.cell]; rfl
        have g0 := K1.out.frozen 0
        have g1 := K1.out.frozen 1
        have g2 := K1.out.frozen 2
        have g3 := K1.out.frozen 3
        obtain ⟨q1, q2, _, q4⟩ := set_box K1.out KB.out (by omega) (.int .i64 (sz : Int)) (.slice A mA c) (.slice C7 m7 d7) (.int .i64 0)
        have Q1 := Lib.hid q1
        have Q2 := Lib.hid q2.1
        have QA := Lib.hid (q4 _ _ (str1_T _) RA.out)
        have QC := Lib.hid (q4 _ _ (str1_C _) RC.out)
        clear q1 q2 q4
        go_wp2_with fail
        refine bodyPost_ret (results_c3 rfl _ _ _ rfl rfl rfl Q1.out.four) rfl ⟨_, _, ?_, QA.out, QC.out, ?_⟩
        · rfl
        have := Q2.out
        rw [← HN.out]
        exact this
      · have hq1 : ((ask : Int) + 1 == 10 * (sz : Int)) = false := by simp; omega
        obtain ⟨hg1, hg2⟩ := HGF.out
        rw [if_neg hq] at hg1 hg2
        subst hg1
        subst hg2
        clear hq
        have e0 : w4.cell? ⟨N, 0, none⟩ = some (.int .i64 (sz : Int)) := by rw [K0.out.cell]; rfl
        have e1 : w4.cell? ⟨N, 1, none⟩ = some (.slice A mA c) := by rw [K0.out.cell]; rfl
        have e2 : w4.cell? ⟨N, 2, none⟩ = some (.slice C1 m1 d1) := by rw [K0.out.cell]; rfl
        have e3 : w4.cell? ⟨N, 3, none⟩ = some (.int .i64 ((ask : Int) + 1)) := by rw [K0.out.cell]; rfl
        have f0 := K0.out.frozen 0
        have f1 := K0.out.frozen 1
        have f2 := K0.out.frozen 2
        have f3 := K0.out.frozen 3
        have r0 : w4.cell? ⟨N + 1, 0, none⟩ = some (.int .i64 0) := by rw [K1.out.cell]; rfl
        have r1 : w4.cell? ⟨N + 1, 1, none⟩ = some (.slice none 0 0) := by rw [K1.out.cell]; rfl
        have r2 : w4.cell? ⟨N + 1, 2, none⟩ = some (.slice none 0 0) := by rw [K1.out.cell]; rfl
        have r3 : w4.cell? ⟨N + 1, 3, none⟩ = some (.int .i64 0) := by rw [K1.out.cell]; rfl
        have g0 := K1.out.frozen 0
        have g1 := K1.out.frozen 1
        have g2 := K1.out.frozen 2
        have g3 := K1.out.frozen 3
        obtain ⟨q1, q2, _, q4⟩ := set_box K1.out KB.out (by omega) (.int .i64 (sz : Int)) (.slice A mA c) (.slice C1 m1 d1) (.int .i64 ((ask : Int) + 1))
        have Q1 := Lib.hid q1
        have Q2 := Lib.hid q2.1
        have QA := Lib.hid (q4 _ _ (str1_T _) RA.out)
        have QC := Lib.hid (q4 _ _ (str1_C _) RC.out)
        clear q1 q2 q4
        go_wp2_with fail
        refine bodyPost_ret (results_c3 rfl _ _ _ rfl rfl rfl Q1.out.four) rfl ⟨_, _, ?_, QA.out, QC.out, ?_⟩
        · rfl
        have := Q2.out
        rw [← HN.out]
        exact this
    · rw [e]
      have hu := HUS.out
      rw [useF_hit e ht, ← first_use HNT.out ht] at hu
      cases hu
      have FST : Hid (∀ W, Rp W (.slice A mA c) (pT ts) → Calls Try.prog 47 #[.agg #[.int .i64 (sz : Int), .slice A mA c, .slice C1 m1 d1, .int .i64 ((ask : Int) + 1)], .agg #[.string tk, .string tv]] W fun e w' => ∃ v', e = .returned (.agg #[.int .i64 (sz : Int), v', .slice C1 m1 d1, .int .i64 ((ask : Int) + 1)]) ∧ Rp w' v' (pT (firstF ts (tk, tv))) ∧ Below W.heap.size W w') := Lib.hid (fun W h => rcfirst_any (sz : Int) (.slice A mA c) C1 m1 d1 ts ((ask : Int) + 1) (tk, tv) W h (by omega))
      have hTP : Tp w4 A (pT ts) := by obtain ⟨_, _, hee, h, _⟩ := RA.out; cases hee; exact h
      obtain ⟨b, o, rfl, hbl, d0, d1'⟩ := hTP.at_ kk _ (pT_at ht)
      have hkk : kk < mA := by rw [HMA.out]; exact (List.getElem?_eq_some_iff.1 ht).1
      have i1 : (kk : Int) < (mA : Int) := by omega
      have i2 : (0 : Int) ≤ (kk : Int) := by omega
      simp only at d0 d1'
      have e0 : w4.cell? ⟨N, 0, none⟩ = some (.int .i64 (sz : Int)) := by rw [K0.out.cell]; rfl
      have e1 : w4.cell? ⟨N, 1, none⟩ = some (.slice (some ⟨b, o, none⟩) mA c) := by rw [K0.out.cell]; rfl
      have e2 : w4.cell? ⟨N, 2, none⟩ = some (.slice C1 m1 d1) := by rw [K0.out.cell]; rfl
      have e3 : w4.cell? ⟨N, 3, none⟩ = some (.int .i64 ((ask : Int) + 1)) := by rw [K0.out.cell]; rfl
      have f0 := K0.out.frozen 0
      have f1 := K0.out.frozen 1
      have f2 := K0.out.frozen 2
      have f3 := K0.out.frozen 3
      have K0d := Lib.hid (K0.out.drewN 1)
      have K1d := Lib.hid (K1.out.drewN 1)
      have KBd := Lib.hid (KB.out.drewN 1)
      have RAd : Hid (Rp w4.drew (.slice (some ⟨b, o, none⟩) mA c) (pT ts)) := Lib.hid (RA.out.below (Below.refl _ _).drew)
      have RCd : Hid (Rp w4.drew (.slice C1 m1 d1) (pC CS1)) := Lib.hid (RC.out.below (Below.refl _ _).drew)
      clear HUS e ht hTP hkk hk
      go_wp2_with fail
      clear K0 K1 KB RA RC
      go_region_with (go_at_call 47; (with_reducible refine (FST.out _ RAd.out).mono ?_); rintro e w5 ⟨v6, rfl, hR6, hb6⟩; obtain ⟨A6, c6, hv6, _⟩ := id hR6; obtain ⟨m6, hm6⟩ : ∃ m, m = (pT (firstF ts (tk, tv))).length := ⟨_, rfl⟩; rw [← hm6] at hv6; subst hv6; have K0 := Lib.hid (K0d.out.below hb6); have K1 := Lib.hid (K1d.out.below hb6); have KB := Lib.hid (KBd.out.call hb6); have RA := Lib.hid hR6; have RC := Lib.hid (RCd.out.below hb6); clear hm6 hR6 hb6; have x0 := K0.out.cell 0; have x1 := K0.out.cell 1; have x2 := K0.out.cell 2; have x3 := K0.out.cell 3; have y0 := K0.out.frozen 0; have y1 := K0.out.frozen 1; have y2 := K0.out.frozen 2; have y3 := K0.out.frozen 3; simp only [List.getElem?_toArray, List.getElem?_cons_succ, List.getElem?_cons_zero] at x0 x1 x2 x3)
      all_goals
        obtain ⟨q1, q2, q3, q4⟩ := set_box K0.out KB.out (Nat.le_refl _) (.int .i64 (sz : Int)) (.slice A6 m6 c6) (.slice C1 m1 d1) (.int .i64 ((ask : Int) + 1))
        have K0n := Lib.hid q1
        have KBn := Lib.hid q2
        have K1n := Lib.hid (q3 (N + 1) (by omega) _ _ K1.out)
        have RAn := Lib.hid (q4 _ _ (str1_T _) RA.out)
        have RCn := Lib.hid (q4 _ _ (str1_C _) RC.out)
        clear q1 q2 q3 q4
        generalize (((w5.setCell ⟨N, 0, none⟩ (.int .i64 (sz : Int))).setCell ⟨N, 1, none⟩ (.slice A6 m6 c6)).setCell ⟨N, 2, none⟩ (.slice C1 m1 d1)).setCell ⟨N, 3, none⟩ (.int .i64 ((ask : Int) + 1)) = W6 at *
        clear x0 x1 x2 x3 y0 y1 y2 y3 e0 e1 e2 e3 f0 f1 f2 f3 d0 d1' K0 K1 KB RA RC K0d K1d KBd RAd RCd
        have K0 := K0n
        have KB := KBn
        have K1 := K1n
        have RA := RAn
        have RC := RCn
        clear K0n KBn K1n RAn RCn
        by_cases hq : ask + 1 = 10 * sz
        · have hq1 : ((ask : Int) + 1 == 10 * (sz : Int)) = true := by simp; omega
          obtain ⟨hg1, hg2⟩ := HGF.out
          rw [if_pos hq] at hg1 hg2
          subst hg1
          subst hg2
          clear hq
          have e0 : W6.cell? ⟨N, 0, none⟩ = some (.int .i64 (sz : Int)) := by rw [K0.out.cell]; rfl
          have e1 : W6.cell? ⟨N, 1, none⟩ = some (.slice A6 m6 c6) := by rw [K0.out.cell]; rfl
          have e2 : W6.cell? ⟨N, 2, none⟩ = some (.slice C1 m1 d1) := by rw [K0.out.cell]; rfl
          have e3 : W6.cell? ⟨N, 3, none⟩ = some (.int .i64 ((ask : Int) + 1)) := by rw [K0.out.cell]; rfl
          have f0 := K0.out.frozen 0
          have f1 := K0.out.frozen 1
          have f2 := K0.out.frozen 2
          have f3 := K0.out.frozen 3
          go_wp2_with fail
          refine (HAL.out _ _ _ _ RC.out).mono ?_
          rintro e w7 ⟨v7, rfl, hR7, hb7⟩
          obtain ⟨C7, d7, hv7, _⟩ := id hR7
          obtain ⟨m7, hm7⟩ : ∃ m, m = (pC (halvedC CS1)).length := ⟨_, rfl⟩
          rw [← hm7] at hv7
          subst hv7
          clear e0 e1 e2 e3 f0 f1 f2 f3 hm7
          have K0 := Lib.hid (K0.out.below hb7)
          have K1 := Lib.hid (K1.out.below hb7)
          have KB := Lib.hid (KB.out.call hb7)
          have RA := Lib.hid (RA.out.below hb7)
          have RC := Lib.hid hR7
          clear hR7 hb7
          obtain ⟨q1, q2, q3, q4⟩ := set_box K0.out KB.out (Nat.le_refl _) (.int .i64 (sz : Int)) (.slice A6 m6 c6) (.slice C7 m7 d7) (.int .i64 0)
          have K0n := Lib.hid q1
          have KBn := Lib.hid q2
          have K1n := Lib.hid (q3 (N + 1) (by omega) _ _ K1.out)
          have RAn := Lib.hid (q4 _ _ (str1_T _) RA.out)
          have RCn := Lib.hid (q4 _ _ (str1_C _) RC.out)
          clear q1 q2 q3 q4
          have e0 : w7.cell? ⟨N, 0, none⟩ = some (.int .i64 (sz : Int)) := by rw [K0.out.cell]; rfl
          have e1 : w7.cell? ⟨N, 1, none⟩ = some (.slice A6 m6 c6) := by rw [K0.out.cell]; rfl
          have e2 : w7.cell? ⟨N, 2, none⟩ = some (.slice C1 m1 d1) := by rw [K0.out.cell]; rfl
          have e3 : w7.cell? ⟨N, 3, none⟩ = some (.int .i64 ((ask : Int) + 1)) := by rw [K0.out.cell]; rfl
          have f0 := K0.out.frozen 0
          have f1 := K0.out.frozen 1
          have f2 := K0.out.frozen 2
          have f3 := K0.out.frozen 3
          go_upto_region 10 with (fail)
          generalize (((w7.setCell ⟨N, 0, none⟩ (.int .i64 (sz : Int))).setCell ⟨N, 1, none⟩ (.slice A6 m6 c6)).setCell ⟨N, 2, none⟩ (.slice C7 m7 d7)).setCell ⟨N, 3, none⟩ (.int .i64 0) = W8 at *
          clear e0 e1 e2 e3 f0 f1 f2 f3 K0 KB K1 RA RC
          have K0 := K0n
          have KB := KBn
          have K1 := K1n
          have RA := RAn
          have RC := RCn
          clear K0n KBn K1n RAn RCn
          have e0 : W8.cell? ⟨N, 0, none⟩ = some (.int .i64 (sz : Int)) := by rw [K0.out.cell]; rfl
          have e1 : W8.cell? ⟨N, 1, none⟩ = some (.slice A6 m6 c6) := by rw [K0.out.cell]; rfl
          have e2 : W8.cell? ⟨N, 2, none⟩ = some (.slice C7 m7 d7) := by rw [K0.out.cell]; rfl
          have e3 : W8.cell? ⟨N, 3, none⟩ = some (.int .i64 0) := by rw [K0.out.cell]; rfl
          have f0 := K0.out.frozen 0
          have f1 := K0.out.frozen 1
          have f2 := K0.out.frozen 2
          have f3 := K0.out.frozen 3
          have r0 : W8.cell? ⟨N + 1, 0, none⟩ = some (.int .i64 0) := by rw [K1.out.cell]; rfl
          have r1 : W8.cell? ⟨N + 1, 1, none⟩ = some (.slice none 0 0) := by rw [K1.out.cell]; rfl
          have r2 : W8.cell? ⟨N + 1, 2, none⟩ = some (.slice none 0 0) := by rw [K1.out.cell]; rfl
          have r3 : W8.cell? ⟨N + 1, 3, none⟩ = some (.int .i64 0) := by rw [K1.out.cell]; rfl
          have g0 := K1.out.frozen 0
          have g1 := K1.out.frozen 1
          have g2 := K1.out.frozen 2
          have g3 := K1.out.frozen 3
          obtain ⟨q1, q2, _, q4⟩ := set_box K1.out KB.out (by omega) (.int .i64 (sz : Int)) (.slice A6 m6 c6) (.slice C7 m7 d7) (.int .i64 0)
          have Q1 := Lib.hid q1
          have Q2 := Lib.hid q2.1
          have QA := Lib.hid (q4 _ _ (str1_T _) RA.out)
          have QC := Lib.hid (q4 _ _ (str1_C _) RC.out)
          clear q1 q2 q4
          go_wp2_with fail
          refine bodyPost_ret (results_c3 rfl _ _ _ rfl rfl rfl Q1.out.four) rfl ⟨_, _, rfl, QA.out, QC.out, ?_⟩
          have := Q2.out
          rw [← HN.out]
          exact this
        · have hq1 : ((ask : Int) + 1 == 10 * (sz : Int)) = false := by simp; omega
          obtain ⟨hg1, hg2⟩ := HGF.out
          rw [if_neg hq] at hg1 hg2
          subst hg1
          subst hg2
          clear hq
          have e0 : W6.cell? ⟨N, 0, none⟩ = some (.int .i64 (sz : Int)) := by rw [K0.out.cell]; rfl
          have e1 : W6.cell? ⟨N, 1, none⟩ = some (.slice A6 m6 c6) := by rw [K0.out.cell]; rfl
          have e2 : W6.cell? ⟨N, 2, none⟩ = some (.slice C1 m1 d1) := by rw [K0.out.cell]; rfl
          have e3 : W6.cell? ⟨N, 3, none⟩ = some (.int .i64 ((ask : Int) + 1)) := by rw [K0.out.cell]; rfl
          have f0 := K0.out.frozen 0
          have f1 := K0.out.frozen 1
          have f2 := K0.out.frozen 2
          have f3 := K0.out.frozen 3
          have r0 : W6.cell? ⟨N + 1, 0, none⟩ = some (.int .i64 0) := by rw [K1.out.cell]; rfl
          have r1 : W6.cell? ⟨N + 1, 1, none⟩ = some (.slice none 0 0) := by rw [K1.out.cell]; rfl
          have r2 : W6.cell? ⟨N + 1, 2, none⟩ = some (.slice none 0 0) := by rw [K1.out.cell]; rfl
          have r3 : W6.cell? ⟨N + 1, 3, none⟩ = some (.int .i64 0) := by rw [K1.out.cell]; rfl
          have g0 := K1.out.frozen 0
          have g1 := K1.out.frozen 1
          have g2 := K1.out.frozen 2
          have g3 := K1.out.frozen 3
          obtain ⟨q1, q2, _, q4⟩ := set_box K1.out KB.out (by omega) (.int .i64 (sz : Int)) (.slice A6 m6 c6) (.slice C1 m1 d1) (.int .i64 ((ask : Int) + 1))
          have Q1 := Lib.hid q1
          have Q2 := Lib.hid q2.1
          have QA := Lib.hid (q4 _ _ (str1_T _) RA.out)
          have QC := Lib.hid (q4 _ _ (str1_C _) RC.out)
          clear q1 q2 q4
          go_wp2_with fail
          refine bodyPost_ret (results_c3 rfl _ _ _ rfl rfl rfl Q1.out.four) rfl ⟨_, _, rfl, QA.out, QC.out, ?_⟩
          have := Q2.out
          rw [← HN.out]
          exact this
end Go.Proofs.Ytplahkhohhbgaaa
