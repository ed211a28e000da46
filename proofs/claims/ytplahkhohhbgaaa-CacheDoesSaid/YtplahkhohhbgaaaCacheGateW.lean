/-
  The walk of the law CacheGate.
-/
import Derived.Test.YtplahkhohhbgaaaCacheGateP
import Derived.Deep.RegionHeld3
namespace Go.Proofs.Ytplahkhohhbgaaa
open Go.RowKit Go.Proofs.Cch
set_option linter.unusedVariables false
set_option linter.unusedSimpArgs false
theorem quietly0_same {f : FuncId} {args : Array Value} {w : World} {n : Nat} {v : Value} (h : Calls Try.prog f args (w.drewN n) fun e w' => e = .returned v ∧ w.drewN n = w') :
    Calls Try.prog f args (w.drewN n) fun e w' => e = .returned v ∧ ∃ m, w' = w.drewN m := by
  refine h.mono ?_
  rintro e w' ⟨he, rfl⟩
  exact ⟨he, n, rfl⟩
/-- A cache behind k acts. -/
def Ck (w0 : World) (g sz m k : Nat) (ts : Things) (wr : World) : Prop := ∃ v cs ask, Cs w0 g sz v m ts cs ask wr ∧ (keysF ts).Nodup ∧ ask ≤ k ∧ cs.length ≤ k
set_option maxRecDepth 100000 in
set_option maxHeartbeats 4000000 in
theorem gate_walk (w : World) (a0 : Int) (A1 : Option Addr) (c1 : Nat) (l1 : List Wish) (S1 : Sk w A1 l1) (a2 a3 : ByteArray) (ha2 : a2.size ≤ maxLen) (ha3 : a3.size ≤ maxLen) :
    Calls Try.prog 5 #[.int .i64 a0, .slice A1 l1.length c1, .string a2, .string a3] w fun e w' => e = .returned (.bool true) ∧ Below w.heap.size w w' := by
  have HS := Lib.hid S1
  clear S1
  go_enter Try.func5, Try.ntmps5
  go_wp2_with fail
  refine (cworks_any _).mono ?_
  rintro e w1 ⟨rfl, hb1⟩
  have HB1 := Lib.hid hb1
  clear hb1
  go_wp2_with fail
  refine (cnew_any a0 w w1 ⟨HB1.out, HB1.out.size⟩).mono ?_
  rintro e w2 ⟨rfl, hM, hb2⟩
  have H2 := Lib.hid hM
  clear hM hb2
  go_wp2_with fail
  refine (cfew_any A1 c1 l1 w2 (HS.out.below H2.out.bl.1)).mono ?_
  rintro e w3 ⟨rfl, rfl⟩
  rcases hf : cfewF l1 with _ | _
  · go_wp2_with fail
    go_ret
    exact ⟨rfl, H2.out.bl.1⟩
  · obtain ⟨hl200, hks⟩ := cfewF_true hf
    have HKS := Lib.hid hks
    clear hf hks
    obtain ⟨sz, hsz⟩ : ∃ s, s = sizeOfC a0 := ⟨_, rfl⟩
    rw [← hsz] at H2
    clear hsz
    go_wp2_with fail
    generalize w1.heap.size = m at *
    go_loopw [12] (fun vi wr => ∃ k : Nat, vi = .int .i64 (k : Int) ∧ k ≤ l1.length ∧ Hid (∃ ts, Ck w (m + 1) sz m k ts wr)) (fun vi _ => l1.length - (intOf vi).toNat)
    case atStart => exact ⟨0, rfl, Nat.zero_le _, Lib.hid ⟨[], _, [], 0, H2.out, by simp [keysF], Nat.le_refl _, Nat.le_refl _⟩⟩
    case round =>
      obtain ⟨k, rfl, hk, HM⟩ := hrel
      obtain ⟨ts, v, cs, ask, hC, hnd, hask, hcl⟩ := HM.out
      have H := Lib.hid hC
      have HND := Lib.hid hnd
      clear HM hC hnd
      by_cases hlt : k < l1.length
      · obtain ⟨a, ha⟩ : ∃ a, l1[k]? = some a := ⟨_, List.getElem?_eq_getElem hlt⟩
        have hkey : a.key.size ≤ maxLen := by have := (HKS.out a (List.mem_of_getElem? ha)).1; unfold maxLen; omega
        obtain ⟨b, o, rfl, hbl, d0, d1, d2⟩ := (HS.out.below H.out.bl.1).at_ k a ha
        obtain ⟨ak, key, value⟩ := a
        simp only at d0 d1 d2 hkey
        have SK : Hid (∀ W : World, Below w.heap.size w W → W.cell? ⟨b, o + k * 3 + 1, none⟩ = some (.string key) ∧ W.cell? ⟨b, o + k * 3 + 2, none⟩ = some (.string value)) := Lib.hid (fun W hW => by
          obtain ⟨b', o', he, _, _, e1, e2⟩ := (HS.out.below hW).at_ k _ ha
          cases he
          exact ⟨e1, e2⟩)
        have j1 : (k : Int) < (l1.length : Int) := by omega
        have wk : IntKind.i64.wrap ((k : Int) + 1) = (k : Int) + 1 := IntWalk.i64_in _ (by omega)
        clear ha
        by_cases hk0 : ak = 0
        · subst hk0
          go_wp2_with fail
          refine (get_any key hkey (by omega) (by omega) H.out).mono ?_
          rintro e w4 ⟨rfl, h4, _⟩
          have H4 := Lib.hid h4
          have CNT := Lib.hid (get_counts sz ts cs ask key)
          clear h4
          go_wp2_with fail
          refine ⟨⟨k + 1, by go_num, by omega, Lib.hid ⟨_, _, _, _, H4.out, nodup_get HND.out sz cs ask key, by have := CNT.out.2; omega, by have := CNT.out.1; omega⟩⟩, by simp [intOf]; omega⟩
        · have OFF := Lib.hid (fun W (h : Cs w (m + 1) sz v m ts cs ask W) => offer_any key value hkey h)
          have BD : Hid (Below w.heap.size w wr.drew) := Lib.hid (H.out.drewN 1).bl.1
          have HD : Hid (Cs w (m + 1) sz v m ts cs ask wr.drew) := Lib.hid (H.out.drewN 1)
          go_wp2_with fail
          go_region_held3 (fun W => W.cell? ⟨b, o + k * 3 + 1, none⟩ = some (.string key) ∧ W.cell? ⟨b, o + k * 3 + 2, none⟩ = some (.string value)) (first | exact SK.out _ BD.out | exact SK.out _ B4.out)
            (first
              | (go_at_call 20; refine (OFF.out _ HD.out).mono ?_; rintro e w4 ⟨rfl, v4, h4, _, _⟩; have H4 := Lib.hid h4; have B4 := Lib.hid h4.bl.1; clear h4))
          go_wp2_with fail
          refine ⟨⟨k + 1, by go_num, by omega, Lib.hid ⟨_, _, _, _, H4.out, nodup_offer HND.out sz cs key value, by omega, by omega⟩⟩, by simp [intOf]; omega⟩
      · obtain rfl : k = l1.length := by omega
        go_wp2_with fail
        refine (keys_any H.out).mono ?_
        rintro e w4 ⟨vk, rfl, hk4, hb4⟩
        obtain ⟨Ak, ck, hvk, _, hSk⟩ := Strs.of_own hk4
        have hk4' := hk4
        rw [hvk] at hk4'
        have H4 := Lib.hid (H.out.below hb4)
        have SKK := Lib.hid hSk
        have OWK := Lib.hid hk4'
        have HZ4 := Lib.hid hb4.size
        obtain ⟨KS, hKS⟩ : ∃ K, K = keysF ts := ⟨_, rfl⟩
        rw [← hKS] at hvk SKK OWK
        have hKl : KS.length ≤ 64 := by have h1 := H.out.len; have h2 := H.out.top; rw [hKS]; unfold keysF; rw [List.length_map]; omega
        have HKL := Lib.hid hKS
        have KEYB : Hid (∀ x ∈ KS, x.size ≤ maxLen) := Lib.hid (fun x hx => by
          rw [hKS] at hx
          obtain ⟨t, ht, rfl⟩ := List.mem_map.1 hx
          obtain ⟨j, hj⟩ := List.getElem?_of_mem ht
          exact H.out.keys j t hj)
        subst hvk
        clear hk4 hb4 hSk hKS hk4'
        go_wp2_with fail
        refine (offer_any a2 a3 ha2 H4.out).mono ?_
        rintro e w5 ⟨rfl, v5, h5, F5, _⟩
        have hw5 : w5.ownsRow wr.heap.size 9 1 (.slice Ak KS.length ck) KS.length (KS.map Value.string) := own_far OWK.out F5 (fun i hi h => by
          have h1 := (OWK.out.lt i hi).1
          rcases h with h | h | h
          · have := H.out.blk.lt; omega
          · have := (H.out.row.lt i h).2; omega
          · have := H.out.map.lt; omega)
        have SK5 := Lib.hid (show Strs w5 Ak KS by obtain ⟨A', c', he, _, hs⟩ := Strs.of_own hw5; cases he; exact hs)
        obtain ⟨OK, hOK⟩ : ∃ b, b = (offerF sz ts cs a2 a3).2 := ⟨_, rfl⟩
        obtain ⟨TS, hTS⟩ : ∃ b, b = (offerF sz ts cs a2 a3).1 := ⟨_, rfl⟩
        rw [← hOK]
        rw [← hTS] at h5
        have H5 := Lib.hid h5
        have HOK := Lib.hid hOK
        have HTS := Lib.hid hTS
        clear h5 F5 hw5 hOK hTS
        go_wp2_with fail
        refine (keys_any H5.out).mono ?_
        rintro e w6 ⟨vq, rfl, hq6, hb6⟩
        obtain ⟨Aq, cq, hvq, _, hSq⟩ := Strs.of_own hq6
        have H6 := Lib.hid (H5.out.below hb6)
        have SQ := Lib.hid hSq
        have SK6 := Lib.hid (SK5.out.below hb6)
        obtain ⟨KQ, hKQ⟩ : ∃ K, K = keysF TS := ⟨_, rfl⟩
        rw [← hKQ] at hvq SQ
        have hQl : KQ.length ≤ 64 := by have h1 := H5.out.len; have h2 := H5.out.top; rw [hKQ]; unfold keysF; rw [List.length_map]; omega
        have HKQ := Lib.hid hKQ
        have OFT := Lib.hid (fun W (h : Cs w (m + 1) sz v5 m TS cs ask W) s (hs : s.size ≤ maxLen) => often_any s hs h)
        subst hvq
        clear hq6 hb6 hSq hKQ
        have HLN := Lib.hid H.out.len
        rcases OK with _ | _
        · obtain ⟨h1, h2⟩ := offer_not HOK.out.symm HLN.out
          have h3 := HTS.out
          rw [h1] at h3
          have h4 : KQ = KS := by rw [HKQ.out, HKL.out, h3]
          rw [← HKL.out] at h2
          subst h4
          have SAME := Lib.hid (fun n => same_any Ak Aq ck cq KQ KQ (w6.drewN n) (SK6.out.drewN n) (SQ.out.drewN n) (by omega) (by omega))
          have O2 := Lib.hid (fun n => OFT.out _ (H6.out.drewN n) a2 ha2)
          have sself : decide (KQ = KQ) = true := decide_eq_true rfl
          rw [sself] at SAME
          clear sself
          rcases h2 with h2 | ⟨x, hx, hcx⟩
          · subst h2
            clear h3 h1
            go_wp2_with fail
            go_quiet ((go_at_call 24; exact quietly0 (SAME.out _)))
            go_wp2_with fail
            go_ret
            exact ⟨rfl, (H6.out.drewN _).bl.1⟩
          · have hpos : 0 < KQ.length := by have := (List.getElem?_eq_some_iff.1 hx).1; omega
            obtain ⟨bq, oq, rfl, _, dq⟩ := SK6.out.at_ (KQ.length - 1) (by omega)
            have hxe : KQ[KQ.length - 1]'(by omega) = x := by have := (List.getElem?_eq_some_iff.1 hx).2; exact this
            rw [hxe] at dq
            have hxs : x.size ≤ maxLen := KEYB.out x (List.mem_of_getElem? hx)
            have OX := Lib.hid (fun n => OFT.out _ (H6.out.drewN n) x hxs)
            have i1 : ((KQ.length : Int) == 0) = false := beq_eq_false_iff_ne.2 (by omega)
            have i2 : IntKind.i64.wrap ((KQ.length : Int) - 1) = (KQ.length : Int) - 1 := IntWalk.i64_in _ (by omega)
            have i3 : ((KQ.length : Int) - 1).toNat = KQ.length - 1 := by omega
            have i4 : (0 : Int) ≤ (KQ.length : Int) - 1 := by omega
            have i4' : (1 : Int) ≤ (KQ.length : Int) := by omega
            have i5 : (KQ.length : Int) - 1 < (KQ.length : Int) := by omega
            have i6 : ((cntAt cs a2 : Nat) : Int) ≤ ((cntAt cs x : Nat) : Int) := by omega
            clear h3 h1 hxe hx hcx
            go_wp2_with fail
            go_quiet (first | (go_at_call 24; exact quietly0 (SAME.out _)) | (go_at_call_of 27 (Value.string a2); exact quietly0_same (O2.out _)) | (go_at_call_of 27 (Value.string x); exact quietly0_same (OX.out _)))
            go_wp2_with fail
            go_ret
            exact ⟨rfl, (H6.out.drewN _).bl.1⟩
        · obtain ⟨r, h1⟩ := offer_head HOK.out.symm
          have KEEP := Lib.hid (fun i x hx => offer_keeps HOK.out.symm i x hx)
          rw [← HTS.out, ← HKQ.out, ← HKL.out] at KEEP
          have h3 := HTS.out
          rw [h1] at h3
          have hkq := HKQ.out
          rw [h3] at hkq
          obtain ⟨KR, hKR⟩ : ∃ q, KQ = a2 :: q := ⟨_, hkq⟩
          have hQpos : 0 < KQ.length := by rw [hKR]; simp
          obtain ⟨bk, ok, rfl, _, dk⟩ := SQ.out.at_ 0 hQpos
          have hk0 : KQ[0] = a2 := by simp [hKR]
          rw [hk0] at dk
          have be2 : (a2.toList == a2.toList) = true := by simp
          have iK0 : (0 : Int) < ((KQ.length : Nat) : Int) := by omega
          have iK1 : ((KQ.length : Int) == 0) = false := beq_eq_false_iff_ne.2 (by omega)
          simp only [Nat.add_zero] at dk
          clear h1 h3 hkq hKR hk0
          go_wp2_with fail
          go_loopw [16, 17, 18] (fun vi _ _ wr => ∃ k q : Nat, vi = .int .i64 (k : Int) ∧ k ≤ KS.length ∧ wr = w6.drewN q) (fun vi _ _ _ => KS.length - (intOf vi).toNat)
          case atStart => exact ⟨0, 0, rfl, Nat.zero_le _, rfl⟩
          case round =>
            obtain ⟨k, q, rfl, hk, rfl⟩ := hrel
            by_cases hlt : k < KS.length
            · obtain ⟨X, hX⟩ : ∃ X, X = KS[k] := ⟨_, rfl⟩
              obtain ⟨bs, os, rfl, _, ds⟩ := SK6.out.at_ k hlt
              rw [← hX] at ds
              have hXs : X.size ≤ maxLen := KEYB.out X (by rw [hX]; exact List.getElem_mem _)
              have hkeep := KEEP.out k X (by rw [hX]; exact List.getElem?_eq_getElem hlt)
              have HKE := Lib.hid hkeep
              clear hX hkeep
              have j1 : (k : Int) < (KS.length : Int) := by omega
              have wk : IntKind.i64.wrap ((k : Int) + 1) = (k : Int) + 1 := IntWalk.i64_in _ (by omega)
              go_wp2_with fail
              go_loopw [17, 18] (fun vt vi wr => ∃ kk q : Nat, vi = .int .i64 (kk : Int) ∧ vt = .bool (inB X (KQ.take kk)) ∧ kk ≤ KQ.length ∧ wr = w6.drewN q) (fun _ vi _ => KQ.length - (intOf vi).toNat)
              case atStart => exact ⟨0, q, rfl, by simp [inB], Nat.zero_le _, rfl⟩
              case round =>
                obtain ⟨kk, q2, rfl, rfl, hkk, rfl⟩ := hrel
                by_cases hlt2 : kk < KQ.length
                · obtain ⟨Y, hY⟩ : ∃ Y, Y = KQ[kk] := ⟨_, rfl⟩
                  obtain ⟨bz, oz, hez, _, dz⟩ := SQ.out.at_ kk hlt2
                  cases hez
                  rw [← hY] at dz
                  have hst : KQ.take (kk + 1) = KQ.take kk ++ [Y] := by rw [List.take_succ_eq_append_getElem hlt2, hY]
                  have HST := Lib.hid hst
                  have j2 : (kk : Int) < (KQ.length : Int) := by omega
                  have wkk : IntKind.i64.wrap ((kk : Int) + 1) = (kk : Int) + 1 := IntWalk.i64_in _ (by omega)
                  clear hY hst
                  obtain ⟨TB, hTB⟩ : ∃ b, b = inB X (KQ.take kk) := ⟨_, rfl⟩
                  rw [← hTB]
                  have HTB := Lib.hid hTB
                  clear hTB
                  rcases TB with _ | _
                  · by_cases hYX : Y = X
                    · have hbe : (Y.toList == X.toList) = true := by rw [bytes_eq]; simp [hYX]
                      have HYX := Lib.hid hYX
                      clear hYX
                      go_wp2_with fail
                      go_quiet (fail)
                      go_wp2_with fail
                      refine ⟨⟨kk + 1, _, by go_num, ?_, by omega, rfl⟩, by simp [intOf]; omega⟩
                      rw [HST.out, inB_snoc]
                      simp [HYX.out]
                    · have hbe : (Y.toList == X.toList) = false := by rw [bytes_eq]; simp [hYX]
                      have HYX := Lib.hid hYX
                      clear hYX
                      go_wp2_with fail
                      go_quiet (fail)
                      go_wp2_with fail
                      refine ⟨⟨kk + 1, _, by go_num, ?_, by omega, rfl⟩, by simp [intOf]; omega⟩
                      rw [HST.out, inB_snoc, ← HTB.out]
                      simp [HYX.out]
                  · go_wp2_with fail
                    go_quiet (fail)
                    go_wp2_with fail
                    refine ⟨⟨kk + 1, _, by go_num, ?_, by omega, rfl⟩, by simp [intOf]; omega⟩
                    rw [HST.out, inB_snoc, ← HTB.out]
                    simp
                · obtain rfl : kk = KQ.length := by omega
                  rw [List.take_length]
                  rcases hin : inB X KQ with _ | _
                  rotate_left
                  · clear hin
                    go_wp2_with fail
                    refine ⟨⟨k + 1, _, by go_num, by omega, rfl⟩, by simp [intOf]; omega⟩
                  · obtain ⟨h1, h2⟩ : k + 1 = KS.length ∧ cntAt cs X < cntAt cs a2 := by
                      rcases HKE.out with h | h
                      · exact absurd (inB_iff.2 h) (by rw [hin]; simp)
                      · exact h
                    have i1 : IntKind.i64.wrap ((KS.length : Int) - 1) = (KS.length : Int) - 1 := IntWalk.i64_in _ (by omega)
                    have i2 : ¬ (k : Int) < (KS.length : Int) - 1 := by omega
                    have O2 := Lib.hid (OFT.out _ (H6.out.drewN q2) a2 ha2)
                    have OX := Lib.hid (OFT.out _ (H6.out.drewN q2) X hXs)
                    obtain ⟨NX, hNX⟩ : ∃ n : Int, n = ((cntAt cs X : Nat) : Int) := ⟨_, rfl⟩
                    obtain ⟨N2, hN2⟩ : ∃ n : Int, n = ((cntAt cs a2 : Nat) : Int) := ⟨_, rfl⟩
                    rw [← hNX] at OX
                    rw [← hN2] at O2
                    have i3 : ¬ N2 ≤ NX := by omega
                    have i4 : NX < N2 := by omega
                    have H12 := Lib.hid h1
                    clear hin h1 h2 hNX hN2
                    go_wp2_with fail
                    refine OX.out.mono ?_
                    rintro e w7 ⟨rfl, rfl⟩
                    go_wp2_with fail
                    refine O2.out.mono ?_
                    rintro e w7 ⟨rfl, rfl⟩
                    go_wp2_with fail
                    refine ⟨⟨k + 1, _, by go_num, by omega, rfl⟩, by simp [intOf]; omega⟩
            · obtain rfl : k = KS.length := by omega
              go_wp2_with fail
              go_ret
              exact ⟨rfl, (H6.out.drewN _).bl.1⟩
end Go.Proofs.Ytplahkhohhbgaaa
