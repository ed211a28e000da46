/-
  The walk of the law CacheLast.
-/
import Derived.Test.YtplahkhohhbgaaaCacheGateW
namespace Go.Proofs.Cch
/-- Where nothing was asked for: what an offer makes of the keys. -/
theorem offer_last {sz : Nat} {ts : Things} {key value : ByteArray} (hn : (keysF ts).Nodup) (hl : ts.length ≤ sz) :
    (offerF sz ts [] key value).2 = (inB key (keysF ts) || decide ((keysF ts).length < sz)) ∧
    keysF (offerF sz ts [] key value).1 = if (offerF sz ts [] key value).2 = true then key :: (keysF ts).filter (fun y => ¬ y = key) else keysF ts := by
  have hlen : (keysF ts).length = ts.length := by unfold keysF; rw [List.length_map]
  rcases placeOf_cases ts key with ⟨e, hno⟩ | ⟨k, t, e, ht, hk, _⟩
  · have hnk := not_key hno
    have hnb : inB key (keysF ts) = false := by
      rcases h : inB key (keysF ts) with _ | _
      · rfl
      · exact absurd (inB_iff.1 h) hnk
    rw [hnb, hlen, Bool.false_or]
    by_cases hs : ts.length = sz
    · have h0 : offerF sz ts [] key value = (ts, false) := by
        unfold offerF
        rw [if_pos e, if_pos hs]
        split
        · rw [if_pos (by simp [cntAt])]
        · rfl
      rw [h0]
      exact ⟨(decide_eq_false (by omega)).symm, by simp⟩
    · have h0 : offerF sz ts [] key value = ((key, value) :: ts, true) := by
        unfold offerF
        rw [if_pos e, if_neg hs]
      rw [h0]
      refine ⟨(decide_eq_true (by omega)).symm, ?_⟩
      rw [if_pos rfl, List.filter_eq_self.2]
      · rfl
      · intro y hy
        have : ¬ y = key := fun e => hnk (by rw [← e]; exact hy)
        simpa using this
  · have h0 : offerF sz ts [] key value = ((key, value) :: ts.eraseIdx k, true) := by
      unfold offerF
      rw [if_neg (by omega), e, Int.toNat_natCast]
    have h1 := keysF_at ht
    rw [hk] at h1
    have hb : inB key (keysF ts) = true := inB_iff.2 (List.mem_of_getElem? h1)
    rw [h0, hb]
    refine ⟨rfl, ?_⟩
    rw [if_pos rfl, ← erase_filter _ k key hn h1, ← keysF_erase]
    rfl
end Go.Proofs.Cch
namespace Go.Proofs.Ytplahkhohhbgaaa
open Go.RowKit Go.Proofs.Cch
set_option linter.unusedVariables false
set_option linter.unusedSimpArgs false
/-- A row of one string that was just laid. -/
theorem lit_one (W : World) (x : ByteArray) : (W.alloc (.cells #[.string x] 9)).ownsRow W.heap.size 9 1 (.slice (some ⟨W.heap.size, 0, none⟩) 1 1) ([x] : List ByteArray).length (([x] : List ByteArray).map Value.string) :=
  ⟨rfl, .inr ⟨W.heap.size, 1, #[.string x], rfl, Nat.le_refl _, (by show (W.heap.push _)[W.heap.size]? = some _; simp), Nat.le_refl _, by simp [maxLen], rfl, rfl⟩⟩
theorem own_base {w : World} {b b' : Nat} {e : TypeId} {size n : Nat} {v : Value} {xs : List Value} (h : w.ownsRow b e size v n xs) (hb : b' ≤ b) : w.ownsRow b' e size v n xs := by
  refine ⟨h.1, h.2.imp id ?_⟩
  rintro ⟨g, cap, cur, rfl, h2, h3⟩
  exact ⟨g, cap, cur, rfl, Nat.le_trans hb h2, h3⟩
theorem far_none {w w' : World} (k : Below w.heap.size w w') : Far (fun _ => False) w w' := ⟨k.os, k.tape, k.output, k.size, fun i hi _ => k.block i hi⟩
/-- The blocks of a cache lie in the world. -/
theorem Cs.ow_lt {w0 : World} {g sz : Nat} {v : Value} {m : Nat} {ts : Things} {cs : Counts} {ask : Nat} {w : World} (h : Cs w0 g sz v m ts cs ask w) : ∀ i, Ow g v m i → i < w.heap.size := by
  intro i hi
  rcases hi with h1 | h1 | h1
  · rw [h1]; exact h.blk.lt
  · exact (h.row.lt i h1).2
  · rw [h1]; exact h.map.lt
/-- What stands at the loop's head: the cache, and the keys that are wanted, apart. -/
def Cl (w0 : World) (m sz : Nat) (vw : Value) (wr : World) : Prop := ∃ v ts, Cs w0 (m + 1) sz v m ts [] 0 wr ∧ (keysF ts).Nodup ∧ wr.ownsRow w0.heap.size 9 1 vw (keysF ts).length ((keysF ts).map Value.string) ∧ ∀ i, vw.ownBlock = some i → ¬ Ow (m + 1) v m i
set_option maxRecDepth 100000 in
set_option maxHeartbeats 2000000 in
theorem last_walk (w : World) (a0 : Int) (A1 : Option Addr) (c1 : Nat) (l1 : List ByteArray) (S1 : Strs w A1 l1) :
    Calls Try.prog 8 #[.int .i64 a0, .slice A1 l1.length c1] w fun e w' => e = .returned (.bool true) ∧ Below w.heap.size w w' := by
  have HS := Lib.hid S1
  clear S1
  obtain ⟨R, hR⟩ : ∃ R : Nat, sizeOfC a0 = R := ⟨_, rfl⟩
  have HRI := Lib.hid (show ((R : Nat) : Int) = min (max a0 0) 64 by rw [← hR]; unfold sizeOfC; omega)
  have hRb : R ≤ 64 := by have := HRI.out; omega
  have HR := Lib.hid hR
  clear hR
  go_enter Try.func8, Try.ntmps8
  go_wp2_with fail
  refine (cworks_any _).mono ?_
  rintro e w1 ⟨rfl, hb1⟩
  have HB1 := Lib.hid hb1
  clear hb1
  go_wp2_with fail
  refine (cnew_any a0 w w1 ⟨HB1.out, HB1.out.size⟩).mono ?_
  rintro e w2 ⟨rfl, hM, hb2⟩
  rw [HR.out] at hM
  have H2 := Lib.hid hM
  clear hM hb2
  by_cases hlen : l1.length ≤ 200
  · have i1 : ¬ (200 : Int) < (l1.length : Int) := by omega
    go_wp2_with fail
    rw [← HRI.out]
    generalize w1.heap.size = m at *
    go_loopw [7, 9, 10, 11, 12, 13] (fun u vi _ _ _ _ wr => ∃ (k : Nat) (vw : Value), vw = u ∧ vi = .int .i64 (k : Int) ∧ k ≤ l1.length ∧ Hid (Cl w m R vw wr)) (fun _ vi _ _ _ _ _ => l1.length - (intOf vi).toNat)
    case atStart => exact ⟨0, _, rfl, rfl, Nat.zero_le _, Lib.hid ⟨_, [], H2.out, by simp [keysF], ⟨rfl, .inl ⟨rfl, rfl⟩⟩, by simp [Value.ownBlock]⟩⟩
    case round =>
      obtain ⟨k, vw, rfl, rfl, hk, HM⟩ := hrel
      obtain ⟨v, ts, hC, hnd, hW, hap⟩ := HM.out
      have H := Lib.hid hC
      have HND := Lib.hid hnd
      have HW := Lib.hid hW
      have HAP := Lib.hid hap
      clear HM hC hnd hW hap
      by_cases hlt : k < l1.length
      · obtain ⟨X, hX⟩ : ∃ X, X = l1[k] := ⟨_, rfl⟩
        obtain ⟨b, o, rfl, _, d0⟩ := (HS.out.below H.out.bl.1).at_ k hlt
        rw [← hX] at d0
        have SK : Hid (∀ W : World, Below w.heap.size w W → W.cell? ⟨b, o + k, none⟩ = some (.string X)) := Lib.hid (fun W hW => by
          obtain ⟨b', o', he, _, e1⟩ := (HS.out.below hW).at_ k hlt
          cases he
          rw [hX]
          exact e1)
        clear hX
        have j1 : (k : Int) < (l1.length : Int) := by omega
        have wk : IntKind.i64.wrap ((k : Int) + 1) = (k : Int) + 1 := IntWalk.i64_in _ (by omega)
        by_cases hXs : X.size ≤ 50
        · have j2 : ¬ (50 : Int) < (X.size : Int) := by omega
          have hXm : X.size ≤ maxLen := by unfold maxLen; omega
          have hOL := offer_last (sz := R) (key := X) (value := ⟨#[118]⟩) HND.out H.out.len
          go_wp2_with fail
          refine (offer_any X ⟨#[118]⟩ hXm H.out).mono ?_
          rintro e w3 ⟨rfl, v3, h3, F3, o3⟩
          have hw3 := own_far HW.out F3 HAP.out
          have hap3 : ∀ i, vw.ownBlock = some i → ¬ Ow (m + 1) v3 m i := fun i hi hO => by
            rcases hO with h | h | h
            · exact HAP.out i hi (.inl h)
            · rcases o3 with o | o
              · exact HAP.out i hi (.inr (.inl (by rw [← o]; exact h)))
              · have h4 := (HW.out.lt i hi).2
                have h5 := o i h
                omega
            · exact HAP.out i hi (.inr (.inr h))
          obtain ⟨OK, hOK⟩ : ∃ b, b = (offerF R ts [] X ⟨#[118]⟩).2 := ⟨_, rfl⟩
          obtain ⟨TS, hTS⟩ : ∃ b, b = (offerF R ts [] X ⟨#[118]⟩).1 := ⟨_, rfl⟩
          have hnd3 : (keysF TS).Nodup := by rw [hTS]; exact nodup_offer HND.out _ _ _ _
          obtain ⟨KS, hKS⟩ : ∃ q, q = keysF ts := ⟨_, rfl⟩
          have hKl : KS.length ≤ 64 := by have h1 := H.out.len; have h2 := H.out.top; rw [hKS]; unfold keysF; rw [List.length_map]; omega
          rw [← hOK, ← hTS, ← hKS] at hOL
          rw [← hTS] at h3
          rw [← hKS] at hw3
          rw [← hOK]
          have hTl : (keysF TS).length ≤ 64 := by have h1 := h3.len; unfold keysF; rw [List.length_map]; omega
          obtain ⟨Aw, cw, hvw, _, hSw⟩ := Strs.of_own hw3
          subst hvw
          have OL := Lib.hid hOL
          have H3 := Lib.hid h3
          have HW3 := Lib.hid hw3
          have HAP3 := Lib.hid hap3
          have ND3 := Lib.hid hnd3
          have SW := Lib.hid hSw
          clear hOL h3 F3 o3 hw3 hap3 hOK hTS hKS hnd3 hSw H HW HAP HND
          have d3 := SK.out w3 H3.out.bl.1
          clear d0
          go_wp2_with fail
          go_loopw [11, 12, 13] (fun vl vt vi wr => ∃ kk : Nat, vi = .int .i64 (kk : Int) ∧ kk ≤ KS.length ∧ vt = .bool (inB X (KS.take kk)) ∧ Hid (wr.ownsRow w3.heap.size 9 1 vl ((KS.take kk).filter (fun y => ¬ y = X)).length (((KS.take kk).filter (fun y => ¬ y = X)).map Value.string)) ∧ Hid (Bl w3.heap.size w3 wr)) (fun _ _ vi _ => KS.length - (intOf vi).toNat)
          case atStart => exact ⟨0, rfl, Nat.zero_le _, by simp [inB], Lib.hid ⟨rfl, .inl ⟨rfl, rfl⟩⟩, Lib.hid (Bl.start w3)⟩
          case round =>
            obtain ⟨kk, rfl, hkk, rfl, HO, HBL⟩ := hrel
            have d4 := SK.out _ (H3.out.bl.call HBL.out.1).1
            by_cases hlt2 : kk < KS.length
            · obtain ⟨b2, o2, rfl, _, dw⟩ := (SW.out.below HBL.out.1).at_ kk hlt2
              obtain ⟨Y, hY⟩ : ∃ Y, Y = KS[kk] := ⟨_, rfl⟩
              rw [← hY] at dw
              have hst : KS.take (kk + 1) = KS.take kk ++ [Y] := by rw [List.take_succ_eq_append_getElem hlt2, hY]
              have j3 : (kk : Int) < (KS.length : Int) := by omega
              have wkk : IntKind.i64.wrap ((kk : Int) + 1) = (kk : Int) + 1 := IntWalk.i64_in _ (by omega)
              obtain ⟨Fk, hFk⟩ : ∃ F, F = (KS.take kk).filter (fun y => ¬ y = X) := ⟨_, rfl⟩
              have hFl : Fk.length ≤ 64 := by rw [hFk]; have := List.length_filter_le (fun y => decide (¬ y = X)) (KS.take kk); rw [List.length_take] at this; omega
              have HST := Lib.hid hst
              have HFK := Lib.hid hFk
              rw [← hFk] at HO
              clear hY hst hFk
              by_cases hYX : Y = X
              · have hbe : (Y.toList == X.toList) = true := by rw [bytes_eq]; simp [hYX]
                have HYX := Lib.hid hYX
                clear hYX
                go_wp2_with fail
                go_quiet (fail)
                go_wp2_with fail
                refine ⟨⟨kk + 1, by go_num, by omega, ?_, Lib.hid ?_, Lib.hid (HBL.out.drewN _)⟩, by simp [intOf]; omega⟩
                · rw [HST.out, inB_snoc]; simp [HYX.out]
                · rw [HST.out, List.filter_append, ← HFK.out, List.filter_cons_of_neg (by simp [HYX.out]), List.filter_nil, List.append_nil]
                  exact own_drewN HO.out _
              · have hbe : (Y.toList == X.toList) = false := by rw [bytes_eq]; simp [hYX]
                have HYX := Lib.hid hYX
                clear hYX
                go_wp2_with fail
                go_quiet (fail)
                have HO2 := Lib.hid (own_drewN HO.out nq)
                have HBL2 := Lib.hid (HBL.out.drewN nq)
                have dw2 : (wr.drewN nq).cell? ⟨b2, o2 + kk, none⟩ = some (.string Y) := by rw [← dw]; rfl
                clear dw d4 HO HBL
                generalize wr.drewN nq = WD at *
                have N1 : Hid (Fk.length + [Y].length ≤ 1000000) := Lib.hid (by simp; omega)
                have B1 : Hid (Bl w3.heap.size w3 (WD.alloc (.cells #[.string Y] 9))) := Lib.hid (HBL2.out.alloc _)
                go_wp2_with (at_builtin; refine wpList_append_strs rfl _ _ rfl rfl w3.heap.size _ _ Fk [Y] rfl rfl (World.ownsRow.alloc HO2.out _) (one_lit _ Y) N1.out B1.out.2 ?_; intro v5 w5 own5 gr5 _; have b5 := B1.out.grownRow (World.ownsRow.alloc HO2.out _) (Nat.le_refl _) gr5; have B5 := Lib.hid b5; have O5 := Lib.hid own5; clear own5 gr5 b5)
                refine ⟨⟨kk + 1, by go_num, by omega, ?_, Lib.hid ?_, B5⟩, by simp [intOf]; omega⟩
                · rw [HST.out, inB_snoc]; simp [HYX.out]
                · rw [HST.out, List.filter_append, ← HFK.out, List.filter_cons_of_pos (by simpa using HYX.out), List.filter_nil]
                  exact O5.out
            · obtain rfl : kk = KS.length := by omega
              have htl : KS.take KS.length = KS := List.take_length
              rw [htl] at HO
              rw [htl]
              obtain ⟨FK, hFK⟩ : ∃ F, F = KS.filter (fun y => ¬ y = X) := ⟨_, rfl⟩
              have hFl : FK.length ≤ 64 := by rw [hFK]; have := List.length_filter_le (fun y => decide (¬ y = X)) KS; omega
              obtain ⟨h1, h2⟩ := OL.out
              obtain ⟨TB, hTB⟩ : ∃ b, b = inB X KS := ⟨_, rfl⟩
              rw [← hFK] at HO h2
              rw [← hTB] at h1 ⊢
              obtain ⟨KQ, hKQ⟩ : ∃ F, F = keysF TS := ⟨_, rfl⟩
              rw [← hKQ] at h2 hTl
              have HKQ := Lib.hid hKQ
              have H3' := Lib.hid (H3.out.below HBL.out.1)
              have HW3' := Lib.hid (own_far HW3.out (far_none HBL.out.1) (fun _ _ h => h))
              have HZ3 := Lib.hid HBL.out.2
              clear htl hFK hTB hKQ OL d3
              rcases OK with _ | _
              · obtain rfl : TB = false := by clear h2; revert h1; cases TB <;> simp
                have h3 : ¬ KS.length < R := by simpa using h1
                have i3 : ¬ (KS.length : Int) < (R : Int) := by omega
                rw [if_neg (by simp)] at h2
                have H22 := Lib.hid h2
                clear h1 h2 h3
                go_wp2_with fail
                refine (keys_any H3'.out).mono ?_
                rintro e w6 ⟨vq, rfl, hq6, hb6⟩
                rw [← HKQ.out] at hq6
                obtain ⟨Aq, cq, hvq, _, hSq⟩ := Strs.of_own hq6
                have H6 := Lib.hid (H3'.out.below hb6)
                have SQ := Lib.hid hSq
                have SW6 := Lib.hid ((SW.out.below HBL.out.1).below hb6)
                have HW6 := Lib.hid (own_far HW3'.out (far_none hb6) (fun _ _ h => h))
                subst hvq
                clear hq6 hb6 hSq
                go_wp2_with fail
                refine (same_any Aq Aw cq cw KQ KS w6 SQ.out SW6.out (by omega) (by omega)).mono ?_
                rintro e w7 ⟨rfl, q, rfl⟩
                rw [decide_eq_true H22.out]
                go_wp2_with fail
                refine ⟨⟨k + 1, _, rfl, by go_num, by omega, Lib.hid ⟨v3, TS, H6.out.drewN q, ND3.out, ?_, HAP3.out⟩⟩, by simp [intOf]; omega⟩
                rw [← HKQ.out, H22.out]
                exact own_drewN HW6.out q
              · rw [if_pos rfl] at h2
                have H22 := Lib.hid h2
                obtain ⟨Al, cl, hvl, _, hSl⟩ := Strs.of_own HO.out
                have SLF := Lib.hid (Sl.of_own HO.out)
                have h3 : TB = true ∨ (TB = false ∧ (KS.length : Int) < (R : Int)) := by
                  clear h2
                  rcases TB with _ | _
                  · have h4 : KS.length < R := by simpa using h1
                    exact .inr ⟨rfl, by omega⟩
                  · exact .inl rfl
                clear h1 h2
                rcases h3 with rfl | ⟨rfl, i3⟩
                all_goals
                  have NN : Hid ([X].length + FK.length ≤ 1000000) := Lib.hid (by simp; omega)
                  have BA : Hid (Bl w3.heap.size w3 (wr.alloc (.cells #[.string X] 9))) := Lib.hid (HBL.out.alloc _)
                  have LO := Lib.hid (lit_one wr X)
                  have SLA := Lib.hid (SLF.out.below ((Below.refl wr.heap.size wr).alloc (Nat.le_refl _) (.cells #[.string X] 9)))
                  have HRA : Hid (wr.heap.size ≤ (wr.alloc (.cells #[.string X] 9)).heap.size) := Lib.hid (by simp)
                  subst hvl
                  go_wp2_with (at_builtin; refine wpList_append_strs rfl _ _ rfl rfl wr.heap.size _ _ [X] FK rfl rfl LO.out SLA.out NN.out HRA.out ?_; intro v5 w5 own5 gr5 _; have b5 := Bl.grownRow (Bl.alloc (Bl.start wr) (.cells #[.string X] 9)) LO.out (Nat.le_refl _) gr5; have B5 := Lib.hid b5; have O5 := Lib.hid own5; clear own5 gr5 b5)
                  have H5 := Lib.hid (H3'.out.below B5.out.1)
                  have AP5 : Hid (∀ i, v5.ownBlock = some i → ¬ Ow (m + 1) v3 m i) := Lib.hid (fun i hi hO => by
                    have h1 := (O5.out.lt i hi).1
                    have h2 := H3'.out.ow_lt i hO
                    omega)
                  have O5' := Lib.hid (show w5.ownsRow w.heap.size 9 1 v5 KQ.length (KQ.map Value.string) by
                    rw [H22.out]
                    exact own_base O5.out H3'.out.bl.2)
                  obtain ⟨A5, c5, hv5, _, hS5⟩ := Strs.of_own O5'.out
                  subst hv5
                  have S5 := Lib.hid hS5
                  clear hS5 d4
                  refine (keys_any H5.out).mono ?_
                  rintro e w6 ⟨vq, rfl, hq6, hb6⟩
                  rw [← HKQ.out] at hq6
                  obtain ⟨Aq, cq, hvq, _, hSq⟩ := Strs.of_own hq6
                  have H6 := Lib.hid (H5.out.below hb6)
                  have SQ := Lib.hid hSq
                  have SW6 := Lib.hid (S5.out.below hb6)
                  have HW6 := Lib.hid (own_far O5'.out (far_none hb6) (fun _ _ h => h))
                  subst hvq
                  clear hq6 hb6 hSq
                  go_wp2_with fail
                  refine (same_any Aq A5 cq c5 KQ KQ w6 SQ.out SW6.out (by omega) (by omega)).mono ?_
                  rintro e w7 ⟨rfl, q, rfl⟩
                  rw [decide_eq_true (rfl : KQ = KQ)]
                  go_wp2_with fail
                  refine ⟨⟨k + 1, _, rfl, by go_num, by omega, Lib.hid ⟨v3, TS, H6.out.drewN q, ND3.out, ?_, AP5.out⟩⟩, by simp [intOf]; omega⟩
                  rw [← HKQ.out]
                  exact own_drewN HW6.out q
        · have j2 : (50 : Int) < (X.size : Int) := by omega
          go_wp2_with fail
          go_ret
          exact ⟨rfl, H.out.bl.1⟩
      · obtain rfl : k = l1.length := by omega
        go_wp2_with fail
        go_ret
        exact ⟨rfl, H.out.bl.1⟩
  · have i1 : (200 : Int) < (l1.length : Int) := by omega
    go_wp2_with fail
    go_ret
    exact ⟨rfl, H2.out.bl.1⟩
end Go.Proofs.Ytplahkhohhbgaaa
