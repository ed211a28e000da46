/-
  The walk of the law CacheHits.
-/
import Derived.Test.YtplahkhohhbgaaaCacheKeep
import Derived.Deep.RegionHeld3
namespace Go.Proofs.Cch
theorem get_zero {sz : Nat} {ts : Things} {cs : Counts} {ask : Nat} {key : ByteArray} (h : sz = 0 → cs = []) : sz = 0 → (getF sz ts cs ask key).2.1 = [] := by
  intro hz
  unfold getF
  rw [if_pos hz]
  exact h hz
theorem offer_zero {cs : Counts} {key value : ByteArray} : offerF 0 [] cs key value = ([], false) := rfl
theorem place_head (key value : ByteArray) (ts : Things) : placeOf ((key, value) :: ts) key = ((0 : Nat) : Int) := by
  rcases placeOf_cases ((key, value) :: ts) key with ⟨_, h⟩ | ⟨k, t, e, _, _, hno⟩
  · exact absurd rfl (h 0 _ rfl)
  · rcases k with _ | k
    · exact e
    · exact absurd rfl (hno 0 _ (by omega) rfl)
theorem offer_head {sz : Nat} {ts : Things} {cs : Counts} {key value : ByteArray} (h : (offerF sz ts cs key value).2 = true) : ∃ r, (offerF sz ts cs key value).1 = (key, value) :: r := by
  revert h
  unfold offerF
  split
  · split
    · split
      · split
        · intro h; cases h
        · intro _; exact ⟨_, rfl⟩
      · intro h; cases h
    · intro _; exact ⟨_, rfl⟩
  · intro _; exact ⟨_, rfl⟩
theorem offer_miss {sz : Nat} {ts : Things} {cs : Counts} {key value : ByteArray} (h : (offerF sz ts cs key value).2 = false) : (offerF sz ts cs key value).1 = ts ∧ placeOf ts key = -1 := by
  revert h
  unfold offerF
  split
  · next hp =>
    split
    · split
      · split
        · intro _; exact ⟨rfl, hp⟩
        · intro h; cases h
      · intro _; exact ⟨rfl, hp⟩
    · intro h; cases h
  · intro h; cases h
end Go.Proofs.Cch
namespace Go.Proofs.Ytplahkhohhbgaaa
open Go.RowKit Go.Proofs.Cch
set_option linter.unusedVariables false
set_option linter.unusedSimpArgs false
theorem Mp.cnt15 {w : World} {m : Nat} {cs : Counts} (h : Mp w m cs) (key : ByteArray) : cntAt cs key ≤ 15 := by
  rcases hc : hasC cs key with _ | _
  · rw [cntAt_none hc]; omega
  · obtain ⟨D, _, hb, hn, _⟩ := h
    obtain ⟨c', hm⟩ := hasC_iff.1 hc
    rw [cntAt_mem hn hm]
    exact (hb _ hm).2
/-- A cache behind k acts. -/
def Ch (w0 : World) (g sz m k : Nat) (ts : Things) (cs : Counts) (wr : World) : Prop := ∃ v ask, Cs w0 g sz v m ts cs ask wr ∧ (sz = 0 → cs = []) ∧ ask ≤ k ∧ cs.length ≤ k
set_option maxRecDepth 100000 in
set_option maxHeartbeats 4000000 in
theorem hits_walk (w : World) (a0 : Int) (A1 : Option Addr) (c1 : Nat) (l1 : List Wish) (S1 : Sk w A1 l1) (a2 a3 : ByteArray) (ha2 : a2.size ≤ maxLen) (ha3 : a3.size ≤ maxLen) :
    Calls Try.prog 7 #[.int .i64 a0, .slice A1 l1.length c1, .string a2, .string a3] w fun e w' => e = .returned (.bool true) ∧ Below w.heap.size w w' := by
  have HS := Lib.hid S1
  clear S1
  go_enter Try.func7, Try.ntmps7
  go_wp2_with fail
  refine (cworks_any _).mono ?_
  rintro e w1 ⟨rfl, hb1⟩
  have HB1 := Lib.hid hb1
  clear hb1
  go_wp2_with fail
  refine (cnew_any a0 w w1 ⟨HB1.out, HB1.out.size⟩).mono ?_
  rintro e w2 ⟨rfl, hM, hb2⟩
  have H2 := Lib.hid hM
  clear hM hb2
  go_wp2_with fail
  refine (cfew_any A1 c1 l1 w2 (HS.out.below H2.out.bl.1)).mono ?_
  rintro e w3 ⟨rfl, rfl⟩
  rcases hf : cfewF l1 with _ | _
  · go_wp2_with fail
    go_ret
    exact ⟨rfl, H2.out.bl.1⟩
  · obtain ⟨hl200, hks⟩ := cfewF_true hf
    have HKS := Lib.hid hks
    clear hf hks
    by_cases hb2 : a2.size ≤ 50
    · have u2 : ¬ (50 : Int) < (a2.size : Int) := by omega
      by_cases hb3 : a3.size ≤ 50
      · have u3 : ¬ (50 : Int) < (a3.size : Int) := by omega
        obtain ⟨sz, hsz⟩ : ∃ s, s = sizeOfC a0 := ⟨_, rfl⟩
        rw [← hsz] at H2
        have HSZ := Lib.hid hsz
        clear hsz
        go_wp2_with fail
        generalize w1.heap.size = m at *
        go_loopw [12] (fun vi wr => ∃ k : Nat, vi = .int .i64 (k : Int) ∧ k ≤ l1.length ∧ Hid (∃ ts cs, Ch w (m + 1) sz m k ts cs wr)) (fun vi _ => l1.length - (intOf vi).toNat)
        case atStart => exact ⟨0, rfl, Nat.zero_le _, Lib.hid ⟨[], [], _, 0, H2.out, fun _ => rfl, Nat.le_refl _, Nat.le_refl _⟩⟩
        case round =>
          obtain ⟨k, rfl, hk, HM⟩ := hrel
          obtain ⟨ts, cs, v, ask, hC, hcz, hask, hcl⟩ := HM.out
          have H := Lib.hid hC
          have HCZ := Lib.hid hcz
          clear HM hC hcz
          by_cases hlt : k < l1.length
          · obtain ⟨a, ha⟩ : ∃ a, l1[k]? = some a := ⟨_, List.getElem?_eq_getElem hlt⟩
            have hkey : a.key.size ≤ maxLen := by have := (HKS.out a (List.mem_of_getElem? ha)).1; unfold maxLen; omega
            obtain ⟨b, o, rfl, hbl, d0, d1, d2⟩ := (HS.out.below H.out.bl.1).at_ k a ha
            obtain ⟨ak, key, value⟩ := a
            simp only at d0 d1 d2 hkey
            have SK : Hid (∀ W : World, Below w.heap.size w W → W.cell? ⟨b, o + k * 3 + 1, none⟩ = some (.string key) ∧ W.cell? ⟨b, o + k * 3 + 2, none⟩ = some (.string value)) := Lib.hid (fun W hW => by
              obtain ⟨b', o', he, _, _, e1, e2⟩ := (HS.out.below hW).at_ k _ ha
              cases he
              exact ⟨e1, e2⟩)
            have j1 : (k : Int) < (l1.length : Int) := by omega
            have wk : IntKind.i64.wrap ((k : Int) + 1) = (k : Int) + 1 := IntWalk.i64_in _ (by omega)
            clear ha
            by_cases hk0 : ak = 0
            · subst hk0
              go_wp2_with fail
              refine (get_any key hkey (by omega) (by omega) H.out).mono ?_
              rintro e w4 ⟨rfl, h4, _⟩
              have H4 := Lib.hid h4
              have CNT := Lib.hid (get_counts sz ts cs ask key)
              clear h4
              go_wp2_with fail
              refine ⟨⟨k + 1, by go_num, by omega, Lib.hid ⟨_, _, _, _, H4.out, get_zero HCZ.out, by have := CNT.out.2; omega, by have := CNT.out.1; omega⟩⟩, by simp [intOf]; omega⟩
            · by_cases hk1 : ak = 1
              · subst hk1
                have OFF := Lib.hid (fun W (h : Cs w (m + 1) sz v m ts cs ask W) => offer_any key value hkey h)
                have BD : Hid (Below w.heap.size w wr.drew) := Lib.hid (H.out.drewN 1).bl.1
                have HD : Hid (Cs w (m + 1) sz v m ts cs ask wr.drew) := Lib.hid (H.out.drewN 1)
                go_wp2_with fail
                go_region_held3 (fun W => W.cell? ⟨b, o + k * 3 + 1, none⟩ = some (.string key) ∧ W.cell? ⟨b, o + k * 3 + 2, none⟩ = some (.string value)) (first | exact SK.out _ BD.out | exact SK.out _ B4.out)
                  (first
                    | (go_at_call 20; refine (OFF.out _ HD.out).mono ?_; rintro e w4 ⟨rfl, v4, h4, _, _⟩; have H4 := Lib.hid h4; have B4 := Lib.hid h4.bl.1; clear h4))
                go_wp2_with fail
                refine ⟨⟨k + 1, by go_num, by omega, Lib.hid ⟨_, _, _, _, H4.out, HCZ.out, by omega, by omega⟩⟩, by simp [intOf]; omega⟩
              · have e0 : (ak == 0) = false := by simpa using hk0
                have e1 : (ak == 1) = false := by simpa using hk1
                go_wp2_with fail
                refine (forget_any key H.out).mono ?_
                rintro e w4 ⟨rfl, v4, h4, _, _⟩
                have H4 := Lib.hid h4
                clear h4
                go_wp2_with fail
                refine ⟨⟨k + 1, by go_num, by omega, Lib.hid ⟨_, _, _, _, H4.out, HCZ.out, by omega, by omega⟩⟩, by simp [intOf]; omega⟩
          · obtain rfl : k = l1.length := by omega
            go_wp2_with fail
            refine (offer_any a2 a3 ha2 H.out).mono ?_
            rintro e w4 ⟨rfl, v4, h4, _, _⟩
            have hn15 := h4.map.cnt15 a2
            have HOF := Lib.hid (rfl : offerF sz ts cs a2 a3 = offerF sz ts cs a2 a3)
            obtain ⟨OK, hOK⟩ : ∃ b, b = (offerF sz ts cs a2 a3).2 := ⟨_, rfl⟩
            obtain ⟨TS, hTS⟩ : ∃ b, b = (offerF sz ts cs a2 a3).1 := ⟨_, rfl⟩
            rw [← hOK]
            rw [← hTS] at h4
            have H4 := Lib.hid h4
            have HOK := Lib.hid hOK
            have HTS := Lib.hid hTS
            have N15 := Lib.hid hn15
            clear h4 hOK hTS hn15 HOF
            go_wp2_with fail
            refine (often_any a2 ha2 H4.out).mono ?_
            rintro e w5 ⟨rfl, rfl⟩
            go_wp2_with fail
            refine (get_any a2 ha2 (by omega) (by omega) H4.out).mono ?_
            rintro e w5 ⟨rfl, h5, _⟩
            obtain ⟨GV, hGV⟩ : ∃ b, b = gotF sz TS a2 := ⟨_, rfl⟩
            obtain ⟨GF, hGF⟩ : ∃ b, b = getF sz TS cs ask a2 := ⟨_, rfl⟩
            rw [← hGF] at h5
            rw [← hGV]
            have H5 := Lib.hid h5
            have HGV := Lib.hid hGV
            have HGF := Lib.hid hGF
            obtain ⟨gv, gb⟩ := GV
            obtain ⟨gts, gcs, gask⟩ := GF
            clear h5 hGV hGF
            dsimp only at H5 ⊢
            go_wp2_with fail
            refine (keys_any H5.out).mono ?_
            rintro e w6 ⟨vk, rfl, hk6, hb6⟩
            obtain ⟨Ak, ck, hvk, _, hSk⟩ := Strs.of_own hk6
            have H6 := Lib.hid (H5.out.below hb6)
            have SKK := Lib.hid hSk
            obtain ⟨KS, hKS⟩ : ∃ K, K = keysF gts := ⟨_, rfl⟩
            rw [← hKS] at hvk SKK
            have HKL := Lib.hid hKS
            have hKl : KS.length ≤ 64 := by have h1 := H5.out.len; have h2 := H5.out.top; rw [hKS]; unfold keysF; rw [List.length_map]; omega
            subst hvk
            clear hk6 hb6 hSk hKS
            have HTL := Lib.hid H.out.len
            clear H H4 H5
            by_cases hsmall : a0 < 1
            · have hz : sz = 0 := by rw [HSZ.out]; unfold sizeOfC; omega
              subst hz
              have ht0 : ts = [] := List.length_eq_zero_iff.1 (by have := HTL.out; omega)
              have hg := HGF.out
              have hv := HGV.out
              have ho := HOK.out
              have htt := HTS.out
              subst ht0
              rw [offer_zero] at ho htt
              simp only at ho htt
              subst htt
              subst ho
              unfold gotF at hv
              unfold getF at hg
              rw [if_pos rfl] at hg hv
              cases hg
              cases hv
              have hk0 : KS = [] := HKL.out
              have hc0 := HCZ.out rfl
              subst hk0
              subst hc0
              clear HGF HGV HOK HTS HKL HCZ HTL HSZ HKS
              have C6 := Lib.hid (counted_any H6.out)
              go_wp2_with fail
              refine C6.out.mono ?_
              rintro e w7 ⟨rfl, rfl⟩
              go_wp2_with fail
              go_ret
              exact ⟨rfl, H6.out.bl.1⟩
            · have hz : ¬ sz = 0 := by rw [HSZ.out]; unfold sizeOfC; omega
              have hv := HGV.out
              unfold gotF at hv
              rw [if_neg hz] at hv
              have hg := HGF.out
              have ho := HOK.out
              rcases OK with _ | _
              · obtain ⟨h1, h2⟩ := offer_miss ho.symm
                have h3 := HTS.out
                rw [h1] at h3
                subst h3
                rw [useF_miss h2] at hv
                cases hv
                clear HGF HGV HOK HTS HKL HCZ HTL HSZ HKS hg ho h1 h2
                go_wp2_with fail
                go_ret
                exact ⟨rfl, H6.out.bl.1⟩
              · obtain ⟨r, h1⟩ := offer_head ho.symm
                have h3 := HTS.out
                rw [h1] at h3
                subst h3
                have hu := useF_hit (place_head a2 a3 r) (by rfl)
                rw [hu] at hv
                cases hv
                have hgt : gts = (useF ((a2, a3) :: r) a2).1 := by
                  unfold getF at hg
                  rw [if_neg hz] at hg
                  split at hg <;> cases hg <;> rfl
                rw [hu] at hgt
                have hkk := HKL.out
                rw [hgt] at hkk
                obtain ⟨KR, hKR⟩ : ∃ q, KS = a2 :: q := ⟨_, hkk⟩
                subst hKR
                obtain ⟨bk, ok, rfl, _, dk⟩ := SKK.out.at_ 0 (by simp)
                have i15 : ((cntAt cs a2 : Nat) : Int) ≤ 15 := by have := N15.out; omega
                have iK : (1 : Int) ≤ (((a2 :: KR).length : Nat) : Int) := by simp; omega
                have iK0 : (0 : Int) < (((a2 :: KR).length : Nat) : Int) := by simp
                have be2 : (a2.toList == a2.toList) = true := by simp
                have be3 : (a3.toList == a3.toList) = true := by simp
                obtain ⟨NN, hNN⟩ : ∃ q, q = ((cntAt cs a2 : Nat) : Int) := ⟨_, rfl⟩
                obtain ⟨LL, hLL⟩ : ∃ q, q = (a2 :: KR).length := ⟨_, rfl⟩
                rw [← hNN] at i15 ⊢
                rw [← hLL] at iK iK0 ⊢
                simp only [List.getElem_cons_zero, Nat.add_zero] at dk
                clear HGF HGV HOK HTS HKL HCZ HTL HSZ HKS hg ho h1 hu hgt hkk hNN hLL
                go_wp2_with fail
                go_ret
                exact ⟨by first | rfl | simp [Act.eval, Act.put, i15], H6.out.bl.1⟩
      · have u3 : (50 : Int) < (a3.size : Int) := by omega
        go_wp2_with fail
        go_ret
        exact ⟨rfl, H2.out.bl.1⟩
    · have u2 : (50 : Int) < (a2.size : Int) := by omega
      go_wp2_with fail
      go_ret
      exact ⟨rfl, H2.out.bl.1⟩
end Go.Proofs.Ytplahkhohhbgaaa
