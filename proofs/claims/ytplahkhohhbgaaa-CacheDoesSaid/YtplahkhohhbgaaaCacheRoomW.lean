/-
  The walk of the law CacheRoom.
-/
import Derived.Test.YtplahkhohhbgaaaCacheRoomP
namespace Go.Proofs.Ytplahkhohhbgaaa
open Go.RowKit Go.Proofs.Cch
set_option linter.unusedVariables false
set_option linter.unusedSimpArgs false
theorem Mp.nodup {w : World} {m : Nat} {cs : Counts} (h : Mp w m cs) : (cs.map Prod.fst).Nodup := by
  obtain ⟨_, _, _, hn, _⟩ := h
  exact hn
/-- A cache behind the acts of l. -/
def Cr (w0 : World) (g sz m : Nat) (l : List Wish) (wr : World) : Prop := ∃ v ts cs ask, Cs w0 g sz v m ts cs ask wr ∧ Low sz ask cs ∧ From ts (offered l) ∧ ask ≤ l.length ∧ cs.length ≤ l.length
set_option maxRecDepth 100000 in
set_option maxHeartbeats 1000000 in
theorem room_walk (w : World) (a0 : Int) (A1 : Option Addr) (c1 : Nat) (l1 : List Wish) (S1 : Sk w A1 l1) :
    Calls Try.prog 4 #[.int .i64 a0, .slice A1 l1.length c1] w fun e w' => e = .returned (.bool true) ∧ Below w.heap.size w w' := by
  have HS := Lib.hid S1
  clear S1
  obtain ⟨R, hR⟩ : ∃ R : Nat, sizeOfC a0 = R := ⟨_, rfl⟩
  have HRI := Lib.hid (show ((R : Nat) : Int) = min (max a0 0) 64 by rw [← hR]; unfold sizeOfC; omega)
  have hRb : R ≤ 64 := by have := HRI.out; omega
  have HR := Lib.hid hR
  clear hR
  go_enter Try.func4, Try.ntmps4
  go_wp2_with fail
  refine (cworks_any _).mono ?_
  rintro e w1 ⟨rfl, hb1⟩
  have HB1 := Lib.hid hb1
  clear hb1
  go_wp2_with fail
  refine (cnew_any a0 w w1 ⟨HB1.out, HB1.out.size⟩).mono ?_
  rintro e w2 ⟨rfl, hM, hb2⟩
  rw [HR.out] at hM
  have H2 := Lib.hid hM
  clear hM hb2
  go_wp2_with fail
  refine (cfew_any A1 c1 l1 w2 (HS.out.below H2.out.bl.1)).mono ?_
  rintro e w3 ⟨rfl, rfl⟩
  rcases hf : cfewF l1 with _ | _
  · go_wp2_with fail
    go_ret
    exact ⟨rfl, H2.out.bl.1⟩
  · obtain ⟨hl200, hks⟩ := cfewF_true hf
    have HKS := Lib.hid hks
    clear hf hks
    go_wp2_with fail
    rw [← HRI.out]
    generalize w1.heap.size = m at *
    go_loopw [9, 10, 11, 12, 13, 14] (fun vi _ _ _ _ _ wr => ∃ k : Nat, vi = .int .i64 (k : Int) ∧ k ≤ l1.length ∧ Hid (Cr w (m + 1) R m (l1.take k) wr)) (fun vi _ _ _ _ _ _ => l1.length - (intOf vi).toNat)
    case atStart => exact ⟨0, rfl, Nat.zero_le _, Lib.hid ⟨_, [], [], 0, H2.out, Low.start R, fun t ht => (by cases ht), Nat.le_refl _, Nat.le_refl _⟩⟩
    case round =>
      obtain ⟨k, rfl, hk, HM⟩ := hrel
      obtain ⟨v, ts, cs, ask, hC, hlow, hfrom, hask, hcl⟩ := HM.out
      rw [List.length_take, Nat.min_eq_left hk] at hask hcl
      have H := Lib.hid hC
      have LOW := Lib.hid hlow
      have FROM := Lib.hid hfrom
      clear HM hC hlow hfrom
      by_cases hlt : k < l1.length
      · obtain ⟨a, ha⟩ : ∃ a, l1[k]? = some a := ⟨_, List.getElem?_eq_getElem hlt⟩
        have hkey : a.key.size ≤ maxLen := by have := (HKS.out a (List.mem_of_getElem? ha)).1; unfold maxLen; omega
        have hst : l1.take (k + 1) = l1.take k ++ [a] := by rw [List.take_succ_eq_append_getElem hlt, ← (List.getElem?_eq_some_iff.1 ha).2]
        have HST := Lib.hid hst
        obtain ⟨b, o, rfl, hbl, d0, d1, d2⟩ := (HS.out.below H.out.bl.1).at_ k a ha
        obtain ⟨ak, key, value⟩ := a
        simp only at d0 d1 d2 hkey
        have j1 : (k : Int) < (l1.length : Int) := by omega
        have wk : IntKind.i64.wrap ((k : Int) + 1) = (k : Int) + 1 := IntWalk.i64_in _ (by omega)
        have w20 : IntKind.i64.wrap (20 * (R : Int)) = 20 * (R : Int) := IntWalk.i64_in _ (by omega)
        obtain ⟨bx, hbx⟩ : ∃ q, q = wr.heap.size := ⟨_, rfl⟩
        have BX := Blk.new wr 33 #[.int .i64 ak, .string key, .string value]
        have HA := Lib.hid (H.out.below ((Below.refl wr.heap.size wr).alloc (Nat.le_refl _) (.cells #[.int .i64 ak, .string key, .string value] 33)))
        have OWL := Lib.hid (fun (h : Ow (m + 1) v m bx) => by have := H.out.ow_lt bx h; omega : ¬ Ow (m + 1) v m bx)
        have HLT := Lib.hid (show (l1.take (k + 1)).length = k + 1 by rw [List.length_take]; omega)
        have NDC := Lib.hid (H.out.map.nodup)
        rw [← hbx] at BX
        have SKJ : Hid (∀ (W : World), Below w.heap.size w W → ∀ (j : Nat) (a : Wish), l1[j]? = some a → W.cell? ⟨b, o + j * 3, none⟩ = some (.int .i64 a.k) ∧ W.cell? ⟨b, o + j * 3 + 1, none⟩ = some (.string a.key) ∧ W.cell? ⟨b, o + j * 3 + 2, none⟩ = some (.string a.value)) := Lib.hid (fun W hW j a ha => by
          obtain ⟨b', o', he, _, e0, e1, e2⟩ := (HS.out.below hW).at_ j a ha
          cases he
          exact ⟨e0, e1, e2⟩)
        clear ha hst
        obtain ⟨WA, hWA⟩ : ∃ q, q = wr.alloc (.cells #[.int .i64 ak, .string key, .string value] 33) := ⟨_, rfl⟩
        rw [← hWA] at HA BX
        have ca0 : WA.cell? ⟨bx, 0, none⟩ = some (.int .i64 ak) := by rw [BX.cell]; rfl
        have ca1 : WA.cell? ⟨bx, 1, none⟩ = some (.string key) := by rw [BX.cell]; rfl
        have ca2 : WA.cell? ⟨bx, 2, none⟩ = some (.string value) := by rw [BX.cell]; rfl
        have BXH := Lib.hid BX
        have HWA := Lib.hid hWA
        have HBX := Lib.hid hbx
        clear hbx BX hWA
        by_cases hk0 : ak = 0
        · subst hk0
          have OFS := Lib.hid (show offered (l1.take (k + 1)) = offered (l1.take k) by rw [HST.out, offered_snoc]; simp)
          clear ca0 ca2
          go_wp2_with fail
          rw [← HWA.out, ← HBX.out]
          refine (get_any key hkey (by omega) (by omega) HA.out).mono ?_
          rintro e w4 ⟨rfl, h4, F4⟩
          have bx4 := BXH.out.far F4 OWL.out
          have low4 := LOW.out.get NDC.out ts key
          obtain ⟨from4, hyes, hno⟩ := From.get FROM.out R cs ask key
          have sz4 := get_counts R ts cs ask key
          obtain ⟨GV, hGV⟩ : ∃ b, b = gotF R ts key := ⟨_, rfl⟩
          obtain ⟨GF, hGF⟩ : ∃ b, b = getF R ts cs ask key := ⟨_, rfl⟩
          rw [← hGF] at h4 low4 from4 sz4
          rw [← hGV] at hyes hno
          rw [← hGV]
          obtain ⟨gv, gb⟩ := GV
          obtain ⟨TS, CS, ASK⟩ := GF
          dsimp only at h4 low4 from4 sz4 hyes hno ⊢
          have H4 := Lib.hid h4
          have B4 := Lib.hid bx4
          have LOW4 := Lib.hid low4
          have FROM4 := Lib.hid (show From TS (offered (l1.take k ++ [⟨0, key, value⟩])) by rw [← HST.out, OFS.out]; exact from4)
          have SZ4 := Lib.hid (show ASK ≤ k + 1 ∧ CS.length ≤ k + 1 by omega)
          have YES := Lib.hid (fun h => hitW_mem (hyes h))
          have NO4 := Lib.hid hno
          clear h4 F4 bx4 low4 from4 sz4 hGV hGF hyes hno ca1
          go_wp2_with fail
          go_loopw [13, 14] (fun vs vi wr => ∃ j q : Nat, vi = .int .i64 (j : Int) ∧ j ≤ k ∧ vs = .string (if hitW key gv (l1.take j) = true then gv else ⟨#[]⟩) ∧ wr = w4.drewN q) (fun _ vi _ => k - (intOf vi).toNat)
          case atStart => exact ⟨0, 0, rfl, Nat.zero_le _, by simp [hitW], rfl⟩
          case round =>
            obtain ⟨j, q, rfl, hj, rfl, rfl⟩ := hrel
            by_cases hjk : j < k
            · obtain ⟨x, hx⟩ : ∃ x, l1[j]? = some x := ⟨_, List.getElem?_eq_getElem (by omega)⟩
              have hst : l1.take (j + 1) = l1.take j ++ [x] := by rw [List.take_succ_eq_append_getElem (by omega), ← (List.getElem?_eq_some_iff.1 hx).2]
              obtain ⟨e0, e1, e2⟩ := SKJ.out _ H4.out.bl.1 j x hx
              have c41 : w4.cell? ⟨bx, 1, none⟩ = some (.string key) := by rw [B4.out.cell]; rfl
              obtain ⟨xk, xs, xv⟩ := x
              simp only at e0 e1 e2
              have hh := hitW_snoc key gv (l1.take j) ⟨xk, xs, xv⟩
              rw [← hst] at hh
              simp only at hh
              obtain ⟨LS, hLS⟩ : ∃ s, s = (if hitW key gv (l1.take j) = true then gv else ⟨#[]⟩) := ⟨_, rfl⟩
              rw [← hLS]
              have HH := Lib.hid hh
              have HLS := Lib.hid hLS
              have i1 : (j : Int) < (k : Int) := by omega
              have i2 : (j : Int) < (l1.length : Int) := by omega
              have wj : IntKind.i64.wrap ((j : Int) + 1) = (j : Int) + 1 := IntWalk.i64_in _ (by omega)
              clear hx hst hh hLS
              by_cases h1 : xk = 1
              · by_cases h2 : xs = key
                · have be2 : (xs.toList == key.toList) = true := by rw [bytes_eq]; simp [h2]
                  by_cases h3 : xv = gv
                  · have be3 : (xv.toList == gv.toList) = true := by rw [bytes_eq]; simp [h3]
                    have be1 : (xk == 1) = true := by simp [h1]
                    have HX := Lib.hid (And.intro h1 (And.intro h2 h3))
                    clear h1 h2 h3
                    go_wp2_with fail
                    go_quiet (fail)
                    go_wp2_with fail
                    refine ⟨⟨j + 1, _, by go_num, by omega, ?_, rfl⟩, by simp [intOf]; omega⟩
                    rw [HH.out, if_pos (by simp [HX.out.1, HX.out.2.1, HX.out.2.2])]
                  · have be3 : (xv.toList == gv.toList) = false := by rw [bytes_eq]; simp [h3]
                    have be1 : (xk == 1) = true := by simp [h1]
                    have HX := Lib.hid h3
                    clear h1 h2 h3
                    go_wp2_with fail
                    go_quiet (fail)
                    go_wp2_with fail
                    refine ⟨⟨j + 1, _, by go_num, by omega, ?_, rfl⟩, by simp [intOf]; omega⟩
                    rw [HH.out, HLS.out]
                    simp [HX.out]
                · have be2 : (xs.toList == key.toList) = false := by rw [bytes_eq]; simp [h2]
                  have be1 : (xk == 1) = true := by simp [h1]
                  have HX := Lib.hid h2
                  clear h1 h2
                  go_wp2_with fail
                  go_quiet (fail)
                  go_wp2_with fail
                  refine ⟨⟨j + 1, _, by go_num, by omega, ?_, rfl⟩, by simp [intOf]; omega⟩
                  rw [HH.out, HLS.out]
                  simp [HX.out]
              · have be1 : (xk == 1) = false := by simpa using h1
                have HX := Lib.hid h1
                clear h1
                go_wp2_with fail
                go_quiet (fail)
                go_wp2_with fail
                refine ⟨⟨j + 1, _, by go_num, by omega, ?_, rfl⟩, by simp [intOf]; omega⟩
                rw [HH.out, HLS.out]
                simp [HX.out]
            · obtain rfl : k = j := by omega
              have H4 := Lib.hid (H4.out.drewN q)
              have B4 := Lib.hid (B4.out.drewN q)
              generalize w4.drewN q = w5 at *
              rcases gb with _ | _
              · obtain rfl := NO4.out rfl
                obtain ⟨LS, hLS⟩ : ∃ s, s = (if hitW key ⟨#[]⟩ (l1.take k) = true then (⟨#[]⟩ : ByteArray) else ⟨#[]⟩) := ⟨_, rfl⟩
                rw [← hLS]
                clear hLS
                go_wp2_with fail
                refine (keys_any H4.out).mono ?_
                rintro e w6 ⟨vk, rfl, hk6, hb6⟩
                obtain ⟨Ak, ck, hvk, _, hSk⟩ := Strs.of_own hk6
                have H6 := Lib.hid (H4.out.below hb6)
                have B6 := Lib.hid (B4.out.below hb6)
                obtain ⟨KS, hKS⟩ : ∃ K, K = keysF TS := ⟨_, rfl⟩
                rw [← hKS] at hvk
                have hKl : KS.length ≤ R := by have h1 := H4.out.len; rw [hKS]; unfold keysF; rw [List.length_map]; omega
                have hCl : CS.length ≤ 20 * R := LOW4.out.len
                have hN15 := H4.out.map.cnt15 key
                subst hvk
                obtain ⟨NC, hNC⟩ : ∃ n : Int, n = ((CS.length : Nat) : Int) := ⟨_, rfl⟩
                obtain ⟨NO, hNO⟩ : ∃ n : Int, n = ((cntAt CS key : Nat) : Int) := ⟨_, rfl⟩
                have CNTD := Lib.hid (counted_any H6.out)
                have OFT := Lib.hid (often_any key hkey H6.out)
                rw [← hNC] at CNTD
                rw [← hNO] at OFT
                have q1 : ¬ (R : Int) < (KS.length : Int) := by omega
                have q2 : ¬ 20 * (R : Int) < NC := by omega
                have q3 : ¬ (15 : Int) < NO := by omega
                have c61 : w6.cell? ⟨bx, 1, none⟩ = some (.string key) := by rw [B6.out.cell]; rfl
                clear hk6 hb6 hSk hKS hKl hCl hN15 hNC hNO
                go_wp2_with fail
                refine CNTD.out.mono ?_
                rintro e w7 ⟨rfl, rfl⟩
                go_wp2_with fail
                refine OFT.out.mono ?_
                rintro e w7 ⟨rfl, rfl⟩
                go_wp2_with fail
                refine ⟨⟨k + 1, by go_num, by omega, Lib.hid ⟨_, TS, CS, ASK, H6.out, LOW4.out, by rw [HST.out]; exact FROM4.out, by rw [HLT.out]; exact SZ4.out.1, by rw [HLT.out]; exact SZ4.out.2⟩⟩, by simp [intOf]; omega⟩
              · have hy := YES.out rfl
                rw [if_pos hy]
                have be : (gv.toList == gv.toList) = true := by simp
                have be' : (gv.toList != gv.toList) = false := by simp
                clear hy
                go_wp2_with fail
                refine (keys_any H4.out).mono ?_
                rintro e w6 ⟨vk, rfl, hk6, hb6⟩
                obtain ⟨Ak, ck, hvk, _, hSk⟩ := Strs.of_own hk6
                have H6 := Lib.hid (H4.out.below hb6)
                have B6 := Lib.hid (B4.out.below hb6)
                obtain ⟨KS, hKS⟩ : ∃ K, K = keysF TS := ⟨_, rfl⟩
                rw [← hKS] at hvk
                have hKl : KS.length ≤ R := by have h1 := H4.out.len; rw [hKS]; unfold keysF; rw [List.length_map]; omega
                have hCl : CS.length ≤ 20 * R := LOW4.out.len
                have hN15 := H4.out.map.cnt15 key
                subst hvk
                obtain ⟨NC, hNC⟩ : ∃ n : Int, n = ((CS.length : Nat) : Int) := ⟨_, rfl⟩
                obtain ⟨NO, hNO⟩ : ∃ n : Int, n = ((cntAt CS key : Nat) : Int) := ⟨_, rfl⟩
                have CNTD := Lib.hid (counted_any H6.out)
                have OFT := Lib.hid (often_any key hkey H6.out)
                rw [← hNC] at CNTD
                rw [← hNO] at OFT
                have q1 : ¬ (R : Int) < (KS.length : Int) := by omega
                have q2 : ¬ 20 * (R : Int) < NC := by omega
                have q3 : ¬ (15 : Int) < NO := by omega
                have c61 : w6.cell? ⟨bx, 1, none⟩ = some (.string key) := by rw [B6.out.cell]; rfl
                clear hk6 hb6 hSk hKS hKl hCl hN15 hNC hNO
                go_wp2_with fail
                refine CNTD.out.mono ?_
                rintro e w7 ⟨rfl, rfl⟩
                go_wp2_with fail
                refine OFT.out.mono ?_
                rintro e w7 ⟨rfl, rfl⟩
                go_wp2_with fail
                refine ⟨⟨k + 1, by go_num, by omega, Lib.hid ⟨_, TS, CS, ASK, H6.out, LOW4.out, by rw [HST.out]; exact FROM4.out, by rw [HLT.out]; exact SZ4.out.1, by rw [HLT.out]; exact SZ4.out.2⟩⟩, by simp [intOf]; omega⟩
        · by_cases hk1 : ak = 1
          · subst hk1
            have OFS := Lib.hid (show offered (l1.take (k + 1)) = offered (l1.take k) ++ [(key, value)] by rw [HST.out, offered_snoc]; simp)
            clear ca0
            go_wp2_with fail
            rw [← HWA.out, ← HBX.out]
            refine (offer_any key value hkey HA.out).mono ?_
            rintro e w4 ⟨rfl, v4, h4, F4, _⟩
            have bx4 := BXH.out.far F4 OWL.out
            have from4 := (From.mono FROM.out (fun t ht => List.mem_append_left [(key, value)] ht)).offer R cs key value (List.mem_append_right _ (by simp))
            obtain ⟨TS, hTS⟩ : ∃ b, b = (offerF R ts cs key value).1 := ⟨_, rfl⟩
            obtain ⟨CS, hCS⟩ : ∃ b, b = cs := ⟨_, rfl⟩
            obtain ⟨ASK, hASK⟩ : ∃ b, b = ask := ⟨_, rfl⟩
            have LOW4 := LOW
            rw [← hTS] at h4 from4
            rw [← hCS, ← hASK] at h4 LOW4
            have H4 := Lib.hid h4
            have B4 := Lib.hid bx4
            have FROM4 := Lib.hid (show From TS (offered (l1.take k ++ [⟨1, key, value⟩])) by rw [← HST.out, OFS.out]; exact from4)
            have SZ4 := Lib.hid (show ASK ≤ k + 1 ∧ CS.length ≤ k + 1 by rw [hCS, hASK]; omega)
            clear h4 F4 bx4 from4 hTS hCS hASK ca1 ca2
            go_wp2_with fail
            refine (keys_any H4.out).mono ?_
            rintro e w6 ⟨vk, rfl, hk6, hb6⟩
            obtain ⟨Ak, ck, hvk, _, hSk⟩ := Strs.of_own hk6
            have H6 := Lib.hid (H4.out.below hb6)
            have B6 := Lib.hid (B4.out.below hb6)
            obtain ⟨KS, hKS⟩ : ∃ K, K = keysF TS := ⟨_, rfl⟩
            rw [← hKS] at hvk
            have hKl : KS.length ≤ R := by have h1 := H4.out.len; rw [hKS]; unfold keysF; rw [List.length_map]; omega
            have hCl : CS.length ≤ 20 * R := LOW4.out.len
            have hN15 := H4.out.map.cnt15 key
            subst hvk
            obtain ⟨NC, hNC⟩ : ∃ n : Int, n = ((CS.length : Nat) : Int) := ⟨_, rfl⟩
            obtain ⟨NO, hNO⟩ : ∃ n : Int, n = ((cntAt CS key : Nat) : Int) := ⟨_, rfl⟩
            have CNTD := Lib.hid (counted_any H6.out)
            have OFT := Lib.hid (often_any key hkey H6.out)
            rw [← hNC] at CNTD
            rw [← hNO] at OFT
            have q1 : ¬ (R : Int) < (KS.length : Int) := by omega
            have q2 : ¬ 20 * (R : Int) < NC := by omega
            have q3 : ¬ (15 : Int) < NO := by omega
            have c61 : w6.cell? ⟨bx, 1, none⟩ = some (.string key) := by rw [B6.out.cell]; rfl
            clear hk6 hb6 hSk hKS hKl hCl hN15 hNC hNO
            go_wp2_with fail
            refine CNTD.out.mono ?_
            rintro e w7 ⟨rfl, rfl⟩
            go_wp2_with fail
            refine OFT.out.mono ?_
            rintro e w7 ⟨rfl, rfl⟩
            go_wp2_with fail
            refine ⟨⟨k + 1, by go_num, by omega, Lib.hid ⟨_, TS, CS, ASK, H6.out, LOW4.out, by rw [HST.out]; exact FROM4.out, by rw [HLT.out]; exact SZ4.out.1, by rw [HLT.out]; exact SZ4.out.2⟩⟩, by simp [intOf]; omega⟩
          · have be1 : (ak == 1) = false := by simpa using hk1
            have be0 : (ak == 0) = false := by simpa using hk0
            have OFS := Lib.hid (show offered (l1.take (k + 1)) = offered (l1.take k) by rw [HST.out, offered_snoc]; simp [hk1])
            go_wp2_with fail
            rw [← HWA.out, ← HBX.out]
            refine (forget_any key HA.out).mono ?_
            rintro e w4 ⟨rfl, v4, h4, F4, _⟩
            have bx4 := BXH.out.far F4 OWL.out
            have from4 := FROM.out.forget key
            obtain ⟨TS, hTS⟩ : ∃ b, b = (forgetF ts key).1 := ⟨_, rfl⟩
            obtain ⟨CS, hCS⟩ : ∃ b, b = cs := ⟨_, rfl⟩
            obtain ⟨ASK, hASK⟩ : ∃ b, b = ask := ⟨_, rfl⟩
            have LOW4 := LOW
            rw [← hTS] at h4 from4
            rw [← hCS, ← hASK] at h4 LOW4
            have H4 := Lib.hid h4
            have B4 := Lib.hid bx4
            have FROM4 := Lib.hid (show From TS (offered (l1.take k ++ [⟨ak, key, value⟩])) by rw [← HST.out, OFS.out]; exact from4)
            have SZ4 := Lib.hid (show ASK ≤ k + 1 ∧ CS.length ≤ k + 1 by rw [hCS, hASK]; omega)
            clear h4 F4 bx4 from4 hTS hCS hASK ca0 ca1 ca2
            go_wp2_with fail
            refine (keys_any H4.out).mono ?_
            rintro e w6 ⟨vk, rfl, hk6, hb6⟩
            obtain ⟨Ak, ck, hvk, _, hSk⟩ := Strs.of_own hk6
            have H6 := Lib.hid (H4.out.below hb6)
            have B6 := Lib.hid (B4.out.below hb6)
            obtain ⟨KS, hKS⟩ : ∃ K, K = keysF TS := ⟨_, rfl⟩
            rw [← hKS] at hvk
            have hKl : KS.length ≤ R := by have h1 := H4.out.len; rw [hKS]; unfold keysF; rw [List.length_map]; omega
            have hCl : CS.length ≤ 20 * R := LOW4.out.len
            have hN15 := H4.out.map.cnt15 key
            subst hvk
            obtain ⟨NC, hNC⟩ : ∃ n : Int, n = ((CS.length : Nat) : Int) := ⟨_, rfl⟩
            obtain ⟨NO, hNO⟩ : ∃ n : Int, n = ((cntAt CS key : Nat) : Int) := ⟨_, rfl⟩
            have CNTD := Lib.hid (counted_any H6.out)
            have OFT := Lib.hid (often_any key hkey H6.out)
            rw [← hNC] at CNTD
            rw [← hNO] at OFT
            have q1 : ¬ (R : Int) < (KS.length : Int) := by omega
            have q2 : ¬ 20 * (R : Int) < NC := by omega
            have q3 : ¬ (15 : Int) < NO := by omega
            have c61 : w6.cell? ⟨bx, 1, none⟩ = some (.string key) := by rw [B6.out.cell]; rfl
            clear hk6 hb6 hSk hKS hKl hCl hN15 hNC hNO
            go_wp2_with fail
            refine CNTD.out.mono ?_
            rintro e w7 ⟨rfl, rfl⟩
            go_wp2_with fail
            refine OFT.out.mono ?_
            rintro e w7 ⟨rfl, rfl⟩
            go_wp2_with fail
            refine ⟨⟨k + 1, by go_num, by omega, Lib.hid ⟨_, TS, CS, ASK, H6.out, LOW4.out, by rw [HST.out]; exact FROM4.out, by rw [HLT.out]; exact SZ4.out.1, by rw [HLT.out]; exact SZ4.out.2⟩⟩, by simp [intOf]; omega⟩
      · obtain rfl : k = l1.length := by omega
        go_wp2_with fail
        go_ret
        exact ⟨rfl, H.out.bl.1⟩
end Go.Proofs.Ytplahkhohhbgaaa
