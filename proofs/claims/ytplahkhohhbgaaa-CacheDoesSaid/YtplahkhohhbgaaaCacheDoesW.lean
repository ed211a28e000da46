/-
  The walk of the law CacheDoes.
-/
import Derived.Test.YtplahkhohhbgaaaCacheTw
import Derived.Deep.RegionHeld3
namespace Go.Proofs.Ytplahkhohhbgaaa
open Go.RowKit Go.Proofs.Cch
set_option linter.unusedVariables false
set_option linter.unusedSimpArgs false
theorem Mp.b15 {w : World} {m : Nat} {cs : Counts} (h : Mp w m cs) : ∀ p ∈ cs, p.2 ≤ 15 := by
  obtain ⟨_, _, hb, _⟩ := h
  exact fun p hp => (hb p hp).2
/-- Both behind k acts. -/
def Cd (w0 : World) (g sz m k G : Nat) (wr : World) : Prop := ∃ v ts cs ask A c C d, Tw2 w0 g sz v m ts cs ask G A c C d wr ∧ (keysF ts).Nodup ∧ ask ≤ k ∧ cs.length ≤ k
set_option maxRecDepth 100000 in
set_option maxHeartbeats 2000000 in
theorem cdoes_walk (w : World) (a0 : Int) (A1 : Option Addr) (c1 : Nat) (l1 : List Wish) (S1 : Sk w A1 l1) (a2 : ByteArray) (ha2 : a2.size ≤ maxLen) :
    Calls Try.prog 3 #[.int .i64 a0, .slice A1 l1.length c1, .string a2] w fun e w' => e = .returned (.bool true) ∧ Below w.heap.size w w' := by
  have HS := Lib.hid S1
  clear S1
  go_enter Try.func3, Try.ntmps3
  go_wp2_with fail
  refine (cworks_any _).mono ?_
  rintro e w1 ⟨rfl, hb1⟩
  have HB1 := Lib.hid hb1
  clear hb1
  go_wp2_with fail
  refine (cnew_any a0 w w1 ⟨HB1.out, HB1.out.size⟩).mono ?_
  rintro e w2 ⟨rfl, hM, hb2⟩
  have H2 := Lib.hid hM
  clear hM hb2
  go_wp2_with fail
  refine (cfew_any A1 c1 l1 w2 (HS.out.below H2.out.bl.1)).mono ?_
  rintro e w3 ⟨rfl, rfl⟩
  rcases hf : cfewF l1 with _ | _
  · go_wp2_with fail
    go_ret
    exact ⟨rfl, H2.out.bl.1⟩
  · obtain ⟨hl200, hks⟩ := cfewF_true hf
    have HKS := Lib.hid hks
    clear hf hks
    by_cases hb2 : a2.size ≤ 50
    · have u2 : ¬ (50 : Int) < (a2.size : Int) := by omega
      go_wp2_with fail
      refine (rcnew_any a0 w2).mono ?_
      rintro e w3 ⟨rfl, hb3⟩
      obtain ⟨sz, hsz⟩ : ∃ s, s = sizeOfC a0 := ⟨_, rfl⟩
      rw [← hsz] at H2 ⊢
      have H3 := Lib.hid (H2.out.below hb3)
      have BEL : Below w3.heap.size w3 (w3.alloc (.cells #[.int .i64 (sz : Int), .slice none 0 0, .slice none 0 0, .int .i64 0] 30)) := (Below.refl _ _).alloc (Nat.le_refl _) _
      have TT0 : Hid (Tw2 w (w1.heap.size + 1) sz (.slice none 0 0) w1.heap.size [] [] 0 w3.heap.size none 0 none 0 (w3.alloc (.cells #[.int .i64 (sz : Int), .slice none 0 0, .slice none 0 0, .int .i64 0] 30))) := Lib.hid ⟨H3.out.below BEL, Blk.new w3 _ _, H3.out.bl.2, Rp.nil _, Rp.nil _⟩
      clear hsz hb3 BEL H3 H2
      go_wp2_with fail
      generalize w3.alloc (.cells #[.int .i64 (sz : Int), .slice none 0 0, .slice none 0 0, .int .i64 0] 30) = w4 at *
      generalize w3.heap.size = G at *
      generalize w1.heap.size = m at *
      go_loopw [11, 12, 13, 14, 15, 16] (fun vi _ _ _ _ _ wr => ∃ k : Nat, vi = .int .i64 (k : Int) ∧ k ≤ l1.length ∧ Hid (Cd w (m + 1) sz m k G wr)) (fun vi _ _ _ _ _ _ => l1.length - (intOf vi).toNat)
      case atStart => exact ⟨0, rfl, Nat.zero_le _, Lib.hid ⟨_, [], [], 0, _, _, _, _, TT0.out, by simp [keysF], Nat.le_refl _, Nat.le_refl _⟩⟩
      case round =>
        obtain ⟨k, rfl, hk, HM⟩ := hrel
        obtain ⟨v, ts, cs, ask, A, c, C, d, hT, hnd, hask, hcl⟩ := HM.out
        have H := Lib.hid hT
        have HND := Lib.hid hnd
        clear HM hT hnd
        by_cases hlt : k < l1.length
        · obtain ⟨a, ha⟩ : ∃ a, l1[k]? = some a := ⟨_, List.getElem?_eq_getElem hlt⟩
          have hkey : a.key.size ≤ maxLen := by have := (HKS.out a (List.mem_of_getElem? ha)).1; unfold maxLen; omega
          obtain ⟨b, o, rfl, hbl, d0, d1, d2⟩ := (HS.out.below H.out.cc.bl.1).at_ k a ha
          obtain ⟨ak, key, value⟩ := a
          simp only at d0 d1 d2 hkey
          have j1 : (k : Int) < (l1.length : Int) := by omega
          have wk : IntKind.i64.wrap ((k : Int) + 1) = (k : Int) + 1 := IntWalk.i64_in _ (by omega)
          obtain ⟨bx, hbx⟩ : ∃ q, q = wr.heap.size := ⟨_, rfl⟩
          have bX := Blk.new wr 33 #[.int .i64 ak, .string key, .string value]
          have HA := Lib.hid (H.out.below ((Below.refl wr.heap.size wr).alloc (Nat.le_refl _) (.cells #[.int .i64 ak, .string key, .string value] 33)))
          have NEG := Lib.hid (show bx ≠ G by have := H.out.b.lt; omega)
          rw [← hbx] at bX
          clear ha
          obtain ⟨WA, hWA⟩ : ∃ q, q = wr.alloc (.cells #[.int .i64 ak, .string key, .string value] 33) := ⟨_, rfl⟩
          rw [← hWA] at HA bX
          have ca0 : WA.cell? ⟨bx, 0, none⟩ = some (.int .i64 ak) := by rw [bX.cell]; rfl
          have ca1 : WA.cell? ⟨bx, 1, none⟩ = some (.string key) := by rw [bX.cell]; rfl
          have ca2 : WA.cell? ⟨bx, 2, none⟩ = some (.string value) := by rw [bX.cell]; rfl
          have BXH := Lib.hid bX
          have HWA := Lib.hid hWA
          have HBX := Lib.hid hbx
          have HG := Lib.hid H.out.gl
          have HLN := Lib.hid (show ts.length ≤ sz ∧ sz ≤ 64 from ⟨H.out.cc.len, H.out.cc.top⟩)
          have H15 := Lib.hid H.out.cc.map.b15
          have HNC := Lib.hid H.out.cc.map.nodup
          clear hbx bX hWA H
          by_cases hk0 : ak = 0
          · subst hk0
            clear ca0 ca2
            have ca0 : WA.cell? ⟨bx, 0, none⟩ = some (.int .i64 0) := by rw [BXH.out.cell]; rfl
            go_wp2_with fail
            rw [← HWA.out, ← HBX.out]
            refine (get_any key hkey (by omega) (by omega) HA.out.cc).mono ?_
            rintro e w4' ⟨rfl, h4, F4⟩
            have KG4 := HA.out.keep F4
            have B4 := Lib.hid (BXH.out.far F4 (HA.out.cc.oth (blk_oth BXH.out (by decide))))
            have RG := Lib.hid (rcget_any sz (.slice A ts.length c) (.slice C cs.length d) ts cs ask key w4' KG4.2.1 KG4.2.2 HLN.out.1 HLN.out.2 (by omega) H15.out HNC.out HND.out (by omega))
            have ND6 := nodup_get HND.out sz cs ask key
            have cnt4 := get_counts sz ts cs ask key
            obtain ⟨GV, hGV⟩ : ∃ b, b = gotF sz ts key := ⟨_, rfl⟩
            obtain ⟨GF, hGF⟩ : ∃ b, b = getF sz ts cs ask key := ⟨_, rfl⟩
            rw [← hGF] at h4 ND6 cnt4 RG
            rw [← hGV] at RG ⊢
            obtain ⟨gv, gb⟩ := GV
            obtain ⟨TS, CS, ASK⟩ := GF
            dsimp only at h4 ND6 cnt4 RG ⊢
            have H4 := Lib.hid h4
            have KG := Lib.hid KG4
            have ND6 := Lib.hid ND6
            have SZ6 := Lib.hid (show ASK ≤ k + 1 ∧ CS.length ≤ k + 1 by omega)
            clear h4 F4 KG4 cnt4 hGV hGF ca0 ca1 d0 d1 d2
            have e0 : w4'.cell? ⟨G, 0, none⟩ = some (.int .i64 (sz : Int)) := by rw [KG.out.1.cell]; rfl
            have e1 : w4'.cell? ⟨G, 1, none⟩ = some (.slice A ts.length c) := by rw [KG.out.1.cell]; rfl
            have e2 : w4'.cell? ⟨G, 2, none⟩ = some (.slice C cs.length d) := by rw [KG.out.1.cell]; rfl
            have e3 : w4'.cell? ⟨G, 3, none⟩ = some (.int .i64 (ask : Int)) := by rw [KG.out.1.cell]; rfl
            have f0 := KG.out.1.frozen 0
            have f1 := KG.out.1.frozen 1
            have f2 := KG.out.1.frozen 2
            have f3 := KG.out.1.frozen 3
            have x1 : w4'.cell? ⟨bx, 1, none⟩ = some (.string key) := by rw [B4.out.cell]; rfl
            have x2 : w4'.cell? ⟨bx, 2, none⟩ = some (.string value) := by rw [B4.out.cell]; rfl
            have x0 : w4'.cell? ⟨bx, 0, none⟩ = some (.int .i64 0) := by rw [B4.out.cell]; rfl
            go_wp2_with fail
            refine RG.out.mono ?_
            rintro e w5 ⟨vA, vC, rfl, hA5, hC5, hb5⟩
            obtain ⟨A5, c5, hv5, _⟩ := id hA5
            obtain ⟨C5, d5, hv6, _⟩ := id hC5
            rw [pT_length] at hv5
            rw [pC_length] at hv6
            subst hv5
            subst hv6
            have H5 := Lib.hid (H4.out.below hb5)
            have KGn := Lib.hid (KG.out.1.below hb5)
            have B4 := Lib.hid (B4.out.below hb5)
            have RA5 := Lib.hid hA5
            have RC5 := Lib.hid hC5
            clear e0 e1 e2 e3 f0 f1 f2 f3 x0 x1 x2 KG H4 hA5 hC5 hb5 RG
            have KG := Lib.hid (And.intro KGn.out trivial)
            clear KGn
            have e0 : w5.cell? ⟨G, 0, none⟩ = some (.int .i64 (sz : Int)) := by rw [KG.out.1.cell]; rfl
            have e1 : w5.cell? ⟨G, 1, none⟩ = some (.slice A ts.length c) := by rw [KG.out.1.cell]; rfl
            have e2 : w5.cell? ⟨G, 2, none⟩ = some (.slice C cs.length d) := by rw [KG.out.1.cell]; rfl
            have e3 : w5.cell? ⟨G, 3, none⟩ = some (.int .i64 (ask : Int)) := by rw [KG.out.1.cell]; rfl
            have f0 := KG.out.1.frozen 0
            have f1 := KG.out.1.frozen 1
            have f2 := KG.out.1.frozen 2
            have f3 := KG.out.1.frozen 3
            have x1 : w5.cell? ⟨bx, 1, none⟩ = some (.string key) := by rw [B4.out.cell]; rfl
            have x2 : w5.cell? ⟨bx, 2, none⟩ = some (.string value) := by rw [B4.out.cell]; rfl
            have x0 : w5.cell? ⟨bx, 0, none⟩ = some (.int .i64 0) := by rw [B4.out.cell]; rfl
            obtain ⟨tt, tk⟩ := tw2_store (A := A5) (c := c5) (C := C5) (d := d5) H5.out KG.out.1 HG.out RA5.out RC5.out
            have TT := Lib.hid tt
            have BX6 := Lib.hid (tk bx _ _ NEG.out B4.out)
            clear tt tk
            go_wp2_with fail
            generalize (((w5.setCell ⟨G, 0, none⟩ (.int .i64 (sz : Int))).setCell ⟨G, 1, none⟩ (.slice A5 TS.length c5)).setCell ⟨G, 2, none⟩ (.slice C5 CS.length d5)).setCell ⟨G, 3, none⟩ (.int .i64 (ASK : Int)) = W6 at *
            clear e0 e1 e2 e3 f0 f1 f2 f3 x0 x1 x2 KG H5 RA5 RC5 B4

            have TD := Lib.hid (TT.out.drewN 1)
            have XD := Lib.hid (BX6.out.drewN 1)
            have HTL := Lib.hid (show TS.length ≤ 1000 ∧ CS.length ≤ 100000 ∧ (keysF TS).length ≤ 1000000 from ⟨by have h1 := TT.out.cc.len; have h2 := TT.out.cc.top; omega, TT.out.cc.cnt, by have h1 := TT.out.cc.len; have h2 := TT.out.cc.top; unfold keysF; rw [List.length_map]; omega⟩)
            have KEY : Hid (∀ W : World, Tw2 w (m + 1) sz v m TS CS ASK G A5 c5 C5 d5 W → Blk W bx 33 #[.int .i64 0, .string key, .string value] → W.cell? ⟨G, 0, none⟩ = some (.int .i64 (sz : Int)) ∧ W.cell? ⟨G, 1, none⟩ = some (.slice A5 TS.length c5) ∧ W.cell? ⟨G, 2, none⟩ = some (.slice C5 CS.length d5) ∧ W.cell? ⟨G, 3, none⟩ = some (.int .i64 (ASK : Int)) ∧ W.cell? ⟨bx, 1, none⟩ = some (.string key)) := Lib.hid (fun W h hb => by
              obtain ⟨q0, q1, q2, q3⟩ := h.b.four
              exact ⟨q0, q1, q2, q3, by rw [hb.cell]; rfl⟩)
            obtain ⟨N1, hN1⟩ : ∃ n : Int, n = ((cntAt CS key : Nat) : Int) := ⟨_, rfl⟩
            obtain ⟨N2, hN2⟩ : ∃ n : Int, n = ((cntAt CS a2 : Nat) : Int) := ⟨_, rfl⟩
            have O1 := Lib.hid (fun W (h : Tw2 w (m + 1) sz v m TS CS ASK G A5 c5 C5 d5 W) => often_any key hkey h.cc)
            have O2 := Lib.hid (fun W (h : Tw2 w (m + 1) sz v m TS CS ASK G A5 c5 C5 d5 W) => often_any a2 ha2 h.cc)
            have P1 := Lib.hid (fun W (h : Tw2 w (m + 1) sz v m TS CS ASK G A5 c5 C5 d5 W) => rcoften_any (sz : Int) (.slice A5 TS.length c5) (.slice C5 CS.length d5) CS (ASK : Int) key W h.rc HTL.out.2.1)
            have P2 := Lib.hid (fun W (h : Tw2 w (m + 1) sz v m TS CS ASK G A5 c5 C5 d5 W) => rcoften_any (sz : Int) (.slice A5 TS.length c5) (.slice C5 CS.length d5) CS (ASK : Int) a2 W h.rc HTL.out.2.1)
            have RK := Lib.hid (fun W (h : Tw2 w (m + 1) sz v m TS CS ASK G A5 c5 C5 d5 W) => rckeys_any (sz : Int) (.slice A5 TS.length c5) (.slice C5 CS.length d5) TS (ASK : Int) W h.ra HTL.out.1)
            rw [← hN1] at O1 P1
            rw [← hN2] at O2 P2
            clear hN1 hN2
            go_region_held3 (fun W => W.cell? ⟨G, 0, none⟩ = some (.int .i64 (sz : Int)) ∧ W.cell? ⟨G, 1, none⟩ = some (.slice A5 TS.length c5) ∧ W.cell? ⟨G, 2, none⟩ = some (.slice C5 CS.length d5) ∧ W.cell? ⟨G, 3, none⟩ = some (.int .i64 (ASK : Int)) ∧ W.cell? ⟨bx, 1, none⟩ = some (.string key))
              (first | exact KEY.out _ TD.out XD.out | exact KEY.out _ T9.out X9.out | exact KEY.out _ T10.out X10.out | exact KEY.out _ TN.out XN.out | exact KEY.out _ T13.out X13.out | exact KEY.out _ T15.out X15.out)
              (first
                | (go_at_call 25; refine (keys_any TD.out.cc).mono ?_; rintro e w9 ⟨v9, rfl, hk9, hb9⟩; obtain ⟨A9, c9, hv9, _, hS9⟩ := Strs.of_own hk9; subst hv9; have T9 := Lib.hid (TD.out.below hb9); have X9 := Lib.hid (XD.out.below hb9); have S9 := Lib.hid hS9; clear hk9 hb9 hS9)
                | (go_at_call 26; refine (RK.out _ T9.out).mono ?_; rintro e w10 ⟨v10, rfl, hk10, hb10⟩; obtain ⟨A10, c10, hv10, _, hS10⟩ := Strs.of_own hk10; subst hv10; have T10 := Lib.hid (T9.out.below hb10); have X10 := Lib.hid (X9.out.below hb10); have S10 := Lib.hid hS10; have S9' := Lib.hid (S9.out.below hb10); clear hk10 hb10 hS10)
                | (go_at_call 24; refine (same_any A9 A10 c9 c10 (keysF TS) (keysF TS) w10 S9'.out S10.out HTL.out.2.2 HTL.out.2.2).mono ?_; rintro e w11 ⟨rfl, q, rfl⟩; rw [show decide (keysF TS = keysF TS) = true from decide_eq_true rfl]; have TN := Lib.hid (T10.out.drewN q); have XN := Lib.hid (X10.out.drewN q))
                | (go_at_call_of 27 (Value.string key); refine (O1.out _ TN.out).mono ?_; rintro e w12 ⟨rfl, rfl⟩)
                | (go_at_call_of 28 (Value.string key); refine (P1.out _ TN.out).mono ?_; rintro e w13 ⟨rfl, hb13⟩; have T13 := Lib.hid (TN.out.below hb13); have X13 := Lib.hid (XN.out.below hb13); clear hb13)
                | (go_at_call_of 27 (Value.string a2); refine (O2.out _ T13.out).mono ?_; rintro e w14 ⟨rfl, rfl⟩)
                | (go_at_call_of 28 (Value.string a2); refine (P2.out _ T13.out).mono ?_; rintro e w15 ⟨rfl, hb15⟩; have T15 := Lib.hid (T13.out.below hb15); have X15 := Lib.hid (X13.out.below hb15); clear hb15)
                | (go_at_call 29; refine (counted_any T15.out.cc).mono ?_; rintro e w16 ⟨rfl, rfl⟩))
            all_goals
              go_wp2_with fail
              refine ⟨⟨k + 1, by go_num, by omega, Lib.hid ⟨_, TS, CS, ASK, _, _, _, _, T15.out, ND6.out, SZ6.out.1, SZ6.out.2⟩⟩, by simp [intOf]; omega⟩
          · have be0 : (ak == 0) = false := by simpa using hk0
            by_cases hk1 : ak = 1
            · subst hk1
              go_wp2_with fail
              rw [← HWA.out, ← HBX.out]
              refine (offer_any key value hkey HA.out.cc).mono ?_
              rintro e w4' ⟨rfl, v4, h4, F4, _⟩
              have KG4 := HA.out.keep F4
              have B4 := Lib.hid (BXH.out.far F4 (HA.out.cc.oth (blk_oth BXH.out (by decide))))
              have RG := Lib.hid (rcoffer_any sz (.slice A ts.length c) (.slice C cs.length d) ts cs ask key value w4' KG4.2.1 KG4.2.2 HLN.out.1 HLN.out.2 (by omega) HND.out)
              have ND6 := nodup_offer HND.out sz cs key value
              obtain ⟨GF, hGF⟩ : ∃ b, b = offerF sz ts cs key value := ⟨_, rfl⟩
              rw [← hGF] at h4 ND6 RG ⊢
              obtain ⟨TS, gb⟩ := GF
              dsimp only at h4 ND6 RG ⊢
              have H4 := Lib.hid h4
              have KG := Lib.hid KG4
              have ND6 := Lib.hid ND6
              obtain ⟨CS, hCS⟩ : ∃ q, q = cs := ⟨_, rfl⟩
              obtain ⟨ASK, hASK⟩ : ∃ q, q = ask := ⟨_, rfl⟩
              have SZ6 := Lib.hid (show ASK ≤ k + 1 ∧ CS.length ≤ k + 1 by rw [hCS, hASK]; omega)
              subst hCS
              subst hASK
              clear h4 F4 KG4 hGF ca0 ca1 ca2 d0 d1 d2
              have e0 : w4'.cell? ⟨G, 0, none⟩ = some (.int .i64 (sz : Int)) := by rw [KG.out.1.cell]; rfl
              have e1 : w4'.cell? ⟨G, 1, none⟩ = some (.slice A ts.length c) := by rw [KG.out.1.cell]; rfl
              have e2 : w4'.cell? ⟨G, 2, none⟩ = some (.slice C CS.length d) := by rw [KG.out.1.cell]; rfl
              have e3 : w4'.cell? ⟨G, 3, none⟩ = some (.int .i64 (ASK : Int)) := by rw [KG.out.1.cell]; rfl
              have f0 := KG.out.1.frozen 0
              have f1 := KG.out.1.frozen 1
              have f2 := KG.out.1.frozen 2
              have f3 := KG.out.1.frozen 3
              have x1 : w4'.cell? ⟨bx, 1, none⟩ = some (.string key) := by rw [B4.out.cell]; rfl
              have x2 : w4'.cell? ⟨bx, 2, none⟩ = some (.string value) := by rw [B4.out.cell]; rfl
              have x0 : w4'.cell? ⟨bx, 0, none⟩ = some (.int .i64 1) := by rw [B4.out.cell]; rfl
              go_wp2_with fail
              refine RG.out.mono ?_
              rintro e w5 ⟨vA, rfl, hA5, hb5⟩
              obtain ⟨A5, c5, hv5, _⟩ := id hA5
              rw [pT_length] at hv5
              subst hv5
              have H5 := Lib.hid (H4.out.below hb5)
              have KGn := Lib.hid (KG.out.1.below hb5)
              have B4 := Lib.hid (B4.out.below hb5)
              have RA5 := Lib.hid hA5
              have RC5 := Lib.hid (KG.out.2.2.below hb5)
              clear e0 e1 e2 e3 f0 f1 f2 f3 x0 x1 x2 KG H4 hA5 hb5 RG
              have KG := Lib.hid (And.intro KGn.out trivial)
              clear KGn
              have e0 : w5.cell? ⟨G, 0, none⟩ = some (.int .i64 (sz : Int)) := by rw [KG.out.1.cell]; rfl
              have e1 : w5.cell? ⟨G, 1, none⟩ = some (.slice A ts.length c) := by rw [KG.out.1.cell]; rfl
              have e2 : w5.cell? ⟨G, 2, none⟩ = some (.slice C CS.length d) := by rw [KG.out.1.cell]; rfl
              have e3 : w5.cell? ⟨G, 3, none⟩ = some (.int .i64 (ASK : Int)) := by rw [KG.out.1.cell]; rfl
              have f0 := KG.out.1.frozen 0
              have f1 := KG.out.1.frozen 1
              have f2 := KG.out.1.frozen 2
              have f3 := KG.out.1.frozen 3
              have x1 : w5.cell? ⟨bx, 1, none⟩ = some (.string key) := by rw [B4.out.cell]; rfl
              have x2 : w5.cell? ⟨bx, 2, none⟩ = some (.string value) := by rw [B4.out.cell]; rfl
              have x0 : w5.cell? ⟨bx, 0, none⟩ = some (.int .i64 1) := by rw [B4.out.cell]; rfl
              obtain ⟨tt, tk⟩ := tw2_store (A := A5) (c := c5) (C := C) (d := d) H5.out KG.out.1 HG.out RA5.out RC5.out
              have TT := Lib.hid tt
              have BX6 := Lib.hid (tk bx _ _ NEG.out B4.out)
              clear tt tk
              go_wp2_with fail
              generalize (((w5.setCell ⟨G, 0, none⟩ (.int .i64 (sz : Int))).setCell ⟨G, 1, none⟩ (.slice A5 TS.length c5)).setCell ⟨G, 2, none⟩ (.slice C CS.length d)).setCell ⟨G, 3, none⟩ (.int .i64 (ASK : Int)) = W6 at *
              clear e0 e1 e2 e3 f0 f1 f2 f3 x0 x1 x2 KG H5 RA5 RC5 B4

              have TD := Lib.hid (TT.out.drewN 1)
              have XD := Lib.hid (BX6.out.drewN 1)
              have HTL := Lib.hid (show TS.length ≤ 1000 ∧ CS.length ≤ 100000 ∧ (keysF TS).length ≤ 1000000 from ⟨by have h1 := TT.out.cc.len; have h2 := TT.out.cc.top; omega, TT.out.cc.cnt, by have h1 := TT.out.cc.len; have h2 := TT.out.cc.top; unfold keysF; rw [List.length_map]; omega⟩)
              have KEY : Hid (∀ W : World, Tw2 w (m + 1) sz v4 m TS CS ASK G A5 c5 C d W → Blk W bx 33 #[.int .i64 1, .string key, .string value] → W.cell? ⟨G, 0, none⟩ = some (.int .i64 (sz : Int)) ∧ W.cell? ⟨G, 1, none⟩ = some (.slice A5 TS.length c5) ∧ W.cell? ⟨G, 2, none⟩ = some (.slice C CS.length d) ∧ W.cell? ⟨G, 3, none⟩ = some (.int .i64 (ASK : Int)) ∧ W.cell? ⟨bx, 1, none⟩ = some (.string key)) := Lib.hid (fun W h hb => by
                obtain ⟨q0, q1, q2, q3⟩ := h.b.four
                exact ⟨q0, q1, q2, q3, by rw [hb.cell]; rfl⟩)
              obtain ⟨N1, hN1⟩ : ∃ n : Int, n = ((cntAt CS key : Nat) : Int) := ⟨_, rfl⟩
              obtain ⟨N2, hN2⟩ : ∃ n : Int, n = ((cntAt CS a2 : Nat) : Int) := ⟨_, rfl⟩
              have O1 := Lib.hid (fun W (h : Tw2 w (m + 1) sz v4 m TS CS ASK G A5 c5 C d W) => often_any key hkey h.cc)
              have O2 := Lib.hid (fun W (h : Tw2 w (m + 1) sz v4 m TS CS ASK G A5 c5 C d W) => often_any a2 ha2 h.cc)
              have P1 := Lib.hid (fun W (h : Tw2 w (m + 1) sz v4 m TS CS ASK G A5 c5 C d W) => rcoften_any (sz : Int) (.slice A5 TS.length c5) (.slice C CS.length d) CS (ASK : Int) key W h.rc HTL.out.2.1)
              have P2 := Lib.hid (fun W (h : Tw2 w (m + 1) sz v4 m TS CS ASK G A5 c5 C d W) => rcoften_any (sz : Int) (.slice A5 TS.length c5) (.slice C CS.length d) CS (ASK : Int) a2 W h.rc HTL.out.2.1)
              have RK := Lib.hid (fun W (h : Tw2 w (m + 1) sz v4 m TS CS ASK G A5 c5 C d W) => rckeys_any (sz : Int) (.slice A5 TS.length c5) (.slice C CS.length d) TS (ASK : Int) W h.ra HTL.out.1)
              rw [← hN1] at O1 P1
              rw [← hN2] at O2 P2
              clear hN1 hN2
              go_region_held3 (fun W => W.cell? ⟨G, 0, none⟩ = some (.int .i64 (sz : Int)) ∧ W.cell? ⟨G, 1, none⟩ = some (.slice A5 TS.length c5) ∧ W.cell? ⟨G, 2, none⟩ = some (.slice C CS.length d) ∧ W.cell? ⟨G, 3, none⟩ = some (.int .i64 (ASK : Int)) ∧ W.cell? ⟨bx, 1, none⟩ = some (.string key))
                (first | exact KEY.out _ TD.out XD.out | exact KEY.out _ T9.out X9.out | exact KEY.out _ T10.out X10.out | exact KEY.out _ TN.out XN.out | exact KEY.out _ T13.out X13.out | exact KEY.out _ T15.out X15.out)
                (first
                  | (go_at_call 25; refine (keys_any TD.out.cc).mono ?_; rintro e w9 ⟨v9, rfl, hk9, hb9⟩; obtain ⟨A9, c9, hv9, _, hS9⟩ := Strs.of_own hk9; subst hv9; have T9 := Lib.hid (TD.out.below hb9); have X9 := Lib.hid (XD.out.below hb9); have S9 := Lib.hid hS9; clear hk9 hb9 hS9)
                  | (go_at_call 26; refine (RK.out _ T9.out).mono ?_; rintro e w10 ⟨v10, rfl, hk10, hb10⟩; obtain ⟨A10, c10, hv10, _, hS10⟩ := Strs.of_own hk10; subst hv10; have T10 := Lib.hid (T9.out.below hb10); have X10 := Lib.hid (X9.out.below hb10); have S10 := Lib.hid hS10; have S9' := Lib.hid (S9.out.below hb10); clear hk10 hb10 hS10)
                  | (go_at_call 24; refine (same_any A9 A10 c9 c10 (keysF TS) (keysF TS) w10 S9'.out S10.out HTL.out.2.2 HTL.out.2.2).mono ?_; rintro e w11 ⟨rfl, q, rfl⟩; rw [show decide (keysF TS = keysF TS) = true from decide_eq_true rfl]; have TN := Lib.hid (T10.out.drewN q); have XN := Lib.hid (X10.out.drewN q))
                  | (go_at_call_of 27 (Value.string key); refine (O1.out _ TN.out).mono ?_; rintro e w12 ⟨rfl, rfl⟩)
                  | (go_at_call_of 28 (Value.string key); refine (P1.out _ TN.out).mono ?_; rintro e w13 ⟨rfl, hb13⟩; have T13 := Lib.hid (TN.out.below hb13); have X13 := Lib.hid (XN.out.below hb13); clear hb13)
                  | (go_at_call_of 27 (Value.string a2); refine (O2.out _ T13.out).mono ?_; rintro e w14 ⟨rfl, rfl⟩)
                  | (go_at_call_of 28 (Value.string a2); refine (P2.out _ T13.out).mono ?_; rintro e w15 ⟨rfl, hb15⟩; have T15 := Lib.hid (T13.out.below hb15); have X15 := Lib.hid (X13.out.below hb15); clear hb15)
                  | (go_at_call 29; refine (counted_any T15.out.cc).mono ?_; rintro e w16 ⟨rfl, rfl⟩))
              all_goals
                go_wp2_with fail
                refine ⟨⟨k + 1, by go_num, by omega, Lib.hid ⟨_, TS, CS, ASK, _, _, _, _, T15.out, ND6.out, SZ6.out.1, SZ6.out.2⟩⟩, by simp [intOf]; omega⟩
            · have be1 : (ak == 1) = false := by simpa using hk1
              go_wp2_with fail
              rw [← HWA.out, ← HBX.out]
              refine (forget_any key HA.out.cc).mono ?_
              rintro e w4' ⟨rfl, v4, h4, F4, _⟩
              have KG4 := HA.out.keep F4
              have B4 := Lib.hid (BXH.out.far F4 (HA.out.cc.oth (blk_oth BXH.out (by decide))))
              have RG := Lib.hid (rcforget_any sz (.slice A ts.length c) C cs.length d ts ask key w4' KG4.2.1 (by have := HLN.out; omega))
              have ND6 := nodup_forget HND.out key
              obtain ⟨GF, hGF⟩ : ∃ b, b = forgetF ts key := ⟨_, rfl⟩
              rw [← hGF] at h4 ND6 RG ⊢
              obtain ⟨TS, gb⟩ := GF
              dsimp only at h4 ND6 RG ⊢
              have H4 := Lib.hid h4
              have KG := Lib.hid KG4
              have ND6 := Lib.hid ND6
              obtain ⟨CS, hCS⟩ : ∃ q, q = cs := ⟨_, rfl⟩
              obtain ⟨ASK, hASK⟩ : ∃ q, q = ask := ⟨_, rfl⟩
              have SZ6 := Lib.hid (show ASK ≤ k + 1 ∧ CS.length ≤ k + 1 by rw [hCS, hASK]; omega)
              subst hCS
              subst hASK
              clear h4 F4 KG4 hGF ca0 ca1 ca2 d0 d1 d2
              have e0 : w4'.cell? ⟨G, 0, none⟩ = some (.int .i64 (sz : Int)) := by rw [KG.out.1.cell]; rfl
              have e1 : w4'.cell? ⟨G, 1, none⟩ = some (.slice A ts.length c) := by rw [KG.out.1.cell]; rfl
              have e2 : w4'.cell? ⟨G, 2, none⟩ = some (.slice C CS.length d) := by rw [KG.out.1.cell]; rfl
              have e3 : w4'.cell? ⟨G, 3, none⟩ = some (.int .i64 (ASK : Int)) := by rw [KG.out.1.cell]; rfl
              have f0 := KG.out.1.frozen 0
              have f1 := KG.out.1.frozen 1
              have f2 := KG.out.1.frozen 2
              have f3 := KG.out.1.frozen 3
              have x1 : w4'.cell? ⟨bx, 1, none⟩ = some (.string key) := by rw [B4.out.cell]; rfl
              have x2 : w4'.cell? ⟨bx, 2, none⟩ = some (.string value) := by rw [B4.out.cell]; rfl
              have x0 : w4'.cell? ⟨bx, 0, none⟩ = some (.int .i64 ak) := by rw [B4.out.cell]; rfl
              go_wp2_with fail
              refine RG.out.mono ?_
              rintro e w5 ⟨vA, rfl, hA5, hb5⟩
              obtain ⟨A5, c5, hv5, _⟩ := id hA5
              rw [pT_length] at hv5
              subst hv5
              have H5 := Lib.hid (H4.out.below hb5)
              have KGn := Lib.hid (KG.out.1.below hb5)
              have B4 := Lib.hid (B4.out.below hb5)
              have RA5 := Lib.hid hA5
              have RC5 := Lib.hid (KG.out.2.2.below hb5)
              clear e0 e1 e2 e3 f0 f1 f2 f3 x0 x1 x2 KG H4 hA5 hb5 RG
              have KG := Lib.hid (And.intro KGn.out trivial)
              clear KGn
              have e0 : w5.cell? ⟨G, 0, none⟩ = some (.int .i64 (sz : Int)) := by rw [KG.out.1.cell]; rfl
              have e1 : w5.cell? ⟨G, 1, none⟩ = some (.slice A ts.length c) := by rw [KG.out.1.cell]; rfl
              have e2 : w5.cell? ⟨G, 2, none⟩ = some (.slice C CS.length d) := by rw [KG.out.1.cell]; rfl
              have e3 : w5.cell? ⟨G, 3, none⟩ = some (.int .i64 (ASK : Int)) := by rw [KG.out.1.cell]; rfl
              have f0 := KG.out.1.frozen 0
              have f1 := KG.out.1.frozen 1
              have f2 := KG.out.1.frozen 2
              have f3 := KG.out.1.frozen 3
              have x1 : w5.cell? ⟨bx, 1, none⟩ = some (.string key) := by rw [B4.out.cell]; rfl
              have x2 : w5.cell? ⟨bx, 2, none⟩ = some (.string value) := by rw [B4.out.cell]; rfl
              have x0 : w5.cell? ⟨bx, 0, none⟩ = some (.int .i64 ak) := by rw [B4.out.cell]; rfl
              obtain ⟨tt, tk⟩ := tw2_store (A := A5) (c := c5) (C := C) (d := d) H5.out KG.out.1 HG.out RA5.out RC5.out
              have TT := Lib.hid tt
              have BX6 := Lib.hid (tk bx _ _ NEG.out B4.out)
              clear tt tk
              go_wp2_with fail
              generalize (((w5.setCell ⟨G, 0, none⟩ (.int .i64 (sz : Int))).setCell ⟨G, 1, none⟩ (.slice A5 TS.length c5)).setCell ⟨G, 2, none⟩ (.slice C CS.length d)).setCell ⟨G, 3, none⟩ (.int .i64 (ASK : Int)) = W6 at *
              clear e0 e1 e2 e3 f0 f1 f2 f3 x0 x1 x2 KG H5 RA5 RC5 B4

              have TD := Lib.hid (TT.out.drewN 1)
              have XD := Lib.hid (BX6.out.drewN 1)
              have HTL := Lib.hid (show TS.length ≤ 1000 ∧ CS.length ≤ 100000 ∧ (keysF TS).length ≤ 1000000 from ⟨by have h1 := TT.out.cc.len; have h2 := TT.out.cc.top; omega, TT.out.cc.cnt, by have h1 := TT.out.cc.len; have h2 := TT.out.cc.top; unfold keysF; rw [List.length_map]; omega⟩)
              have KEY : Hid (∀ W : World, Tw2 w (m + 1) sz v4 m TS CS ASK G A5 c5 C d W → Blk W bx 33 #[.int .i64 ak, .string key, .string value] → W.cell? ⟨G, 0, none⟩ = some (.int .i64 (sz : Int)) ∧ W.cell? ⟨G, 1, none⟩ = some (.slice A5 TS.length c5) ∧ W.cell? ⟨G, 2, none⟩ = some (.slice C CS.length d) ∧ W.cell? ⟨G, 3, none⟩ = some (.int .i64 (ASK : Int)) ∧ W.cell? ⟨bx, 1, none⟩ = some (.string key)) := Lib.hid (fun W h hb => by
                obtain ⟨q0, q1, q2, q3⟩ := h.b.four
                exact ⟨q0, q1, q2, q3, by rw [hb.cell]; rfl⟩)
              obtain ⟨N1, hN1⟩ : ∃ n : Int, n = ((cntAt CS key : Nat) : Int) := ⟨_, rfl⟩
              obtain ⟨N2, hN2⟩ : ∃ n : Int, n = ((cntAt CS a2 : Nat) : Int) := ⟨_, rfl⟩
              have O1 := Lib.hid (fun W (h : Tw2 w (m + 1) sz v4 m TS CS ASK G A5 c5 C d W) => often_any key hkey h.cc)
              have O2 := Lib.hid (fun W (h : Tw2 w (m + 1) sz v4 m TS CS ASK G A5 c5 C d W) => often_any a2 ha2 h.cc)
              have P1 := Lib.hid (fun W (h : Tw2 w (m + 1) sz v4 m TS CS ASK G A5 c5 C d W) => rcoften_any (sz : Int) (.slice A5 TS.length c5) (.slice C CS.length d) CS (ASK : Int) key W h.rc HTL.out.2.1)
              have P2 := Lib.hid (fun W (h : Tw2 w (m + 1) sz v4 m TS CS ASK G A5 c5 C d W) => rcoften_any (sz : Int) (.slice A5 TS.length c5) (.slice C CS.length d) CS (ASK : Int) a2 W h.rc HTL.out.2.1)
              have RK := Lib.hid (fun W (h : Tw2 w (m + 1) sz v4 m TS CS ASK G A5 c5 C d W) => rckeys_any (sz : Int) (.slice A5 TS.length c5) (.slice C CS.length d) TS (ASK : Int) W h.ra HTL.out.1)
              rw [← hN1] at O1 P1
              rw [← hN2] at O2 P2
              clear hN1 hN2
              go_region_held3 (fun W => W.cell? ⟨G, 0, none⟩ = some (.int .i64 (sz : Int)) ∧ W.cell? ⟨G, 1, none⟩ = some (.slice A5 TS.length c5) ∧ W.cell? ⟨G, 2, none⟩ = some (.slice C CS.length d) ∧ W.cell? ⟨G, 3, none⟩ = some (.int .i64 (ASK : Int)) ∧ W.cell? ⟨bx, 1, none⟩ = some (.string key))
                (first | exact KEY.out _ TD.out XD.out | exact KEY.out _ T9.out X9.out | exact KEY.out _ T10.out X10.out | exact KEY.out _ TN.out XN.out | exact KEY.out _ T13.out X13.out | exact KEY.out _ T15.out X15.out)
                (first
                  | (go_at_call 25; refine (keys_any TD.out.cc).mono ?_; rintro e w9 ⟨v9, rfl, hk9, hb9⟩; obtain ⟨A9, c9, hv9, _, hS9⟩ := Strs.of_own hk9; subst hv9; have T9 := Lib.hid (TD.out.below hb9); have X9 := Lib.hid (XD.out.below hb9); have S9 := Lib.hid hS9; clear hk9 hb9 hS9)
                  | (go_at_call 26; refine (RK.out _ T9.out).mono ?_; rintro e w10 ⟨v10, rfl, hk10, hb10⟩; obtain ⟨A10, c10, hv10, _, hS10⟩ := Strs.of_own hk10; subst hv10; have T10 := Lib.hid (T9.out.below hb10); have X10 := Lib.hid (X9.out.below hb10); have S10 := Lib.hid hS10; have S9' := Lib.hid (S9.out.below hb10); clear hk10 hb10 hS10)
                  | (go_at_call 24; refine (same_any A9 A10 c9 c10 (keysF TS) (keysF TS) w10 S9'.out S10.out HTL.out.2.2 HTL.out.2.2).mono ?_; rintro e w11 ⟨rfl, q, rfl⟩; rw [show decide (keysF TS = keysF TS) = true from decide_eq_true rfl]; have TN := Lib.hid (T10.out.drewN q); have XN := Lib.hid (X10.out.drewN q))
                  | (go_at_call_of 27 (Value.string key); refine (O1.out _ TN.out).mono ?_; rintro e w12 ⟨rfl, rfl⟩)
                  | (go_at_call_of 28 (Value.string key); refine (P1.out _ TN.out).mono ?_; rintro e w13 ⟨rfl, hb13⟩; have T13 := Lib.hid (TN.out.below hb13); have X13 := Lib.hid (XN.out.below hb13); clear hb13)
                  | (go_at_call_of 27 (Value.string a2); refine (O2.out _ T13.out).mono ?_; rintro e w14 ⟨rfl, rfl⟩)
                  | (go_at_call_of 28 (Value.string a2); refine (P2.out _ T13.out).mono ?_; rintro e w15 ⟨rfl, hb15⟩; have T15 := Lib.hid (T13.out.below hb15); have X15 := Lib.hid (X13.out.below hb15); clear hb15)
                  | (go_at_call 29; refine (counted_any T15.out.cc).mono ?_; rintro e w16 ⟨rfl, rfl⟩))
              all_goals
                go_wp2_with fail
                refine ⟨⟨k + 1, by go_num, by omega, Lib.hid ⟨_, TS, CS, ASK, _, _, _, _, T15.out, ND6.out, SZ6.out.1, SZ6.out.2⟩⟩, by simp [intOf]; omega⟩
        · obtain rfl : k = l1.length := by omega
          go_wp2_with fail
          go_ret
          exact ⟨rfl, H.out.cc.bl.1⟩
    · have u2 : (50 : Int) < (a2.size : Int) := by omega
      go_wp2_with fail
      go_ret
      exact ⟨rfl, H2.out.bl.1⟩
end Go.Proofs.Ytplahkhohhbgaaa
