/-
  The walk of the law CacheForgets.
-/
import Derived.Test.YtplahkhohhbgaaaCacheKeep
import Derived.Deep.RegionHeld3
namespace Go.Proofs.Ytplahkhohhbgaaa
open Go.RowKit Go.Proofs.Cch
set_option linter.unusedVariables false
set_option linter.unusedSimpArgs false
/-- A cache behind k acts. -/
def Ck (w0 : World) (g sz m k : Nat) (ts : Things) (wr : World) : Prop := ∃ v cs ask, Cs w0 g sz v m ts cs ask wr ∧ (keysF ts).Nodup ∧ ask ≤ k ∧ cs.length ≤ k
set_option maxRecDepth 100000 in
set_option maxHeartbeats 4000000 in
theorem forgets_walk (w : World) (a0 : Int) (A1 : Option Addr) (c1 : Nat) (l1 : List Wish) (S1 : Sk w A1 l1) (a2 : ByteArray) (ha2 : a2.size ≤ maxLen) :
    Calls Try.prog 6 #[.int .i64 a0, .slice A1 l1.length c1, .string a2] w fun e w' => e = .returned (.bool true) ∧ Below w.heap.size w w' := by
  have HS := Lib.hid S1
  clear S1
  go_enter Try.func6, Try.ntmps6
  go_wp2_with fail
  refine (cworks_any _).mono ?_
  rintro e w1 ⟨rfl, hb1⟩
  have HB1 := Lib.hid hb1
  clear hb1
  go_wp2_with fail
  refine (cnew_any a0 w w1 ⟨HB1.out, HB1.out.size⟩).mono ?_
  rintro e w2 ⟨rfl, hM, hb2⟩
  have H2 := Lib.hid hM
  clear hM hb2
  go_wp2_with fail
  refine (cfew_any A1 c1 l1 w2 (HS.out.below H2.out.bl.1)).mono ?_
  rintro e w3 ⟨rfl, rfl⟩
  rcases hf : cfewF l1 with _ | _
  · go_wp2_with fail
    go_ret
    exact ⟨rfl, H2.out.bl.1⟩
  · obtain ⟨hl200, hks⟩ := cfewF_true hf
    have HKS := Lib.hid hks
    clear hf hks
    obtain ⟨sz, hsz⟩ : ∃ s, s = sizeOfC a0 := ⟨_, rfl⟩
    rw [← hsz] at H2
    clear hsz
    go_wp2_with fail
    generalize w1.heap.size = m at *
    go_loopw [10] (fun vi wr => ∃ k : Nat, vi = .int .i64 (k : Int) ∧ k ≤ l1.length ∧ Hid (∃ ts, Ck w (m + 1) sz m k ts wr)) (fun vi _ => l1.length - (intOf vi).toNat)
    case atStart => exact ⟨0, rfl, Nat.zero_le _, Lib.hid ⟨[], _, [], 0, H2.out, by simp [keysF], Nat.le_refl _, Nat.le_refl _⟩⟩
    case round =>
      obtain ⟨k, rfl, hk, HM⟩ := hrel
      obtain ⟨ts, v, cs, ask, hC, hnd, hask, hcl⟩ := HM.out
      have H := Lib.hid hC
      have HND := Lib.hid hnd
      clear HM hC hnd
      by_cases hlt : k < l1.length
      · obtain ⟨a, ha⟩ : ∃ a, l1[k]? = some a := ⟨_, List.getElem?_eq_getElem hlt⟩
        have hkey : a.key.size ≤ maxLen := by have := (HKS.out a (List.mem_of_getElem? ha)).1; unfold maxLen; omega
        obtain ⟨b, o, rfl, hbl, d0, d1, d2⟩ := (HS.out.below H.out.bl.1).at_ k a ha
        obtain ⟨ak, key, value⟩ := a
        simp only at d0 d1 d2 hkey
        have SK : Hid (∀ W : World, Below w.heap.size w W → W.cell? ⟨b, o + k * 3 + 1, none⟩ = some (.string key) ∧ W.cell? ⟨b, o + k * 3 + 2, none⟩ = some (.string value)) := Lib.hid (fun W hW => by
          obtain ⟨b', o', he, _, _, e1, e2⟩ := (HS.out.below hW).at_ k _ ha
          cases he
          exact ⟨e1, e2⟩)
        have j1 : (k : Int) < (l1.length : Int) := by omega
        have wk : IntKind.i64.wrap ((k : Int) + 1) = (k : Int) + 1 := IntWalk.i64_in _ (by omega)
        clear ha
        by_cases hk0 : ak = 0
        · subst hk0
          go_wp2_with fail
          refine (get_any key hkey (by omega) (by omega) H.out).mono ?_
          rintro e w4 ⟨rfl, h4, _⟩
          have H4 := Lib.hid h4
          have CNT := Lib.hid (get_counts sz ts cs ask key)
          clear h4
          go_wp2_with fail
          refine ⟨⟨k + 1, by go_num, by omega, Lib.hid ⟨_, _, _, _, H4.out, nodup_get HND.out sz cs ask key, by have := CNT.out.2; omega, by have := CNT.out.1; omega⟩⟩, by simp [intOf]; omega⟩
        · have OFF := Lib.hid (fun W (h : Cs w (m + 1) sz v m ts cs ask W) => offer_any key value hkey h)
          have BD : Hid (Below w.heap.size w wr.drew) := Lib.hid (H.out.drewN 1).bl.1
          have HD : Hid (Cs w (m + 1) sz v m ts cs ask wr.drew) := Lib.hid (H.out.drewN 1)
          go_wp2_with fail
          go_region_held3 (fun W => W.cell? ⟨b, o + k * 3 + 1, none⟩ = some (.string key) ∧ W.cell? ⟨b, o + k * 3 + 2, none⟩ = some (.string value)) (first | exact SK.out _ BD.out | exact SK.out _ B4.out)
            (first
              | (go_at_call 20; refine (OFF.out _ HD.out).mono ?_; rintro e w4 ⟨rfl, v4, h4, _, _⟩; have H4 := Lib.hid h4; have B4 := Lib.hid h4.bl.1; clear h4))
          go_wp2_with fail
          refine ⟨⟨k + 1, by go_num, by omega, Lib.hid ⟨_, _, _, _, H4.out, nodup_offer HND.out sz cs key value, by omega, by omega⟩⟩, by simp [intOf]; omega⟩
      · obtain rfl : k = l1.length := by omega
        go_wp2_with fail
        refine (keys_any H.out).mono ?_
        rintro e w4 ⟨vk, rfl, hk4, hb4⟩
        obtain ⟨Ak, ck, hvk, _, hSk⟩ := Strs.of_own hk4
        have H4 := Lib.hid (H.out.below hb4)
        have SKK := Lib.hid hSk
        obtain ⟨KS, hKS⟩ : ∃ K, K = keysF ts := ⟨_, rfl⟩
        rw [← hKS] at hvk SKK
        have hKl : KS.length ≤ 64 := by have h1 := H.out.len; have h2 := H.out.top; rw [hKS]; unfold keysF; rw [List.length_map]; omega
        have HKL := Lib.hid hKS
        subst hvk
        clear hk4 hb4 hSk hKS H
        go_wp2_with fail
        go_loopw [11, 13] (fun vw vi wr => ∃ k : Nat, vi = .int .i64 (k : Int) ∧ k ≤ KS.length ∧ Hid (wr.ownsRow w4.heap.size 9 1 vw ((KS.take k).filter (fun y => ¬ y = a2)).length (((KS.take k).filter (fun y => ¬ y = a2)).map Value.string)) ∧ Hid (Bl w4.heap.size w4 wr)) (fun _ vi _ => KS.length - (intOf vi).toNat)
        case atStart => exact ⟨0, rfl, Nat.zero_le _, Lib.hid ⟨rfl, .inl ⟨rfl, rfl⟩⟩, Lib.hid (Bl.start w4)⟩
        case round =>
          obtain ⟨k, rfl, hk, HO, HBL⟩ := hrel
          by_cases hlt2 : k < KS.length
          · obtain ⟨b, o, rfl, _, d0⟩ := (SKK.out.below HBL.out.1).at_ k hlt2
            obtain ⟨x, hx⟩ : ∃ x, x = KS[k] := ⟨_, rfl⟩
            rw [← hx] at d0
            have hstep : KS.take (k + 1) = KS.take k ++ [x] := by rw [List.take_succ_eq_append_getElem hlt2, hx]
            have j1 : (k : Int) < (KS.length : Int) := by omega
            have wk : IntKind.i64.wrap ((k : Int) + 1) = (k : Int) + 1 := IntWalk.i64_in _ (by omega)
            obtain ⟨Fk, hFk⟩ : ∃ F, F = (KS.take k).filter (fun y => ¬ y = a2) := ⟨_, rfl⟩
            have hFl : Fk.length ≤ 64 := by rw [hFk]; have := List.length_filter_le (fun y => decide (¬ y = a2)) (KS.take k); rw [List.length_take] at this; omega
            have HST := Lib.hid hstep
            have HFK := Lib.hid hFk
            rw [← hFk] at HO
            clear hx hstep hFk
            by_cases hxa : x = a2
            · have hbe : (x.toList == a2.toList) = true := by rw [bytes_eq]; simp [hxa]
              have HXA := Lib.hid hxa
              clear hxa
              go_wp2_with fail
              refine ⟨⟨k + 1, by go_num, by omega, Lib.hid ?_, HBL⟩, by simp [intOf]; omega⟩
              rw [HST.out, List.filter_append, ← HFK.out, List.filter_cons_of_neg (by simp [HXA.out]), List.filter_nil, List.append_nil]
              exact HO.out
            · have hbe : (x.toList == a2.toList) = false := by rw [bytes_eq]; simp [hxa]
              have HXA := Lib.hid hxa
              have N1 : Hid (Fk.length + [x].length ≤ 1000000) := Lib.hid (by simp; omega)
              have B1 : Hid (Bl w4.heap.size w4 (wr.alloc (.cells #[.string x] 9))) := Lib.hid (HBL.out.alloc _)
              clear hxa
              go_wp2_with (at_builtin; refine wpList_append_strs rfl _ _ rfl rfl w4.heap.size _ _ Fk [x] rfl rfl (World.ownsRow.alloc HO.out _) (one_lit _ x) N1.out B1.out.2 ?_; intro v5 w5 own5 gr5 _; have b5 := B1.out.grownRow (World.ownsRow.alloc HO.out _) (Nat.le_refl _) gr5; have B5 := Lib.hid b5; have O5 := Lib.hid own5; clear own5 gr5 b5)
              refine ⟨⟨k + 1, by go_num, by omega, Lib.hid ?_, B5⟩, by simp [intOf]; omega⟩
              rw [HST.out, List.filter_append, ← HFK.out, List.filter_cons_of_pos (by simpa using HXA.out), List.filter_nil]
              exact O5.out
          · obtain rfl : k = KS.length := by omega
            obtain ⟨FK, hFK⟩ : ∃ F, F = KS.filter (fun y => ¬ y = a2) := ⟨_, rfl⟩
            rw [List.take_length, ← hFK] at HO
            have hfk := forget_keys (key := a2) HND.out
            rw [← HKL.out, ← hFK] at hfk
            have hFl : FK.length ≤ KS.length := by rw [hFK]; exact List.length_filter_le _ _
            have hlt3 : (FK.length < KS.length) ↔ a2 ∈ KS := by
              constructor
              · intro h
                rcases Classical.em (a2 ∈ KS) with hm | hm
                · exact hm
                · rw [hFK, List.filter_eq_self.2 (fun y hy => by have : ¬ y = a2 := fun e => hm (by rw [← e]; exact hy); simpa using this)] at h
                  omega
              · intro hm
                rw [hFK]
                exact List.length_filter_lt_length_iff_exists.2 ⟨a2, hm, by simp⟩
            obtain ⟨bb, hbb⟩ : ∃ b, b = (forgetF ts a2).2 := ⟨_, rfl⟩
            have hcase : bb = decide (FK.length < KS.length) := by
              rw [Bool.eq_iff_iff, decide_eq_true_iff, hlt3, hbb]
              exact hfk.2
            obtain ⟨TS2, hTS2⟩ : ∃ T, T = (forgetF ts a2).1 := ⟨_, rfl⟩
            have hk2 : keysF TS2 = FK := by rw [hTS2]; exact hfk.1
            have hfor2 : forgetF TS2 a2 = (TS2, false) := by
              have h3 := (forget_keys (key := a2) (ts := TS2) (by rw [hTS2]; exact nodup_forget HND.out a2)).2
              rw [hk2, hFK] at h3
              have h4 : ¬ (forgetF TS2 a2).2 = true := fun h => by have := h3.1 h; simp at this
              unfold forgetF at h4 ⊢
              split
              · rfl
              · next hne => rw [if_neg hne] at h4; exact absurd rfl h4
            have H5 := Lib.hid (H4.out.below HBL.out.1)
            have HFOR : Hid (∀ W, Cs w (m + 1) sz v m ts cs ask W → Calls Try.prog 22 #[.pointer (some ⟨m + 1, 0, none⟩), .string a2] W fun e w' => e = .returned (.bool bb) ∧ Cm w (m + 1) sz v m TS2 cs ask W w') := Lib.hid (fun W h => by rw [hbb, hTS2]; exact forget_any a2 h)
            obtain ⟨Aw, cw, hvw, _, hSw⟩ := Strs.of_own HO.out
            have HK2 := Lib.hid hk2
            have HF2 := Lib.hid hfor2
            have HCA := Lib.hid hcase
            have HOWN := HO
            subst hvw
            clear hfk hlt3 hbb hTS2 hk2 hfor2 hcase hFK hSw HO
            have hFl2 : FK.length ≤ 64 := by omega
            go_wp2_with fail
            refine (often_any a2 ha2 H5.out).mono ?_
            rintro e w5 ⟨rfl, rfl⟩
            go_wp2_with fail
            refine (HFOR.out _ H5.out).mono ?_
            rintro e w5 ⟨rfl, v5, h5, F5, _⟩
            have H6 := Lib.hid h5
            have hw5 : w5.ownsRow w4.heap.size 9 1 (.slice Aw FK.length cw) FK.length (FK.map Value.string) := own_far HOWN.out F5 (fun i hi h => by
              have h1 := (HOWN.out.lt i hi).1
              rcases h with h | h | h
              · have := H4.out.blk.lt; omega
              · have := (H4.out.row.lt i h).2; omega
              · have := H4.out.map.lt; omega)
            have SW := Lib.hid (Strs.of_own hw5)
            have hKl2 : KS.length ≤ 64 := hKl
            clear hw5 h5 F5
            have fin : ∀ W, Cs w (m + 1) sz v5 m TS2 cs ask W → Below w5.heap.size w5 W → True := fun _ _ _ => trivial
            clear fin
            have OFT := Lib.hid (fun W (h : Cs w (m + 1) sz v5 m TS2 cs ask W) => often_any a2 ha2 h)
            by_cases hlt4 : FK.length < KS.length
            · have e := HCA.out
              rw [decide_eq_true hlt4] at e
              subst e
              have i1 : (FK.length : Int) < (KS.length : Int) := by omega
              have HD4 := Lib.hid hlt4
              clear hlt4
              go_wp2_with fail
              refine (keys_any H6.out).mono ?_
              rintro e w6 ⟨vq, rfl, hq6, hb6⟩
              rw [HK2.out] at hq6
              obtain ⟨Aq, cq, hvq, _, hSq⟩ := Strs.of_own hq6
              have H7 := Lib.hid (H6.out.below hb6)
              have SQ := Lib.hid hSq
              obtain ⟨Aw2, cw2, hw2, _, hSw2⟩ := SW.out
              cases hw2
              have SW6 := Lib.hid (hSw2.below hb6)
              subst hvq
              clear hq6 hb6 hSq hSw2
              go_wp2_with fail
              refine (same_any Aq Aw cq cw FK FK w6 SQ.out SW6.out (by omega) (by omega)).mono ?_
              rintro e w7 ⟨rfl, q, rfl⟩
              rw [show decide (FK = FK) = true from decide_eq_true rfl]
              have H8 := Lib.hid (H7.out.drewN q)
              generalize w6.drewN q = W8 at *
              go_wp2_with fail
              refine (OFT.out _ H8.out).mono ?_
              rintro e w9 ⟨rfl, rfl⟩
              go_wp2_with fail
              refine (forget_any a2 H8.out).mono ?_
              rw [HF2.out]
              rintro e w10 ⟨rfl, v10, h10, _, _⟩
              have H10 := Lib.hid h10.bl.1
              clear h10
              dsimp only
              go_wp2_with fail
              go_ret
              exact ⟨by first | rfl | simp [Act.eval, Act.put, HD4.out], H10.out⟩
            · have e := HCA.out
              rw [decide_eq_false hlt4] at e
              subst e
              have i1 : ¬ (FK.length : Int) < (KS.length : Int) := by omega
              have HD4 := Lib.hid hlt4
              clear hlt4
              go_wp2_with fail
              refine (keys_any H6.out).mono ?_
              rintro e w6 ⟨vq, rfl, hq6, hb6⟩
              rw [HK2.out] at hq6
              obtain ⟨Aq, cq, hvq, _, hSq⟩ := Strs.of_own hq6
              have H7 := Lib.hid (H6.out.below hb6)
              have SQ := Lib.hid hSq
              obtain ⟨Aw2, cw2, hw2, _, hSw2⟩ := SW.out
              cases hw2
              have SW6 := Lib.hid (hSw2.below hb6)
              subst hvq
              clear hq6 hb6 hSq hSw2
              go_wp2_with fail
              refine (same_any Aq Aw cq cw FK FK w6 SQ.out SW6.out (by omega) (by omega)).mono ?_
              rintro e w7 ⟨rfl, q, rfl⟩
              rw [show decide (FK = FK) = true from decide_eq_true rfl]
              have H8 := Lib.hid (H7.out.drewN q)
              generalize w6.drewN q = W8 at *
              go_wp2_with fail
              refine (OFT.out _ H8.out).mono ?_
              rintro e w9 ⟨rfl, rfl⟩
              go_wp2_with fail
              refine (forget_any a2 H8.out).mono ?_
              rw [HF2.out]
              rintro e w10 ⟨rfl, v10, h10, _, _⟩
              have H10 := Lib.hid h10.bl.1
              clear h10
              dsimp only
              go_wp2_with fail
              go_ret
              exact ⟨by first | rfl | simp [Act.eval, Act.put, HD4.out], H10.out⟩
end Go.Proofs.Ytplahkhohhbgaaa
