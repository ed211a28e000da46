import Derived.Test.YtgeonbkoihegnaaDoorRlpFirst
import Derived.Handy
namespace Go.Proofs.YtgeonbkoihegnaaDoor
open Go.RowKit
set_option linter.unusedVariables false
set_option linter.unusedSimpArgs false
theorem slice_mid (s : ByteArray) (f n : Nat) (h : f + n ≤ s.size) (W : World) : (Instr.slice 9 (.string s) (some (.int .i64 (f : Int))) (some (.int .i64 ((f : Int) + (n : Int)))) none).run Tryd.prog W = .ok (.string (s.extract f (f + n))) W := by
  rw [run_slice_string _ _ _ _ _ _ _ Tryd.underlying9 (by omega) (by omega) (by omega)]
  rw [show ((f : Int)).toNat = f from rfl, show ((f : Int) + (n : Int)).toNat = f + n by omega]
theorem slice_from (s : ByteArray) (f n : Nat) (h : f + n ≤ s.size) (W : World) : (Instr.slice 9 (.string s) (some (.int .i64 ((f : Int) + (n : Int)))) none none).run Tryd.prog W = .ok (.string (s.extract (f + n) s.size)) W := by
  rw [run_slice_string_l _ _ _ Tryd.underlying9 _ _ (by omega) (by omega)]
  rw [show ((f : Int) + (n : Int)).toNat = f + n by omega]
theorem extract_size (s : ByteArray) (f n : Nat) (h : f + n ≤ s.size) : (s.extract f (f + n)).size = n := by
  rw [← Nib.len_of, Lib.extract_data]
  simp
  omega
theorem byte_extract (s : ByteArray) (f n i : Nat) (h : f + n ≤ s.size) (hi : i < n) (h1 : i < (s.extract f (f + n)).size) (h2 : f + i < s.size) : (s.extract f (f + n))[i] = s[f + i] := by
  rw [← byte_get, ← byte_get]
  simp [Lib.extract_data]
def firstVal (s : ByteArray) : Except Nat (Bool × Nat × Nat) → Value
  | .error n => .tuple #[.agg #[.bool false, .string ByteArray.empty, .string ByteArray.empty], faultAt n]
  | .ok (l, f, n) => .tuple #[.agg #[.bool l, .string (s.extract f (f + n)), .string (s.extract (f + n) s.size)], .nilIface]
set_option maxRecDepth 100000 in
set_option maxHeartbeats 1000000 in
/-- rlp.first. -/
theorem first_any (s : ByteArray) (w : World) (hs : s.size ≤ 70368744177664) :
    Calls Tryd.prog 27 #[.string s] w fun e w' => e = .returned (firstVal s (Rlp.first s.data.toList)) ∧ Below w.heap.size w w' := by
  by_cases h0 : s.size = 0
  · have hE : s = ByteArray.empty := by
      have := Nib.len_of s
      rw [h0] at this
      exact ByteArray.ext (Array.toList_inj.1 (List.length_eq_zero_iff.1 this))
    subst hE
    have hR : Rlp.first ByteArray.empty.data.toList = .error 0 := rfl
    rw [hR]
    go_enter Tryd.func27, Tryd.ntmps27
    go_wp2_with fail
    go_returns
    exact ⟨rfl, (Below.refl _ _).alloc (Nat.le_refl _) _⟩
  · have h0' : 0 < s.size := by omega
    obtain ⟨r, hl⟩ : ∃ r, s.data.toList = s[0] :: r := by
      rcases h : s.data.toList with _ | ⟨c, r⟩
      · have := Nib.len_of s; rw [h] at this; exact absurd this.symm h0
      · have := byte_get s 0 h0'
        simp only [h, List.getElem_cons_zero] at this
        exact ⟨r, by rw [this]⟩
    have hne : s.toList.isEmpty = false := by rw [ByteArray.toList_eq, hl]; rfl
    have HL := Lib.hid hl
    clear hl
    by_cases h1 : (s[0].toNat : Int) < 128
    · have hR : Rlp.first s.data.toList = .ok (false, 0, 1) := by
        rw [HL.out, Rlp.first, if_pos (by rw [UInt8.lt_iff_toNat_lt]; show _ < 128; omega)]
      rw [hR]
      clear hR
      go_enter Tryd.func27, Tryd.ntmps27
      go_wp2_with fail
      go_region
      all_goals go_wp2_with fail
      go_returns
      exact ⟨rfl, ((Below.refl _ _).alloc (Nat.le_refl _) _).drew⟩
    · obtain ⟨l, hl⟩ : ∃ l : Bool, l = decide ((192 : Int) ≤ (s[0].toNat : Int)) := ⟨_, rfl⟩
      obtain ⟨told, htold⟩ : ∃ told : Nat, told = if l then s[0].toNat - 192 else s[0].toNat - 128 := ⟨_, rfl⟩
      have hc := s[0].toNat_lt
      have hR : Rlp.first s.data.toList = match Rlp.size s.data.toList told with
          | .error e => .error e
          | .ok (f, n) => if l = false ∧ f = 1 ∧ n = 1 ∧ Rlp.own (r.take 1) = true then .error 1 else .ok (l, f, n) := by
        rw [HL.out, Rlp.first, if_neg (by rw [UInt8.lt_iff_toNat_lt]; show ¬ _ < 128; omega)]
        by_cases h2 : s[0] < 192
        · have : l = false := by
            rw [hl]
            rw [UInt8.lt_iff_toNat_lt] at h2
            have h3 : s[0].toNat < 192 := h2
            simp
            omega
          subst this
          have ht : told = s[0].toNat - 128 := by rw [htold]; rfl
          rw [if_pos h2, ht]
          rcases Rlp.size (s[0] :: r) (s[0].toNat - 128) with e | ⟨f, n⟩ <;> simp
        · have : l = true := by
            rw [hl]
            rw [UInt8.lt_iff_toNat_lt] at h2
            have h3 : ¬ s[0].toNat < 192 := h2
            simp
            omega
          subst this
          have ht : told = s[0].toNat - 192 := by rw [htold]; rfl
          rw [if_neg h2, ht]
          rcases Rlp.size (s[0] :: r) (s[0].toNat - 192) with e | ⟨f, n⟩ <;> simp
      have hts : told ≤ 63 := by
        rw [htold, hl]
        split
        · omega
        · next h => simp at h; omega
      have hz := fun W : World => size_any s told W hs (by omega) hts
      have HRR := Lib.hid hR
      have HLL := Lib.hid hl
      have HTO := Lib.hid htold
      clear hR
      rcases hT : Rlp.size s.data.toList told with e | ⟨f, n⟩
      · simp only [hT, sizeVal, faultAt] at hz
        rw [show Rlp.first s.data.toList = .error e by rw [HRR.out, hT]]
        have HZ := Lib.hid hz
        clear hz hT
        rcases l with _ | _
        · have h2 : (s[0].toNat : Int) < 192 := by simpa using hl
          have hd : decide ((192 : Int) ≤ (s[0].toNat : Int)) = false := hl.symm
          have h3 : (s[0].toNat : Int) - 128 = (told : Int) := by simp at htold; omega
          clear hl htold
          go_enter Tryd.func27, Tryd.ntmps27
          go_wp2_with fail
          refine (HZ.out _).mono ?_
          rintro e w1 ⟨rfl, rfl⟩
          go_wp2_with fail
          go_returns
          exact ⟨rfl, ((Below.refl _ _).alloc (Nat.le_refl _) _).alloc (by simp) _⟩
        · have h2 : ¬ (s[0].toNat : Int) < 192 := by simpa using hl
          have hd : decide ((192 : Int) ≤ (s[0].toNat : Int)) = true := hl.symm
          have h3 : (s[0].toNat : Int) - 192 = (told : Int) := by simp at htold; omega
          clear hl htold
          go_enter Tryd.func27, Tryd.ntmps27
          go_wp2_with fail
          refine (HZ.out _).mono ?_
          rintro e w1 ⟨rfl, rfl⟩
          go_wp2_with fail
          go_returns
          exact ⟨rfl, ((Below.refl _ _).alloc (Nat.le_refl _) _).alloc (by simp) _⟩
      · simp only [hT, sizeVal] at hz
        obtain ⟨hf1, hfn⟩ := Rlp.size_ok hT
        rw [Nib.len_of] at hfn
        have HT := Lib.hid hT
        have HZ := Lib.hid hz
        clear hz hT
        have hs1 := slice_mid s f n hfn
        have hs2 := slice_from s f n hfn
        have hXs := extract_size s f n hfn
        obtain ⟨X, hX⟩ : ∃ X, X = s.extract f (f + n) := ⟨_, rfl⟩
        rw [← hX] at hs1 hXs
        rcases l with _ | _
        · have h2 : (s[0].toNat : Int) < 192 := by simpa using hl
          have hd : decide ((192 : Int) ≤ (s[0].toNat : Int)) = false := hl.symm
          have h3 : (s[0].toNat : Int) - 128 = (told : Int) := by simp at htold; omega
          clear hl htold
          by_cases hf : f = 1 ∧ n = 1
          · obtain ⟨rfl, rfl⟩ := hf
            obtain ⟨b, hb⟩ : ∃ b, b = X[0]'(by omega) := ⟨_, rfl⟩
            have hb0 : b = s[1]'(by omega) := by
              rw [hb]
              simp only [hX]
              exact byte_extract s 1 1 0 hfn (by omega) _ _
            have HOwn : Rlp.own (r.take 1) = decide (b.toNat < 128) := by
              have e1 : s.data.toList[1]? = some b := by
                rw [List.getElem?_eq_getElem (by rw [Nib.len_of]; omega), byte_get s 1 (by omega), hb0]
              rw [HL.out] at e1
              rcases r with _ | ⟨b', r'⟩
              · simp at e1
              · simp at e1
                subst e1
                simp [Rlp.own, UInt8.lt_iff_toNat_lt]
            have HX := Lib.hid hX
            have hs1' : ∀ W : World, (Instr.slice 9 (.string s) (some (.int .i64 1)) (some (.int .i64 2)) none).run Tryd.prog W = .ok (.string X) W := hs1
            have hs2' : ∀ W : World, (Instr.slice 9 (.string s) (some (.int .i64 2)) none none).run Tryd.prog W = .ok (.string (s.extract (1 + 1) s.size)) W := hs2
            clear hb0 hX hs1 hs2
            by_cases hlow : b.toNat < 128
            · rw [show Rlp.first s.data.toList = .error 1 by rw [HRR.out, HT.out]; simp [HOwn, hlow]]
              clear HOwn
              have hbi : ((X[0]'(by omega)).toNat : Int) < 128 := by rw [← hb]; omega
              go_enter Tryd.func27, Tryd.ntmps27
              go_wp2_with fail
              refine (HZ.out _).mono ?_
              rintro e w1 ⟨rfl, rfl⟩
              go_wp2_with fail
              go_region
              all_goals go_wp2_with fail
              go_returns
              exact ⟨rfl, (((Below.refl _ _).alloc (Nat.le_refl _) _).alloc (by simp) _).drew⟩
            · rw [show Rlp.first s.data.toList = .ok (false, 1, 1) by rw [HRR.out, HT.out]; simp [HOwn, hlow]]
              clear HOwn
              have hbi : ¬ ((X[0]'(by omega)).toNat : Int) < 128 := by rw [← hb]; omega
              go_enter Tryd.func27, Tryd.ntmps27
              go_wp2_with fail
              refine (HZ.out _).mono ?_
              rintro e w1 ⟨rfl, rfl⟩
              go_wp2_with fail
              go_region
              all_goals go_wp2_with fail
              go_returns
              exact ⟨by rw [HX.out]; first | rfl | (rw [hd]; rfl), (((Below.refl _ _).alloc (Nat.le_refl _) _).alloc (by simp) _).drew⟩
          · rw [show Rlp.first s.data.toList = .ok (false, f, n) by rw [HRR.out, HT.out]; exact if_neg (fun h => hf ⟨h.2.1, h.2.2.1⟩)]
            have HX := Lib.hid hX
            clear hX
            have hf : ((n : Int) == 1) = false ∨ (((n : Int) == 1) = true ∧ ((f : Int) == 1) = false) := by
              by_cases h : n = 1
              · exact .inr ⟨by simp [h], by simp; omega⟩
              · exact .inl (by simp; omega)
            rcases hf with hq | ⟨hq, hq2⟩
            all_goals
              go_enter Tryd.func27, Tryd.ntmps27
              go_wp2_with fail
              refine (HZ.out _).mono ?_
              rintro e w1 ⟨rfl, rfl⟩
              go_wp2_with fail
              go_region
              all_goals go_wp2_with fail
              go_returns
              exact ⟨by rw [HX.out]; first | rfl | (rw [hd]; rfl), (((Below.refl _ _).alloc (Nat.le_refl _) _).alloc (by simp) _).drew⟩
        · rw [show Rlp.first s.data.toList = .ok (true, f, n) by rw [HRR.out, HT.out]; exact if_neg (fun h => by cases h.1)]
          have HX := Lib.hid hX
          clear hX
          have h2 : ¬ (s[0].toNat : Int) < 192 := by simpa using hl
          have hd : decide ((192 : Int) ≤ (s[0].toNat : Int)) = true := hl.symm
          have h3 : (s[0].toNat : Int) - 192 = (told : Int) := by simp at htold; omega
          clear hl htold
          go_enter Tryd.func27, Tryd.ntmps27
          go_wp2_with fail
          refine (HZ.out _).mono ?_
          rintro e w1 ⟨rfl, rfl⟩
          go_wp2_with fail
          go_region
          all_goals go_wp2_with fail
          go_returns
          exact ⟨by rw [HX.out]; first | rfl | (rw [hd]; rfl), (((Below.refl _ _).alloc (Nat.le_refl _) _).alloc (by simp) _).drew⟩
end Go.Proofs.YtgeonbkoihegnaaDoor
