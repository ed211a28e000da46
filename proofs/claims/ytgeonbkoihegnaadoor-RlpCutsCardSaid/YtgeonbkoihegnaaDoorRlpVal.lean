import Derived.Test.YtgeonbkoihegnaaDoorRlpNum
namespace Go.Proofs.YtgeonbkoihegnaaDoor
open Go.RowKit
set_option maxRecDepth 100000 in
set_option maxHeartbeats 1000000 in
/-- rlp.value. -/
theorem value_any (b : ByteArray) (w : World) (hb : b.size ≤ 8) :
    Calls Tryd.prog 28 #[.string b] w fun e w' => e = .returned (.int .u64 (Rlp.val b.data.toList : Nat)) ∧ w = w' := by
  go_enter Tryd.func28, Tryd.ntmps28
  go_wp2_with fail
  go_loopw [3, 7] (fun v3 v7 wr => ∃ (k : Nat), k ≤ b.size ∧ v7 = .int .i64 (k : Int) ∧ v3 = .int .u64 ((Rlp.val (b.data.toList.take k) : Nat) : Int) ∧ wr = w) (fun _ v7 _ => b.size - (intOf v7).toNat)
  case atStart => exact ⟨0, Nat.zero_le _, rfl, rfl, rfl⟩
  case round =>
    obtain ⟨k, hk, rfl, rfl, rfl⟩ := hrel
    obtain ⟨n, hn⟩ : ∃ n, n = Rlp.val (b.data.toList.take k) := ⟨_, rfl⟩
    have HN : Hid (n = Rlp.val (b.data.toList.take k)) := hn
    rw [← hn]
    clear hn
    by_cases hlt : k < b.size
    · have HSN : Hid (b.data.toList.take (k + 1) = b.data.toList.take k ++ [b[k]]) := by
        refine Lib.hid ?_
        rw [List.take_succ_eq_append_getElem (by simpa using hlt), byte_get]
      go_wp2_with fail
      refine ⟨⟨k + 1, by omega, by go_num, ?_, trivial⟩, by simp [intOf]; omega⟩
      have hl := Rlp.val_lt (b.data.toList.take k)
      rw [← HN.out] at hl
      have hp : 256 ^ (List.take k b.data.toList).length ≤ 256 ^ 7 := Nat.pow_le_pow_right (by decide) (by simp; omega)
      have hb := b[k].toNat_lt
      rw [HSN.out, Rlp.val_snoc, ← HN.out, IntWalk.u64_in _ (by omega), IntWalk.u64_in _ (by omega), show ((n : Int) * 256) = (n : Int) * 2 ^ 8 from rfl,
        bits_join .u64 64 (by decide) (fun m h0 h1 => IntWalk.u64_in m (by omega)) 8 _ _ (by omega) (by omega) (by omega) (by omega) (by omega) (by omega)]
      congr 1
    · have hk2 : k = b.size := by omega
      subst hk2
      have HE : n = Rlp.val b.data.toList := by rw [HN.out, List.take_of_length_le (by simp)]
      go_wp2_with fail
      go_ret
      exact ⟨by rw [HE]; rfl, rfl⟩
/-- A string of one byte, made of a literal. -/
theorem conv_one (W : World) (d : Int) (b : UInt8) (hd : d = (b.toNat : Int)) : (convert 46 9 (.slice (some ⟨W.heap.size, 0, none⟩) 1 1)).run Tryd.prog (W.alloc (.cells #[.int .u8 d] 5)) = .ok (.string (Nib.bs [b])) (W.alloc (.cells #[.int .u8 d] 5)) := by
  subst hd
  exact conv_lit W [b]
set_option maxRecDepth 100000 in
set_option maxHeartbeats 1000000 in
/-- rlp.head. -/
theorem head_any (t n : Nat) (w : World) (ht : t < 193) (hn : n ≤ 140737488355328) :
    Calls Tryd.prog 32 #[.int .u8 (t : Int), .int .i64 (n : Int)] w fun e w' => e = .returned (.string (Nib.bs (Rlp.head t n))) ∧ Below w.heap.size w w' := by
  by_cases hs : n ≤ 55
  · have hE : Rlp.head t n = [UInt8.ofNat (t + n)] := by rw [Rlp.head, if_pos hs]
    rw [hE]
    have hcv := conv_one w ((t : Int) + (n : Int)) (UInt8.ofNat (t + n)) (by rw [UInt8.toNat_ofNat']; omega)
    clear hE
    generalize Nib.bs [UInt8.ofNat (t + n)] = X at hcv ⊢
    go_enter Tryd.func32, Tryd.ntmps32
    go_wp2_with fail
    go_ret
    exact ⟨rfl, (Below.refl _ _).alloc (Nat.le_refl _) _⟩
  · have hE : Rlp.head t n = UInt8.ofNat (t + 55 + (Rlp.digs n).length) :: Rlp.digs n := by rw [Rlp.head, if_neg hs]
    rw [hE]
    have HDL := Rlp.digs_length n
    obtain ⟨d, hd⟩ : ∃ d, d = Rlp.digs n := ⟨_, rfl⟩
    rw [← hd] at HDL ⊢
    have hc := digits_any n w (by omega)
    rw [← hd] at hc
    have HC := Lib.hid hc
    clear hc hd hE
    have hls : (Nib.bs d).size = d.length := Nib.bs_size d
    obtain ⟨L, hL⟩ : ∃ L, L = d.length := ⟨_, rfl⟩
    rw [← hL] at hls HDL ⊢
    obtain ⟨D, hD⟩ : ∃ D, D = Nib.bs d := ⟨_, rfl⟩
    rw [← hD] at hls HC
    have HLH := Lib.hid hL
    have HDH := Lib.hid hD
    clear hL hD
    have hcv1 := fun w1 => conv_one w1 ((t : Int) + 55 + (L : Int)) (UInt8.ofNat (t + 55 + L)) (by rw [UInt8.toNat_ofNat']; omega)
    have hX : Nib.bs (UInt8.ofNat (t + 55 + L) :: d) = Nib.bs [UInt8.ofNat (t + 55 + L)] ++ D := by
      rw [show UInt8.ofNat (t + 55 + L) :: d = [UInt8.ofNat (t + 55 + L)] ++ d from rfl, Nib.bs_append, ← HDH.out]
    rw [hX]
    clear hX
    have hXs : (Nib.bs [UInt8.ofNat (t + 55 + L)]).size = 1 := Nib.bs_size _
    generalize Nib.bs [UInt8.ofNat (t + 55 + L)] = X at hcv1 hXs ⊢
    have hfit : X.size + D.size ≤ maxLen := by rw [hXs, hls]; simp [maxLen]; omega
    go_enter Tryd.func32, Tryd.ntmps32
    go_wp2_with fail
    refine HC.out.mono ?_
    rintro e w1 ⟨rfl, bw⟩
    have BW := Lib.hid bw
    clear bw
    have hcv := hcv1 w1
    go_wp2_with fail
    go_ret
    exact ⟨rfl, BW.out.alloc BW.out.size _⟩
/-- rlp.Text. -/
theorem text_any (b : ByteArray) (w : World) (hb : b.size ≤ 70368744177664) :
    Calls Tryd.prog 15 #[.string b] w fun e w' => e = .returned (.string (Nib.bs (Rlp.text b.data.toList))) ∧ Below w.heap.size w w' := by
  have hh := head_any 128 b.size w (by omega) (by omega)
  have hHs : (Nib.bs (Rlp.head 128 b.size)).size ≤ 9 := by rw [Nib.bs_size]; exact Rlp.head_length _ _
  obtain ⟨H, hH⟩ : ∃ H, H = Nib.bs (Rlp.head 128 b.size) := ⟨_, rfl⟩
  rw [← hH] at hh hHs
  have hfit : H.size + b.size ≤ maxLen := by simp [maxLen]; omega
  have HHH := Lib.hid hH
  have HH := Lib.hid hh
  clear hh hH
  by_cases h1 : b.size = 1
  · have hl : b.data.toList = [b[0]] := by
      refine List.ext_getElem (by simpa using h1) ?_
      intro i h2 h3
      have : i = 0 := by simp at h3; omega
      subst this
      exact byte_get b 0 (by omega)
    by_cases h2 : (b[0].toNat : Int) < 128
    · have hT : Hid (Rlp.text b.data.toList = b.data.toList) := by
        refine Lib.hid ?_
        rw [Rlp.text, if_pos]
        rw [hl]
        simp [Rlp.own, UInt8.lt_iff_toNat_lt]
        omega
      clear hl
      go_enter Tryd.func15, Tryd.ntmps15
      go_wp2_with fail
      go_ret
      exact ⟨by rw [hT.out]; rfl, Below.refl _ _⟩
    · have hT : Hid (Rlp.text b.data.toList = Rlp.head 128 b.size ++ b.data.toList) := by
        refine Lib.hid ?_
        rw [Rlp.text, if_neg, Nib.len_of]
        rw [hl]
        simp [Rlp.own, UInt8.lt_iff_toNat_lt]
        omega
      clear hl
      go_enter Tryd.func15, Tryd.ntmps15
      go_wp2_with fail
      rw [h1] at HH
      refine HH.out.mono ?_
      rintro e w1 ⟨rfl, bw⟩
      go_wp2_with fail
      go_ret
      refine ⟨?_, bw⟩
      rw [hT.out, Nib.bs_append, Nib.bs_of, ← HHH.out]
      rfl
  · have hT : Hid (Rlp.text b.data.toList = Rlp.head 128 b.size ++ b.data.toList) := by
      refine Lib.hid ?_
      rw [Rlp.text, if_neg, Nib.len_of]
      rcases h3 : b.data.toList with _ | ⟨x, _ | ⟨y, r⟩⟩
      · simp [Rlp.own]
      · exact absurd (by rw [← Nib.len_of, h3]; rfl) h1
      · simp [Rlp.own]
    go_enter Tryd.func15, Tryd.ntmps15
    go_wp2_with fail
    refine HH.out.mono ?_
    rintro e w1 ⟨rfl, bw⟩
    go_wp2_with fail
    go_ret
    refine ⟨?_, bw⟩
    rw [hT.out, Nib.bs_append, Nib.bs_of, ← HHH.out]
    rfl
/-- rlp.Num. -/
theorem num_any (n : Nat) (w : World) (hn : n < 18446744073709551616) :
    Calls Tryd.prog 12 #[.int .u64 (n : Int)] w fun e w' => e = .returned (.string (Nib.bs (Rlp.num n))) ∧ Below w.heap.size w w' := by
  have HD := Lib.hid (digits_any n w hn)
  have HL := Rlp.digs_length n
  go_enter Tryd.func12, Tryd.ntmps12
  go_wp2_with fail
  refine HD.out.mono ?_
  rintro e w1 ⟨rfl, bw⟩
  have HT := Lib.hid (text_any (Nib.bs (Rlp.digs n)) w1 (by rw [Nib.bs_size]; omega))
  have BW := Lib.hid bw
  clear bw
  go_wp2_with fail
  refine HT.out.mono ?_
  rintro e w2 ⟨rfl, bw2⟩
  go_wp2_with fail
  go_ret
  exact ⟨rfl, BW.out.trans (bw2.mono BW.out.size)⟩
end Go.Proofs.YtgeonbkoihegnaaDoor
