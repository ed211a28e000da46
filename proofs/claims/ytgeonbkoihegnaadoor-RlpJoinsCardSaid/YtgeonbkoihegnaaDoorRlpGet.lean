import Derived.Test.YtgeonbkoihegnaaDoorRlpWhy
namespace Go.Proofs.Rlp
theorem first_ok {s : List UInt8} {l : Bool} {f n : Nat} (h : first s = .ok (l, f, n)) : f + n ≤ s.length ∧ 1 ≤ f + n := by
  rcases s with _ | ⟨c, r⟩
  · simp [first] at h
  · rw [first] at h
    by_cases h1 : c < 128
    · rw [if_pos h1] at h
      simp only [Except.ok.injEq, Prod.mk.injEq] at h
      obtain ⟨_, rfl, rfl⟩ := h
      simp
    · rw [if_neg h1] at h
      by_cases h2 : c < 192
      · rw [if_pos h2] at h
        rcases hs : size (c :: r) (c.toNat - 128) with e | ⟨f', n'⟩
        · simp [hs] at h
        · simp only [hs] at h
          have h3 := size_ok hs
          by_cases h4 : f' = 1 ∧ n' = 1 ∧ own (r.take 1) = true
          · simp [h4] at h
          · rw [if_neg h4] at h
            simp only [Except.ok.injEq, Prod.mk.injEq] at h
            obtain ⟨_, rfl, rfl⟩ := h
            omega
      · rw [if_neg h2] at h
        rcases hs : size (c :: r) (c.toNat - 192) with e | ⟨f', n'⟩
        · simp [hs] at h
        · simp only [hs] at h
          have h3 := size_ok hs
          simp only [Except.ok.injEq, Prod.mk.injEq] at h
          obtain ⟨_, rfl, rfl⟩ := h
          omega
def mid (s : List UInt8) (f n : Nat) : List UInt8 := (s.take (f + n)).drop f
/-- The number that an item is. -/
def getnum (s : List UInt8) : Option Nat :=
  match first s with
  | .error _ => none
  | .ok (_, f, n) => if n > 8 then none else if num (val (mid s f n)) = s then some (val (mid s f n)) else none
theorem getnum_some {s : List UInt8} {v : Nat} (h : getnum s = some v) : num v = s := by
  unfold getnum at h
  split at h
  · cases h
  · split at h
    · cases h
    · split at h
      · next h2 => cases h; exact h2
      · cases h
theorem own_one {l : List UInt8} (h : own l = true) : ∃ b, l = [b] ∧ b < 128 := by
  rcases l with _ | ⟨b, _ | ⟨c, r⟩⟩
  · cases h
  · exact ⟨b, rfl, by simpa [own] using h⟩
  · cases h
/-- The first item, where a short text is put. -/
theorem first_text (b rest : List UInt8) (hb : b.length ≤ 55) : first (text b ++ rest) = if own b then .ok (false, 0, 1) else .ok (false, 1, b.length) := by
  by_cases h : own b = true
  · obtain ⟨c, rfl, hc⟩ := own_one h
    rw [text, if_pos h, if_pos h]
    simp [first, hc]
  · rw [text, if_neg h, if_neg h, head, if_pos hb]
    show first (UInt8.ofNat (128 + b.length) :: (b ++ rest)) = _
    have h1 : (UInt8.ofNat (128 + b.length)).toNat = 128 + b.length := by rw [UInt8.toNat_ofNat']; omega
    rw [first, if_neg (by rw [UInt8.lt_iff_toNat_lt, h1]; show ¬ _ < 128; omega), if_pos (by rw [UInt8.lt_iff_toNat_lt, h1]; show _ < 192; omega), h1]
    rw [show 128 + b.length - 128 = b.length by omega, size, if_pos hb, if_pos (by simp)]
    simp only
    rw [if_neg]
    rintro ⟨_, h2, h3⟩
    apply h
    rcases b with _ | ⟨x, _ | ⟨y, r⟩⟩
    · simp at h2
    · simpa using h3
    · simp at h2
theorem getnum_num (n : Nat) (hn : n < 18446744073709551616) : getnum (num n) = some n := by
  have hl := digs_length n
  have hf := first_text (digs n) [] (by omega)
  rw [List.append_nil] at hf
  have key : ∀ f m, mid (num n) f m = digs n → m ≤ 8 → first (num n) = .ok (false, f, m) → getnum (num n) = some n := by
    intro f m h1 h2 h3
    rw [getnum, h3]
    show (if m > 8 then none else if num (val (mid (num n) f m)) = num n then some (val (mid (num n) f m)) else none) = some n
    rw [if_neg (by omega), h1, val_digs n hn, if_pos rfl]
  by_cases h : own (digs n) = true
  · rw [if_pos h] at hf
    obtain ⟨c, hc, _⟩ := own_one h
    refine key 0 1 ?_ (by omega) hf
    rw [num, text, if_pos h, mid, hc]
    rfl
  · rw [if_neg h] at hf
    refine key 1 (digs n).length ?_ hl hf
    rw [num, text, if_neg h, head, if_pos (by omega), mid]
    show List.drop 1 (List.take (1 + (digs n).length) (_ :: digs n)) = digs n
    rw [Nat.add_comm 1, List.take_succ_cons]
    simp
end Go.Proofs.Rlp
namespace Go.Proofs.YtgeonbkoihegnaaDoor
open Go.RowKit
set_option linter.unusedVariables false
set_option linter.unusedSimpArgs false
theorem toList_inj' {a b : ByteArray} (h : a.toList = b.toList) : a = b := by
  rw [ByteArray.toList_eq, ByteArray.toList_eq] at h
  exact ByteArray.ext (Array.toList_inj.1 h)
def getVal : Option Nat → Value
  | none => .tuple #[.int .u64 0, .int .i64 2]
  | some n => .tuple #[.int .u64 (n : Int), .int .i64 0]
set_option maxRecDepth 100000 in
set_option maxHeartbeats 1000000 in
/-- rlp.GetNum. -/
theorem getnum_any (s : ByteArray) (w : World) (hs : s.size ≤ 70368744177664) :
    Calls Tryd.prog 11 #[.string s] w fun e w' => e = .returned (getVal (Rlp.getnum s.data.toList)) ∧ Below w.heap.size w w' := by
  have hz := first_any s w hs
  rcases hT : Rlp.first s.data.toList with e | ⟨l, f, n⟩
  · have hR : Rlp.getnum s.data.toList = none := by rw [Rlp.getnum, hT]
    rw [hR]
    simp only [hT, firstVal, faultAt] at hz
    have HZ := Lib.hid hz
    clear hz hT hR
    go_enter Tryd.func11, Tryd.ntmps11
    go_wp2_with fail
    refine HZ.out.mono ?_
    rintro e w1 ⟨rfl, bw⟩
    have BW := Lib.hid bw
    clear bw
    go_wp2_with fail
    go_returns
    exact ⟨rfl, BW.out.alloc BW.out.size _⟩
  · have hok := (Rlp.first_ok hT).1
    rw [Nib.len_of] at hok
    simp only [hT, firstVal] at hz
    have hX := extract_size s f n hok
    have hXl : (s.extract f (f + n)).data.toList = Rlp.mid s.data.toList f n := by rw [extract_list]; rfl
    obtain ⟨X, hXE⟩ : ∃ X, X = s.extract f (f + n) := ⟨_, rfl⟩
    rw [← hXE] at hz hX hXl
    have hR : Rlp.getnum s.data.toList = if n > 8 then none else if Rlp.num (Rlp.val X.data.toList) = s.data.toList then some (Rlp.val X.data.toList) else none := by
      rw [Rlp.getnum, hT, hXl]
    have HR := Lib.hid hR
    have HZ := Lib.hid hz
    clear hz hT hR hXl hXE
    by_cases h8 : n > 8
    · rw [show Rlp.getnum s.data.toList = none by rw [HR.out, if_pos h8]]
      go_enter Tryd.func11, Tryd.ntmps11
      go_wp2_with fail
      refine HZ.out.mono ?_
      rintro e w1 ⟨rfl, bw⟩
      have BW := Lib.hid bw
      clear bw
      go_wp2_with fail
      go_returns
      exact ⟨rfl, BW.out.alloc BW.out.size _⟩
    · have hv := fun W : World => value_any X W (by omega)
      have hvl : Rlp.val X.data.toList < 18446744073709551616 := by
        have h1 := Rlp.val_lt X.data.toList
        rw [Nib.len_of, hX] at h1
        have h2 : 256 ^ n ≤ 256 ^ 8 := Nat.pow_le_pow_right (by decide) (by omega)
        omega
      obtain ⟨v, hve⟩ : ∃ v, v = Rlp.val X.data.toList := ⟨_, rfl⟩
      rw [← hve] at hvl
      simp only [← hve] at hv
      rw [← hve] at HR
      have hnum := fun W : World => num_any v W hvl
      obtain ⟨Y, hY⟩ : ∃ Y, Y = Nib.bs (Rlp.num v) := ⟨_, rfl⟩
      simp only [← hY] at hnum
      have HV := Lib.hid hv
      have HN := Lib.hid hnum
      have HY := Lib.hid hY
      clear hv hnum hve hY
      by_cases he : Y = s
      · have hq : (Y.toList == s.toList) = true := by rw [he]; exact beq_self_eq_true _
        have hE : Rlp.num v = s.data.toList := by rw [← he, HY.out]; rfl
        rw [show Rlp.getnum s.data.toList = some v by rw [HR.out, if_neg h8, if_pos hE]]
        clear hE
        have HE := Lib.hid he
        clear he
        go_enter Tryd.func11, Tryd.ntmps11
        go_wp2_with fail
        refine HZ.out.mono ?_
        rintro e w1 ⟨rfl, bw⟩
        have BW := Lib.hid bw
        clear bw
        go_wp2_with fail
        refine (HV.out _).mono ?_
        rintro e w2 ⟨rfl, rfl⟩
        go_wp2_with fail
        refine (HN.out _).mono ?_
        rintro e w3 ⟨rfl, bw3⟩
        have BW3 := Lib.hid bw3
        clear bw3
        go_wp2_with fail
        go_returns
        exact ⟨rfl, ((BW.out.alloc BW.out.size _).trans (BW3.out.mono (by have := BW.out.size; simp; omega)))⟩
      · have hq : (Y.toList == s.toList) = false := by
          rw [beq_eq_false_iff_ne]
          intro h
          exact he (toList_inj' h)
        have hE : ¬ Rlp.num v = s.data.toList := by
          intro h
          apply he
          rw [HY.out, h]
          exact Nib.bs_of s
        rw [show Rlp.getnum s.data.toList = none by rw [HR.out, if_neg h8, if_neg hE]]
        clear hE
        have HE := Lib.hid he
        clear he
        go_enter Tryd.func11, Tryd.ntmps11
        go_wp2_with fail
        refine HZ.out.mono ?_
        rintro e w1 ⟨rfl, bw⟩
        have BW := Lib.hid bw
        clear bw
        go_wp2_with fail
        refine (HV.out _).mono ?_
        rintro e w2 ⟨rfl, rfl⟩
        go_wp2_with fail
        refine (HN.out _).mono ?_
        rintro e w3 ⟨rfl, bw3⟩
        have BW3 := Lib.hid bw3
        clear bw3
        go_wp2_with fail
        go_returns
        exact ⟨rfl, ((BW.out.alloc BW.out.size _).trans (BW3.out.mono (by have := BW.out.size; simp; omega)))⟩
end Go.Proofs.YtgeonbkoihegnaaDoor
