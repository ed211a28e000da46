import Derived.Test.YtgeonbkoihegnaaNibPut
namespace Go.Proofs.Ytgeonbkoihegnaa
open Go.RowKit
/-- nibble.Get's three answers. -/
def getV : Option (List UInt8 × Bool) → Value
  | some (p, leaf) => .tuple #[.string (Nib.bs p), .bool leaf, .bool true]
  | none => .tuple #[.string ⟨#[]⟩, .bool false, .bool false]
theorem get_empty (w : World) :
    Calls Try.prog 18 #[.string ⟨#[]⟩] w fun e w' => e = .returned (.tuple #[.string ⟨#[]⟩, .bool false, .bool false]) ∧ Below w.heap.size w w' := by
  go_enter Try.func18, Try.ntmps18
  go_wp2_with fail
  go_ret3
  exact ⟨rfl, Below.refl _ _⟩
theorem u8_ne (x : UInt8) (k : Nat) (hk : k < 256) (h : x ≠ UInt8.ofNat k) : ((x.toNat : Int) == (k : Int)) = false := by
  rw [beq_eq_false_iff_ne]
  intro e
  apply h
  apply UInt8.toNat_inj.1
  rw [UInt8.toNat_ofNat_of_lt' hk]
  exact_mod_cast e
theorem extract_bs (n : ByteArray) (l m : List UInt8) (k : Nat) (hn : n = Nib.bs (l ++ m)) (hk : k = l.length) : n.extract k n.size = Nib.bs m := by
  subst hn hk
  apply ByteArray.ext
  apply Array.toList_inj.1
  rw [Lib.extract_data, Nib.bs_data, Nib.bs_size, Nib.bs_data]
  simp
set_option maxHeartbeats 1000000 in
theorem get_some (s : ByteArray) (w : World) (hs : s.size ≤ 70368744177664) (x y : UInt8) (r : List UInt8) (hn : Nib.path s.data.toList = x :: y :: r) :
    Calls Try.prog 18 #[.string s] w fun e w' => e = .returned (getV (Nib.get s.data.toList)) ∧ Below w.heap.size w w' := by
  have hne : s.toList.isEmpty = false := by
    cases hl : s.data.toList with
    | nil => rw [hl] at hn; simp [Nib.path] at hn
    | cons a t => rw [ByteArray.toList_eq, hl]; rfl
  obtain ⟨n, hnn⟩ : ∃ n, n = Nib.bs (Nib.path s.data.toList) := ⟨_, rfl⟩
  obtain ⟨v, hv⟩ : ∃ v, v = getV (Nib.get s.data.toList) := ⟨_, rfl⟩
  have hsz : 2 ≤ n.size := by rw [hnn, hn, Nib.bs_size]; simp
  have hsm : n.size ≤ 140737488355328 := by rw [hnn, Nib.bs_size, Nib.path_length, Nib.len_of]; omega
  have e0 : n[0] = x := by subst hnn; simp only [hn]; rfl
  have e1 : n[1] = y := by subst hnn; simp only [hn]; rfl
  have x1 : n.extract 1 n.size = Nib.bs (y :: r) := extract_bs n [x] _ 1 (by rw [hnn, hn]; rfl) rfl
  have x2 : n.extract 2 n.size = Nib.bs r := extract_bs n [x, y] _ 2 (by rw [hnn, hn]; rfl) rfl
  have HN := Lib.hid hnn
  rw [← hv]
  rw [Nib.get, hn, Nib.getN] at hv
  clear hn hnn
  have hcase : x = 3 ∨ x = 1 ∨ (x = 2 ∧ y = 0) ∨ (x = 0 ∧ y = 0) ∨ (x = 2 ∧ y ≠ 0) ∨ (x = 0 ∧ y ≠ 0) ∨ (x ≠ 3 ∧ x ≠ 1 ∧ x ≠ 2 ∧ x ≠ 0) := by
    by_cases h3 : x = 3
    · exact .inl h3
    by_cases h1 : x = 1
    · exact .inr (.inl h1)
    by_cases h2 : x = 2
    · by_cases hy : y = 0
      · exact .inr (.inr (.inl ⟨h2, hy⟩))
      · exact .inr (.inr (.inr (.inr (.inl ⟨h2, hy⟩))))
    by_cases h0 : x = 0
    · by_cases hy : y = 0
      · exact .inr (.inr (.inr (.inl ⟨h0, hy⟩)))
      · exact .inr (.inr (.inr (.inr (.inr (.inl ⟨h0, hy⟩)))))
    exact .inr (.inr (.inr (.inr (.inr (.inr ⟨h3, h1, h2, h0⟩)))))
  rcases hcase with rfl | rfl | ⟨rfl, rfl⟩ | ⟨rfl, rfl⟩ | ⟨rfl, hy⟩ | ⟨rfl, hy⟩ | ⟨h3, h1, h2, h0⟩
  · rw [if_pos rfl] at hv
    have HV := Lib.hid hv
    clear hv
    go_enter Try.func18, Try.ntmps18
    go_wp2_with fail
    refine (path_any s _ hs).mono ?_
    rintro e w' ⟨rfl, hb⟩
    rw [← HN.out]
    go_wp2_with fail
    go_ret3
    exact ⟨by rw [HV.out]; rfl, hb⟩
  · rw [if_neg (by decide), if_pos rfl] at hv
    have HV := Lib.hid hv
    clear hv
    go_enter Try.func18, Try.ntmps18
    go_wp2_with fail
    refine (path_any s _ hs).mono ?_
    rintro e w' ⟨rfl, hb⟩
    rw [← HN.out]
    go_wp2_with fail
    go_ret3
    exact ⟨by rw [HV.out]; rfl, hb⟩
  · rw [if_neg (by decide), if_neg (by decide), if_pos ⟨rfl, rfl⟩] at hv
    have HV := Lib.hid hv
    clear hv
    go_enter Try.func18, Try.ntmps18
    go_wp2_with fail
    refine (path_any s _ hs).mono ?_
    rintro e w' ⟨rfl, hb⟩
    rw [← HN.out]
    go_wp2_with fail
    go_ret3
    exact ⟨by rw [HV.out]; rfl, hb⟩
  · rw [if_neg (by decide), if_neg (by decide), if_neg (by decide), if_pos ⟨rfl, rfl⟩] at hv
    have HV := Lib.hid hv
    clear hv
    go_enter Try.func18, Try.ntmps18
    go_wp2_with fail
    refine (path_any s _ hs).mono ?_
    rintro e w' ⟨rfl, hb⟩
    rw [← HN.out]
    go_wp2_with fail
    go_ret3
    exact ⟨by rw [HV.out]; rfl, hb⟩
  · have t1 := u8_ne y 0 (by omega) hy
    rw [if_neg (by decide), if_neg (by decide), if_neg (fun h => hy h.2), if_neg (fun h => hy h.2)] at hv
    have HV := Lib.hid hv
    clear hv hy
    go_enter Try.func18, Try.ntmps18
    go_wp2_with fail
    refine (path_any s _ hs).mono ?_
    rintro e w' ⟨rfl, hb⟩
    rw [← HN.out]
    go_wp2_with fail
    go_ret3
    exact ⟨by rw [HV.out]; rfl, hb⟩
  · have t1 := u8_ne y 0 (by omega) hy
    rw [if_neg (by decide), if_neg (by decide), if_neg (fun h => hy h.2), if_neg (fun h => hy h.2)] at hv
    have HV := Lib.hid hv
    clear hv hy
    go_enter Try.func18, Try.ntmps18
    go_wp2_with fail
    refine (path_any s _ hs).mono ?_
    rintro e w' ⟨rfl, hb⟩
    rw [← HN.out]
    go_wp2_with fail
    go_ret3
    exact ⟨by rw [HV.out]; rfl, hb⟩
  · have t1 := u8_ne x 3 (by omega) h3
    have t2 := u8_ne x 1 (by omega) h1
    have t3 := u8_ne x 2 (by omega) h2
    have t4 := u8_ne x 0 (by omega) h0
    rw [if_neg h3, if_neg h1, if_neg (fun h => h2 h.1), if_neg (fun h => h0 h.1)] at hv
    have HV := Lib.hid hv
    clear hv h3 h1 h2 h0
    go_enter Try.func18, Try.ntmps18
    go_wp2_with fail
    refine (path_any s _ hs).mono ?_
    rintro e w' ⟨rfl, hb⟩
    rw [← HN.out]
    go_wp2_with fail
    go_ret3
    exact ⟨by rw [HV.out]; rfl, hb⟩
end Go.Proofs.Ytgeonbkoihegnaa
