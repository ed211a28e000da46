/-
  The walk of the law LeaseClock.
-/
import Derived.Test.YtjladlniilacjaaLeaWorks
namespace Go.Proofs.Lea
theorem finds_clock (t : Tbl) (id : Int) {a b : Int} (h : a ≤ b) :
    ((t.finds id a).2 = 5 ∧ (t.finds id b).2 = 5) ∨ ((t.finds id a).2 = 6 ∧ (t.finds id b).2 = 6) ∨ ((t.finds id a).2 = 0 ∧ (t.finds id b).2 = 6) ∨ ((t.finds id a).2 = 0 ∧ (t.finds id b).2 = 0) := by
  unfold Tbl.finds Tbl.find
  cases t.there id with
  | none =>
    simp only
    by_cases h1 : id ∈ t.ended
    · rw [if_pos h1]; exact .inr (.inl ⟨rfl, rfl⟩)
    · rw [if_neg h1]; exact .inl ⟨rfl, rfl⟩
  | some i =>
    simp only
    by_cases h1 : (t.sl i).s.dead ≤ a ∨ id ∈ t.ended
    · have h2 : (t.sl i).s.dead ≤ b ∨ id ∈ t.ended := h1.imp (fun e => by omega) (fun e => e)
      rw [if_pos h1, if_pos h2]; exact .inr (.inl ⟨rfl, rfl⟩)
    · rw [if_neg h1]
      by_cases h2 : (t.sl i).s.dead ≤ b ∨ id ∈ t.ended
      · rw [if_pos h2]; exact .inr (.inr (.inl ⟨rfl, rfl⟩))
      · rw [if_neg h2]; exact .inr (.inr (.inr ⟨rfl, rfl⟩))
end Go.Proofs.Lea
namespace Go.Proofs.Ytjladlniilacjaa
open Go.RowKit Go.Proofs.Lea
set_option linter.unusedVariables false
set_option linter.unusedSimpArgs false
set_option maxRecDepth 100000 in
set_option maxHeartbeats 4000000 in
theorem clock_walk (w : World) (a0 a1 : Int) (A2 : Option Addr) (c2 : Nat) (l2 : List Deed) (S2 : Lk w A2 l2) (a3 a4 a5 : Int) :
    Calls Try.prog 5 #[.int .i64 a0, .int .i64 a1, .slice A2 l2.length c2, .int .i64 a3, .int .i64 a4, .int .i64 a5] w fun e w' => e = .returned (.bool true) ∧ Below w.heap.size w w' := by
  have HS := Lib.hid S2
  clear S2
  go_enter Try.func5, Try.ntmps5
  go_wp2_with fail
  refine (lworks_any _).mono ?_
  rintro e w1 ⟨rfl, hb1⟩
  have HB1 := Lib.hid hb1
  clear hb1
  go_wp2_with fail
  refine (lv_new (w0 := w) a0 a1 HB1.out).mono ?_
  rintro e w2 ⟨rfl, hM⟩
  have H2 := Lib.hid hM
  clear hM
  generalize w1.heap.size = m at *
  go_wp2_with fail
  refine (lfew_any A2 c2 l2 w2 (HS.out.below H2.out.below)).mono ?_
  rintro e w3 ⟨rfl, rfl⟩
  rcases hf : lfewF l2 with _ | _
  · go_wp2_with fail
    go_ret
    exact ⟨rfl, H2.out.below⟩
  · obtain ⟨hl60, hks⟩ := lfewF_true hf
    have HKS := Lib.hid hks
    clear hf hks
    by_cases b1 : a4 < 0
    · go_wp2_with fail
      go_ret
      exact ⟨rfl, H2.out.below⟩
    · by_cases b2 : a5 < a4
      · go_wp2_with fail
        go_ret
        exact ⟨rfl, H2.out.below⟩
      · by_cases b3 : (1000000 : Int) < a5
        · go_wp2_with fail
          go_ret
          exact ⟨rfl, H2.out.below⟩
        · go_wp2_with fail
          go_loopw [16] (fun vi wr => ∃ k : Nat, vi = .int .i64 (k : Int) ∧ k ≤ l2.length ∧ Hid (∃ t vs ve, Lv w m t vs ve wr)) (fun vi _ => l2.length - (intOf vi).toNat)
          case atStart => exact ⟨0, rfl, Nat.zero_le _, Lib.hid ⟨_, _, _, H2.out⟩⟩
          case round =>
            obtain ⟨k, rfl, hk, HM⟩ := hrel
            obtain ⟨t, vs, ve, hC⟩ := HM.out
            have H := Lib.hid hC
            clear HM hC
            by_cases hlt : k < l2.length
            · obtain ⟨a, ha⟩ : ∃ a, l2[k]? = some a := ⟨_, List.getElem?_eq_getElem hlt⟩
              have hmild := Lib.hid (HKS.out a (List.mem_of_getElem? ha))
              obtain ⟨b, o, rfl, hbl, HC⟩ := (HS.out.below H.out.below).at_ k a ha
              obtain ⟨d0, d1, d2, d3, d4, d5⟩ := HC
              have j1 : (k : Int) < (l2.length : Int) := by omega
              have wk : IntKind.i64.wrap ((k : Int) + 1) = (k : Int) + 1 := IntWalk.i64_in _ (by omega)
              clear ha
              go_wp2_with fail
              refine (do_any H.out a hmild.out).mono ?_
              rintro e w4 ⟨va, rfl, ⟨vs4, ve4, h4, _⟩, _⟩
              have H4 := Lib.hid h4
              clear h4
              go_wp2_with fail
              exact ⟨⟨k + 1, by go_num, by omega, Lib.hid ⟨_, _, _, H4.out⟩⟩, by simp [intOf]; omega⟩
            · obtain rfl : k = l2.length := by omega
              go_wp2_with fail
              refine (lv_find H.out a3 a4).mono ?_
              rintro e w4 ⟨rfl, h⟩
              have H4 := Lib.hid (H.out.call h)
              have hcase := finds_clock t a3 (show a4 ≤ a5 by omega)
              obtain ⟨s1, hs1⟩ : ∃ s, s = (t.finds a3 a4).1 := ⟨_, rfl⟩
              obtain ⟨e1, he1⟩ : ∃ s, s = (t.finds a3 a4).2 := ⟨_, rfl⟩
              rw [← hs1, ← he1]
              rw [← he1] at hcase
              clear h hs1 he1
              go_wp2_with fail
              have H5 := Lib.hid (H4.out.alloc (.cells #[.int .i64 s1.id, .int .i64 s1.block, .int .i64 s1.dead, .int .i64 s1.last] 29))
              generalize w4.heap.size = g1 at *
              generalize w4.alloc (.cells #[.int .i64 s1.id, .int .i64 s1.block, .int .i64 s1.dead, .int .i64 s1.last] 29) = w5 at *
              refine (lv_find H5.out a3 a5).mono ?_
              rintro e w6 ⟨rfl, h⟩
              have H6 := Lib.hid (H5.out.call h)
              obtain ⟨s2, hs2⟩ : ∃ s, s = (t.finds a3 a5).1 := ⟨_, rfl⟩
              obtain ⟨e2, he2⟩ : ∃ s, s = (t.finds a3 a5).2 := ⟨_, rfl⟩
              rw [← hs2, ← he2]
              rw [← he2] at hcase
              clear h hs2 he2
              have H7 := Lib.hid (H6.out.alloc (.cells #[.int .i64 s2.id, .int .i64 s2.block, .int .i64 s2.dead, .int .i64 s2.last] 29))
              rcases hcase with ⟨rfl, rfl⟩ | ⟨rfl, rfl⟩ | ⟨rfl, rfl⟩ | ⟨rfl, rfl⟩
              all_goals
                go_wp2_with fail
                go_ret
                exact ⟨rfl, H7.out.below⟩
end Go.Proofs.Ytjladlniilacjaa
