/-
  The law's package for cache: whether acts are few.
-/
import Derived.Test.YtplahkhohhbgaaaCacheArgs
namespace Go.Proofs.Ytplahkhohhbgaaa
open Go.RowKit Go.Proofs.Cch
set_option linter.unusedVariables false
set_option linter.unusedSimpArgs false
set_option maxRecDepth 100000 in
set_option maxHeartbeats 1000000 in
theorem cfew_any (A : Option Addr) (c : Nat) (l : List Wish) (w : World) (hS : Sk w A l) :
    Calls Try.prog 16 #[.slice A l.length c] w fun e w' => e = .returned (.bool (cfewF l)) ∧ w = w' := by
  have HS := Lib.hid hS
  clear hS
  go_enter Try.func16, Try.ntmps16
  go_wp2_with fail
  go_loopw [3] (fun vi wr => ∃ k : Nat, vi = .int .i64 (k : Int) ∧ k ≤ l.length ∧ Hid (∀ (j : Nat) (a : Wish), j < k → l[j]? = some a → a.key.size ≤ 50 ∧ a.value.size ≤ 50) ∧ wr = w) (fun vi _ => l.length - (intOf vi).toNat)
  case atStart => exact ⟨0, rfl, Nat.zero_le _, Lib.hid (fun j a h => absurd h (by omega)), rfl⟩
  case round =>
    obtain ⟨k, rfl, hk, ht, rfl⟩ := hrel
    by_cases hlt : k < l.length
    · by_cases h100 : k ≤ 200
      · obtain ⟨a, ha⟩ : ∃ a, l[k]? = some a := ⟨_, List.getElem?_eq_getElem hlt⟩
        obtain ⟨b, o, rfl, _, c0, c1, c2⟩ := HS.out.at_ k a ha
        obtain ⟨ak, s, t⟩ := a
        simp only at c0 c1 c2
        have i1 : (k : Int) < (l.length : Int) := by omega
        have i2 : (k : Int) ≤ 200 := by omega
        have HA := Lib.hid ha
        clear ha
        by_cases hs : s.size ≤ 50
        · have i3 : ¬ (50 : Int) < (s.size : Int) := by omega
          by_cases hs2 : t.size ≤ 50
          · have wk : IntKind.i64.wrap ((k : Int) + 1) = (k : Int) + 1 := IntWalk.i64_in _ (by omega)
            have i4 : ¬ (50 : Int) < (t.size : Int) := by omega
            go_wp2_with fail
            refine ⟨⟨k + 1, by go_num, by omega, Lib.hid ?_, trivial⟩, ?_⟩
            · intro j a hj hja
              rcases Nat.lt_or_ge j k with h | h
              · exact ht.out j a h hja
              · obtain rfl : j = k := by omega
                rw [HA.out] at hja
                cases hja
                exact ⟨hs, hs2⟩
            · simp [intOf]; omega
          · have i4 : (50 : Int) < (t.size : Int) := by omega
            go_wp2_with fail
            go_ret
            exact ⟨ret_bool (Eq.symm (decide_eq_false (fun h => by have := (h.2 _ (List.mem_of_getElem? HA.out)).2; simp at this; omega))), rfl⟩
        · have i3 : (50 : Int) < (s.size : Int) := by omega
          go_wp2_with fail
          go_ret
          exact ⟨ret_bool (Eq.symm (decide_eq_false (fun h => by have := (h.2 _ (List.mem_of_getElem? HA.out)).1; simp at this; omega))), rfl⟩
      · have i2 : ¬ (k : Int) ≤ 200 := by omega
        go_wp2_with fail
        go_ret
        exact ⟨ret_bool (by unfold cfewF; rw [decide_eq_decide]; constructor <;> intro h <;> omega), rfl⟩
    · obtain rfl : k = l.length := by omega
      go_wp2_with fail
      go_ret
      refine ⟨ret_bool ?_, rfl⟩
      unfold cfewF
      rw [decide_eq_decide]
      constructor
      · intro h
        refine ⟨by omega, fun a ha => ?_⟩
        obtain ⟨j, hj⟩ := List.getElem?_of_mem ha
        exact ht.out j a (List.getElem?_eq_some_iff.1 hj).1 hj
      · intro h
        omega
theorem cfewF_true {l : List Wish} (h : cfewF l = true) : l.length ≤ 200 ∧ ∀ a ∈ l, a.key.size ≤ 50 ∧ a.value.size ≤ 50 := of_decide_eq_true h
end Go.Proofs.Ytplahkhohhbgaaa
