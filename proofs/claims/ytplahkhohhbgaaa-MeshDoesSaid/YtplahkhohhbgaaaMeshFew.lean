/-
  The law's package: whether acts are few; the document's example.
-/
import Derived.Test.YtplahkhohhbgaaaMeshDo
namespace Go.Proofs.Ytplahkhohhbgaaa
open Go.RowKit Go.Proofs.Msh
set_option linter.unusedVariables false
set_option linter.unusedSimpArgs false
/-- Acts that lie in memory. -/
def Sa (w : World) (A : Option Addr) (l : List Deed) : Prop := l = [] ∨ ∃ b o, A = some ⟨b, o, none⟩ ∧ b < w.heap.size ∧ ∀ j a, l[j]? = some a →
  w.cell? ⟨b, o + j * 4, none⟩ = some (.int .i64 a.k) ∧ w.cell? ⟨b, o + j * 4 + 1, none⟩ = some (.string a.s) ∧ w.cell? ⟨b, o + j * 4 + 2, none⟩ = some (.int .i64 a.n) ∧ w.cell? ⟨b, o + j * 4 + 3, none⟩ = some (.int .i64 a.to)
theorem Sa.below {w w' : World} {A : Option Addr} {l : List Deed} {B : Nat} (h : Sa w A l) (k : Below w.heap.size w w') : Sa w' A l := by
  rcases h with h | ⟨b, o, rfl, hb, hc⟩
  · exact .inl h
  · refine .inr ⟨b, o, rfl, Nat.lt_of_lt_of_le hb k.size, fun j a ha => ?_⟩
    obtain ⟨h0, h1, h2, h3⟩ := hc j a ha
    exact ⟨(k.cell (p := ⟨b, _, none⟩) hb).trans h0, (k.cell (p := ⟨b, _, none⟩) hb).trans h1, (k.cell (p := ⟨b, _, none⟩) hb).trans h2, (k.cell (p := ⟨b, _, none⟩) hb).trans h3⟩
theorem Sa.at_ {w : World} {A : Option Addr} {l : List Deed} (h : Sa w A l) (k : Nat) (a : Deed) (ha : l[k]? = some a) : ∃ b o, A = some ⟨b, o, none⟩ ∧ b < w.heap.size ∧
    w.cell? ⟨b, o + k * 4, none⟩ = some (.int .i64 a.k) ∧ w.cell? ⟨b, o + k * 4 + 1, none⟩ = some (.string a.s) ∧ w.cell? ⟨b, o + k * 4 + 2, none⟩ = some (.int .i64 a.n) ∧ w.cell? ⟨b, o + k * 4 + 3, none⟩ = some (.int .i64 a.to) := by
  rcases h with h | ⟨b, o, h1, h2, h3⟩
  · subst h; simp at ha
  · exact ⟨b, o, h1, h2, h3 k a ha⟩
def fewF (l : List Deed) : Bool := decide (l.length ≤ 100 ∧ ∀ a ∈ l, a.s.size ≤ 100)
set_option maxHeartbeats 1000000 in
theorem few_any (A : Option Addr) (c : Nat) (l : List Deed) (w : World) (hS : Sa w A l) :
    Calls Try.prog 32 #[.slice A l.length c] w fun e w' => e = .returned (.bool (fewF l)) ∧ w = w' := by
  have HS := Lib.hid hS
  clear hS
  go_enter Try.func32, Try.ntmps32
  go_wp2_with fail
  go_loopw [3] (fun vi wr => ∃ k : Nat, vi = .int .i64 (k : Int) ∧ k ≤ l.length ∧ Hid (∀ j a, j < k → l[j]? = some a → a.s.size ≤ 100) ∧ wr = w) (fun vi _ => l.length - (intOf vi).toNat)
  case atStart => exact ⟨0, rfl, Nat.zero_le _, Lib.hid (fun j a h => absurd h (by omega)), rfl⟩
  case round =>
    obtain ⟨k, rfl, hk, ht, rfl⟩ := hrel
    by_cases hlt : k < l.length
    · by_cases h100 : k ≤ 100
      · obtain ⟨a, ha⟩ : ∃ a, l[k]? = some a := ⟨_, List.getElem?_eq_getElem hlt⟩
        obtain ⟨b, o, rfl, _, c0, c1, c2, c3⟩ := HS.out.at_ k a ha
        obtain ⟨ak, s, an, ato⟩ := a
        simp only at c0 c1 c2 c3
        have i1 : (k : Int) < (l.length : Int) := by omega
        have i2 : (k : Int) ≤ 100 := by omega
        have HA := Lib.hid ha
        clear ha
        by_cases hs : s.size ≤ 100
        · have wk : IntKind.i64.wrap ((k : Int) + 1) = (k : Int) + 1 := IntWalk.i64_in _ (by omega)
          have i3 : ¬ (100 : Int) < (s.size : Int) := by omega
          go_wp2_with fail
          refine ⟨⟨k + 1, by go_num, by omega, Lib.hid ?_, trivial⟩, ?_⟩
          · intro j a hj hja
            rcases Nat.lt_or_ge j k with h | h
            · exact ht.out j a h hja
            · obtain rfl : j = k := by omega
              rw [HA.out] at hja
              cases hja
              exact hs
          · simp [intOf]; omega
        · have i3 : (100 : Int) < (s.size : Int) := by omega
          go_wp2_with fail
          go_ret
          exact ⟨ret_bool (Eq.symm (decide_eq_false (fun h => by have := h.2 _ (List.mem_of_getElem? HA.out); simp at this; omega))), rfl⟩
      · have i2 : ¬ (k : Int) ≤ 100 := by omega
        go_wp2_with fail
        go_ret
        exact ⟨ret_bool (by unfold fewF; rw [decide_eq_decide]; constructor <;> intro h <;> omega), rfl⟩
    · obtain rfl : k = l.length := by omega
      go_wp2_with fail
      go_ret
      refine ⟨ret_bool ?_, rfl⟩
      unfold fewF
      rw [decide_eq_decide]
      constructor
      · intro h
        refine ⟨by omega, fun a ha => ?_⟩
        obtain ⟨j, hj⟩ := List.getElem?_of_mem ha
        exact ht.out j a (List.getElem?_eq_some_iff.1 hj).1 hj
      · intro h
        omega
theorem fewF_true {l : List Deed} (h : fewF l = true) : l.length ≤ 100 ∧ ∀ a ∈ l, a.s.size ≤ 100 := of_decide_eq_true h
set_option maxHeartbeats 2000000 in
theorem works_any (w : World) :
    Calls Try.prog 30 #[] w fun e w' => e = .returned (.bool true) ∧ Below w.heap.size w w' := by
  go_enter Try.func30, Try.ntmps30
  go_wp2_with fail
  refine (new_any 2 w w ⟨Below.refl _ _, Nat.le_refl _⟩).mono ?_
  rintro e w1 ⟨rfl, hM, hb⟩
  have hr : roomOf 2 = 2 := rfl
  rw [hr] at hM
  have H0 := Lib.hid hM
  clear hM hb hr
  go_wp2_with fail
  refine (send_any (r := 2) (xs := []) ⟨#[97]⟩ H0.out).mono ?_
  rintro e w2 ⟨rfl, v2, hM, _, _⟩
  replace hM : Ms w w.heap.size 2 v2 [⟨#[97]⟩] w2 := hM
  have H2 := Lib.hid hM
  clear hM H0
  simp only [show (sendF 2 [] ⟨#[97]⟩).2 = true from rfl]
  go_wp2_with fail
  refine (send_any (r := 2) ⟨#[98]⟩ H2.out).mono ?_
  rintro e w3 ⟨rfl, v3, hM, _, _⟩
  replace hM : Ms w w.heap.size 2 v3 [⟨#[97]⟩, ⟨#[98]⟩] w3 := hM
  have H3 := Lib.hid hM
  clear hM H2
  simp only [show (sendF 2 [⟨#[97]⟩] ⟨#[98]⟩).2 = true from rfl]
  go_wp2_with fail
  refine (send_any (r := 2) ⟨#[99]⟩ H3.out).mono ?_
  rintro e w4 ⟨rfl, v4, hM, _, _⟩
  replace hM : Ms w w.heap.size 2 v4 [⟨#[97]⟩, ⟨#[98]⟩] w4 := hM
  have H4 := Lib.hid hM
  clear hM H3
  simp only [show (sendF 2 [⟨#[97]⟩, ⟨#[98]⟩] ⟨#[99]⟩).2 = false from rfl]
  go_wp2_with fail
  refine (take_any (r := 2) 1 H4.out).mono ?_
  rintro e w5 ⟨rfl, v5, hM, _, _⟩
  replace hM : Ms w w.heap.size 2 v5 [⟨#[97]⟩] w5 := hM
  have H5 := Lib.hid hM
  clear hM H4
  simp only [show (takeF [⟨#[97]⟩, ⟨#[98]⟩] 1).2.1 = ⟨#[98]⟩ from rfl, show (takeF [⟨#[97]⟩, ⟨#[98]⟩] 1).2.2 = true from rfl]
  go_wp2_with fail
  refine (double_any (r := 2) 0 H5.out).mono ?_
  rintro e w6 ⟨rfl, v6, hM, _, _⟩
  replace hM : Ms w w.heap.size 2 v6 [⟨#[97]⟩, ⟨#[97]⟩] w6 := hM
  have H6 := Lib.hid hM
  clear hM H5
  simp only [show (doubleF 2 [⟨#[97]⟩] 0).2 = true from rfl]
  go_wp2_with fail
  refine (drop_any (r := 2) 0 H6.out).mono ?_
  rintro e w7 ⟨rfl, v7, hM, _, _⟩
  replace hM : Ms w w.heap.size 2 v7 [⟨#[97]⟩] w7 := hM
  have H7 := Lib.hid hM
  clear hM H6
  simp only [show (takeF [⟨#[97]⟩, ⟨#[97]⟩] 0).2.2 = true from rfl]
  go_wp2_with fail
  refine (move_all (r := 2) 0 0 H7.out).mono ?_
  rintro e w8 ⟨rfl, v8, hM, _, _⟩
  replace hM : Ms w w.heap.size 2 v8 [⟨#[97]⟩] w8 := hM
  have H8 := Lib.hid hM
  clear hM H7
  simp only [show (moveF [⟨#[97]⟩] 0 0).2 = true from rfl]
  go_wp2_with fail
  refine (take_any (r := 2) 5 H8.out).mono ?_
  rintro e w9 ⟨rfl, v9, hM, _, _⟩
  replace hM : Ms w w.heap.size 2 v9 [⟨#[97]⟩] w9 := hM
  have H9 := Lib.hid hM
  clear hM H8
  simp only [show (takeF [⟨#[97]⟩] 5).2.1 = ⟨#[]⟩ from rfl, show (takeF [⟨#[97]⟩] 5).2.2 = false from rfl]
  go_wp2_with fail
  refine (count_any ⟨#[97]⟩ H9.out).mono ?_
  rintro e w10 ⟨rfl, q, rfl⟩
  simp only [show cntOf [⟨#[97]⟩] ⟨#[97]⟩ = 1 from rfl]
  go_wp2_with fail
  refine (all_any (H9.out.drewN q)).mono ?_
  rintro e w11 ⟨c, rfl, _, hb⟩
  have HB := Lib.hid hb
  clear hb
  go_wp2_with fail
  go_ret
  refine ⟨rfl, ?_⟩
  have h1 := H9.out.2.2.1
  exact (below_drewN h1.1 q).trans (HB.out.mono (by simpa using h1.2))
end Go.Proofs.Ytplahkhohhbgaaa
