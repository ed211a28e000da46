/-
  guillocheref05.In.
-/
import Derived.Test.YtfeonjiiijdibaaGreatDoorGaCaF
import Derived.Test.YtfeonjiiijdibaaGreatDoorCanFirst
namespace Go.Proofs.YtfeonjiiijdibaaGreatDoor
open Go.RowKit Go.Proofs.Nod Go.Proofs.Can
open Go.Proofs.Mdl hiding e0
set_option linter.unusedVariables false
set_option linter.unusedSimpArgs false
theorem mem_take {l : List ByteArray} {k : Nat} {x s : ByteArray} (hx : l[k]? = some x) : s ∈ l.take (k + 1) ↔ s ∈ l.take k ∨ s = x := by
  rw [List.take_add_one, hx]
  simp
/-- Is a text one of some? -/
def inL (l : List ByteArray) (s : ByteArray) : Bool := l.any (fun y => decide (y = s))
theorem inL_yes {l : List ByteArray} {s : ByteArray} (h : s ∈ l) : inL l s = true := List.any_eq_true.2 ⟨s, h, decide_eq_true rfl⟩
theorem inL_no {l : List ByteArray} {s : ByteArray} (h : ¬ s ∈ l) : inL l s = false := by
  cases e : inL l s with
  | false => rfl
  | true =>
    obtain ⟨y, h1, h2⟩ := List.any_eq_true.1 e
    exact absurd (of_decide_eq_true h2 ▸ h1) h
set_option maxRecDepth 100000 in
set_option maxHeartbeats 2000000 in
theorem in_any {w : World} {A : Option Addr} {l : List ByteArray} (c : Nat) (h : Strs w A l) (hl : l.length ≤ 100000) (s : ByteArray) :
    Calls Tryz.prog 36 #[.slice A l.length c, .string s] w fun e w' => e = .returned (.bool (inL l s)) ∧ w' = w := by
  obtain ⟨z, hz⟩ : ∃ z, z = l.length := ⟨_, rfl⟩
  rw [← hz] at hl ⊢
  have HE := Lib.hid h
  have HN := Lib.hid hz
  clear h hz
  go_enter Tryz.func36, Tryz.ntmps36
  go_wp2_with fail
  go_loopw [5] (fun vi wr => ∃ k : Nat, vi = .int .i64 (k : Int) ∧ k ≤ z ∧ Hid (wr = w) ∧ Hid (¬ s ∈ l.take k)) (fun vi _ => z - (intOf vi).toNat)
  case atStart => exact ⟨0, rfl, Nat.zero_le _, Lib.hid rfl, Lib.hid (by simp)⟩
  case round =>
    obtain ⟨k, rfl, hk, HB, NO⟩ := hrel
    obtain rfl := HB.out
    clear HB
    by_cases hlt : k < z
    · have hkl : k < l.length := by rw [← HN.out]; exact hlt
      obtain ⟨b, o, rfl, hbl, d0⟩ := HE.out.at_ k hkl
      obtain ⟨X, hX⟩ : ∃ X, X = l[k] := ⟨_, rfl⟩
      have HX := Lib.hid (show l[k]? = some X by rw [hX]; exact List.getElem?_eq_getElem hkl)
      rw [← hX] at d0
      have i1 : (k : Int) < (z : Int) := by omega
      have wk : IntKind.i64.wrap ((k : Int) + 1) = (k : Int) + 1 := IntWalk.i64_in _ (by omega)
      clear hX
      by_cases he : X = s
      · have be : (X.toList == s.toList) = true := by rw [bytes_eqF]; exact decide_eq_true he
        have HF : Hid (s ∈ l) := Lib.hid (he ▸ List.mem_of_getElem? HX.out)
        clear he
        go_wp2_with fail
        go_ret
        exact ⟨by rw [inL_yes HF.out]; rfl, rfl⟩
      · have be : (X.toList == s.toList) = false := by rw [bytes_eqF]; exact decide_eq_false he
        have HF : Hid (¬ s ∈ l.take (k + 1)) := Lib.hid (fun h => by
          rcases (mem_take HX.out).1 h with h | h
          · exact NO.out h
          · exact he h.symm)
        clear he
        go_wp2_with fail
        exact ⟨⟨k + 1, rfl, hlt, Lib.hid trivial, HF⟩, by simp [intOf]; omega⟩
    · have i1 : ¬ (k : Int) < (z : Int) := by omega
      obtain rfl : k = z := by omega
      have NO2 : Hid (¬ s ∈ l) := Lib.hid (by have := NO.out; rwa [HN.out, List.take_length] at this)
      go_wp2_with fail
      go_ret
      exact ⟨by rw [inL_no NO2.out]; rfl, rfl⟩
end Go.Proofs.YtfeonjiiijdibaaGreatDoor
