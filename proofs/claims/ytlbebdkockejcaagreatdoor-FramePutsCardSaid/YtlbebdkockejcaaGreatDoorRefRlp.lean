/-
  The document's Join of rlp.
-/
import Derived.Test.YtlbebdkockejcaaGreatDoorRefRlpP
import Derived.Test.YtlbebdkockejcaaGreatDoorGaNibM
import Derived.Test.YtlbebdkockejcaaGreatDoorGaFar
namespace Go.Proofs.YtlbebdkockejcaaGreatDoor
open Go.RowKit Go.Proofs.Rlp
set_option linter.unusedVariables false
set_option linter.unusedSimpArgs false
set_option maxRecDepth 100000 in
set_option maxHeartbeats 2000000 in
theorem rjoin_any {w : World} {A : Option Addr} {l : List ByteArray} (c : Nat) (h : Strs w A l) (hl : l.length ≤ 1000) (hs : (l.map (·.data.toList)).flatten.length ≤ 1000000) :
    Calls Tryz.prog 61 #[.slice A l.length c] w fun e w' => e = .returned (.string (Nib.bs (l.map (·.data.toList)).flatten)) ∧ w' = w := by
  obtain ⟨z, hz⟩ : ∃ z, z = l.length := ⟨_, rfl⟩
  rw [← hz] at hl ⊢
  have HE := Lib.hid h
  have HN := Lib.hid hz
  have PRE : Hid (∀ k, (Nib.bs ((l.take k).map (·.data.toList)).flatten).size ≤ 1000000) := Lib.hid (fun k => by
    rw [Nib.bs_size]
    have e : l = l.take k ++ l.drop k := (List.take_append_drop k l).symm
    rw [e, List.map_append, List.flatten_append, List.length_append] at hs
    omega)
  clear hs
  obtain ⟨T, hT⟩ : ∃ T, T = Nib.bs (l.map (·.data.toList)).flatten := ⟨_, rfl⟩
  rw [← hT]
  have HT := Lib.hid hT
  clear h hz hT
  go_enter Tryz.func61, Tryz.ntmps61
  go_wp2_with fail
  go_loopw [3, 4] (fun vo vi wr => ∃ (k : Nat) (o : ByteArray), vi = .int .i64 (k : Int) ∧ vo = .string o ∧ k ≤ z ∧ Hid (o = Nib.bs ((l.take k).map (·.data.toList)).flatten) ∧ Hid (wr = w)) (fun _ vi _ => z - (intOf vi).toNat)
  case atStart => exact ⟨0, ⟨#[]⟩, rfl, rfl, Nat.zero_le _, Lib.hid rfl, Lib.hid rfl⟩
  case round =>
    obtain ⟨k, o, rfl, rfl, hk, HO, HW⟩ := hrel
    obtain rfl := HW.out
    clear HW
    by_cases hlt : k < z
    · have hkl : k < l.length := by rw [← HN.out]; exact hlt
      obtain ⟨b, oo, rfl, hbl, d0⟩ := HE.out.at_ k hkl
      obtain ⟨X, hX⟩ : ∃ X, X = l[k] := ⟨_, rfl⟩
      have STEP : Hid (Nib.bs ((l.take (k + 1)).map (·.data.toList)).flatten = o ++ X) := Lib.hid (by
        rw [List.take_add_one, List.getElem?_eq_getElem hkl, ← hX, HO.out]
        simp only [Option.toList_some, List.map_append, List.map_cons, List.map_nil, List.flatten_append, List.flatten_cons, List.flatten_nil, List.append_nil]
        rw [Nib.bs_append]
        rfl)
      rw [← hX] at d0
      have i1 : (k : Int) < (z : Int) := by omega
      have wk : IntKind.i64.wrap ((k : Int) + 1) = (k : Int) + 1 := IntWalk.i64_in _ (by omega)
      have hsz : o.size + X.size ≤ 1000000 := by have := PRE.out (k + 1); rw [STEP.out, ByteArray.size_append] at this; exact this
      clear hX
      go_wp2_with fail
      exact ⟨⟨k + 1, _, rfl, rfl, hlt, Lib.hid STEP.out.symm, Lib.hid trivial⟩, by simp [intOf]; omega⟩
    · have i1 : ¬ (k : Int) < (z : Int) := by omega
      obtain rfl : k = z := by omega
      have FIN : Hid (o = T) := Lib.hid (by rw [HO.out, HT.out, HN.out, List.take_length])
      go_wp2_with fail
      go_ret
      exact ⟨by rw [FIN.out]; rfl, rfl⟩
end Go.Proofs.YtlbebdkockejcaaGreatDoor
