import Derived.Test.YtgeonbkoihegnaaDoorRlpVal
import Derived.OwnWalk
namespace Go.Proofs.YtgeonbkoihegnaaDoor
open Go.RowKit
/-- What is wrong, and where. -/
def faultAt (n : Nat) : Value := .iface 76 (.agg #[.int .i64 (n : Int), .int .i64 2])
def sizeVal : Except Nat (Nat × Nat) → Value
  | .error n => .tuple #[.int .i64 0, .int .i64 0, faultAt n]
  | .ok (f, n) => .tuple #[.int .i64 (f : Int), .int .i64 (n : Int), .nilIface]
theorem extract_list (s : ByteArray) (i j : Nat) : (s.extract i j).data.toList = (s.data.toList.take j).drop i := by
  simp [List.drop_take]
set_option maxRecDepth 100000 in
set_option maxHeartbeats 1000000 in
/-- rlp.size. -/
theorem size_any (s : ByteArray) (told : Nat) (w : World) (hs : s.size ≤ 70368744177664) (h0 : 1 ≤ s.size) (ht : told ≤ 63) :
    Calls Tryd.prog 38 #[.string s, .int .i64 (told : Int)] w fun e w' => e = .returned (sizeVal (Rlp.size s.data.toList told)) ∧ w = w' := by
  have hlen : s.data.toList.length = s.size := Nib.len_of s
  by_cases h1 : told ≤ 55
  · by_cases h2 : told + 1 ≤ s.size
    · have hR : Rlp.size s.data.toList told = .ok (1, told) := by rw [Rlp.size, if_pos h1, hlen, if_pos h2]
      rw [hR]
      clear hR hlen
      go_enter Tryd.func38, Tryd.ntmps38
      go_wp2_with fail
      go_ret3
      exact ⟨rfl, rfl⟩
    · have hR : Rlp.size s.data.toList told = .error s.size := by rw [Rlp.size, if_pos h1, hlen, if_neg h2]
      rw [hR]
      clear hR hlen
      go_enter Tryd.func38, Tryd.ntmps38
      go_wp2_with fail
      go_ret3
      exact ⟨rfl, rfl⟩
  · by_cases h2 : told - 54 ≤ 4
    · by_cases h3 : told - 54 ≤ s.size
      · have hi1 : 1 < s.size := by omega
        by_cases h4 : (s[1].toNat : Int) = 0
        · have hR : Rlp.size s.data.toList told = .error 1 := by
            rw [Rlp.size, if_neg h1]
            show ite _ _ _ = _
            rw [if_pos]
            refine .inr (.inr ?_)
            rw [List.getElem?_eq_getElem (by omega), byte_get s 1 hi1]
            congr 1
            exact UInt8.toNat_inj.1 (by rw [show (0 : UInt8).toNat = 0 from rfl]; omega)
          rw [hR]
          clear hR hlen
          go_enter Tryd.func38, Tryd.ntmps38
          go_wp2_with fail
          go_ret3
          exact ⟨rfl, rfl⟩
        · have hne : s.data.toList[1]? ≠ some 0 := by
            rw [List.getElem?_eq_getElem (by omega), byte_get s 1 hi1]
            intro h
            rw [Option.some.inj h] at h4
            exact h4 rfl
          obtain ⟨f, hf⟩ : ∃ f, f = told - 54 := ⟨_, rfl⟩
          have hfi : 1 + ((told : Int) - 55) = (f : Int) := by omega
          have hf2 : 2 ≤ f := by omega
          have hf4 : f ≤ 4 := by omega
          have hfs : f ≤ s.size := by omega
          obtain ⟨x, hx⟩ : ∃ x, x = s.extract 1 f := ⟨_, rfl⟩
          have hxl : x.data.toList = (s.data.toList.take f).drop 1 := by rw [hx, extract_list]
          have hsl : s.extract 1 f = x := hx.symm
          have hxs : x.size = f - 1 := by
            rw [← Nib.len_of, hxl]
            simp
            omega
          obtain ⟨v, hv⟩ : ∃ v, v = Rlp.val x.data.toList := ⟨_, rfl⟩
          have hvl : v < 16777216 := by
            have := Rlp.val_lt x.data.toList
            rw [← hv, Nib.len_of, hxs] at this
            have h2 : 256 ^ (f - 1) ≤ 256 ^ 3 := Nat.pow_le_pow_right (by decide) (by omega)
            omega
          have hcv := value_any x w (by omega)
          rw [← hv] at hcv
          have HCV := Lib.hid hcv
          have hR : Rlp.size s.data.toList told = if v ≤ 55 ∨ v > 1048576 then .error 1 else if f + v ≤ s.size then .ok (f, v) else .error s.size := by
            rw [Rlp.size, if_neg h1]
            show ite _ _ _ = _
            rw [if_neg (by rintro (h | h | h); omega; omega; exact hne h)]
            show ite (Rlp.val _ ≤ 55 ∨ _) _ _ = _
            rw [← hf, ← hxl, ← hv, hlen]
          have HR := Lib.hid hR
          have hsl2 : (Instr.slice 9 (.string s) (some (.int .i64 1)) (some (.int .i64 (f : Int))) none).run Tryd.prog w = .ok (.string x) w := by
            rw [run_slice_string _ _ _ _ _ _ _ Tryd.underlying9 (by omega) (by omega) (by omega)]
            rw [show ((f : Int)).toNat = f from rfl, show (1 : Int).toNat = 1 from rfl, hsl]
          clear hR hlen hxl hx hv hcv hne hf
          have hb4 : ((s[1].toNat : Int) == 0) = false := by simpa using h4
          by_cases h5 : v ≤ 55
          · rw [show Rlp.size s.data.toList told = .error 1 by rw [HR.out, if_pos (.inl h5)]]
            go_enter Tryd.func38, Tryd.ntmps38
            go_wp2_with fail
            refine HCV.out.mono ?_
            rintro e w1 ⟨rfl, rfl⟩
            go_wp2_with fail
            go_ret3
            exact ⟨rfl, rfl⟩
          · by_cases h6 : v ≤ 1048576
            · by_cases h7 : f + v ≤ s.size
              · rw [show Rlp.size s.data.toList told = .ok (f, v) by rw [HR.out, if_neg (by omega), if_pos h7]]
                go_enter Tryd.func38, Tryd.ntmps38
                go_wp2_with fail
                refine HCV.out.mono ?_
                rintro e w1 ⟨rfl, rfl⟩
                go_wp2_with fail
                go_ret3
                exact ⟨rfl, rfl⟩
              · rw [show Rlp.size s.data.toList told = .error s.size by rw [HR.out, if_neg (by omega), if_neg h7]]
                go_enter Tryd.func38, Tryd.ntmps38
                go_wp2_with fail
                refine HCV.out.mono ?_
                rintro e w1 ⟨rfl, rfl⟩
                go_wp2_with fail
                go_ret3
                exact ⟨rfl, rfl⟩
            · rw [show Rlp.size s.data.toList told = .error 1 by rw [HR.out, if_pos (.inr (by omega))]]
              go_enter Tryd.func38, Tryd.ntmps38
              go_wp2_with fail
              refine HCV.out.mono ?_
              rintro e w1 ⟨rfl, rfl⟩
              go_wp2_with fail
              go_ret3
              exact ⟨rfl, rfl⟩
      · have hR : Rlp.size s.data.toList told = .error 1 := by
          rw [Rlp.size, if_neg h1]
          show ite _ _ _ = _
          rw [if_pos]
          exact .inr (.inl (by omega))
        rw [hR]
        clear hR hlen
        go_enter Tryd.func38, Tryd.ntmps38
        go_wp2_with fail
        go_ret3
        exact ⟨rfl, rfl⟩
    · have hR : Rlp.size s.data.toList told = .error 1 := by
        rw [Rlp.size, if_neg h1]
        show ite _ _ _ = _
        rw [if_pos]
        exact .inl (by omega)
      rw [hR]
      clear hR hlen
      go_enter Tryd.func38, Tryd.ntmps38
      go_wp2_with fail
      go_ret3
      exact ⟨rfl, rfl⟩
end Go.Proofs.YtgeonbkoihegnaaDoor
