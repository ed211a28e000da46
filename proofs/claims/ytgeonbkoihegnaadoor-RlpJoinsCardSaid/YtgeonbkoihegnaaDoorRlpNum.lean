import Derived.Test.YtgeonbkoihegnaaDoorRlpPlain
namespace Go.Proofs.YtgeonbkoihegnaaDoor
open Go.RowKit
theorem shape_of {w : World} {B e : Nat} {v : Value} {n : Nat} {xs : List Value} (h : w.ownsRow B e 1 v n xs) : ∃ a c, v = .slice a n c ∧ (n = 0 ∨ ∃ g, a = some ⟨g, 0, none⟩) := by
  obtain ⟨h1, h2⟩ := h
  rcases h2 with ⟨rfl, rfl⟩ | ⟨g, cap, cur, rfl, _⟩
  · simp at h1
    subst h1
    exact ⟨none, 0, rfl, .inl rfl⟩
  · exact ⟨some ⟨g, 0, none⟩, cap, rfl, .inr ⟨g, rfl⟩⟩
theorem Bl.grownOwn {B : Nat} {a b c : World} (h : Bl B a b) {o : Option Nat} (k : b.grownBy c o) (hr : ∀ i, o = some i → B ≤ i) : Bl B a c := ⟨h.1.grown k h.2 hr, Nat.le_trans h.2 k.size⟩
/-- Bytes as cells. -/
def cellsOf (l : List UInt8) : List Value := l.map fun b => .int .u8 (b.toNat : Int)
theorem cellsOf_nil : cellsOf [] = [] := rfl
theorem cellsOf_snoc (l : List UInt8) (b : UInt8) (d : Int) (hd : d = (b.toNat : Int)) : cellsOf l ++ [.int .u8 d] = cellsOf (l ++ [b]) := by simp [cellsOf, hd]
theorem cellsOf_length (l : List UInt8) : (cellsOf l).length = l.length := by simp [cellsOf]
theorem conv_nil (w : World) : (convert 46 9 (.slice none 0 0)).run Tryd.prog w = .ok (.string (Nib.bs [])) w :=
  run_convert_bytes_nil w 46 5 Tryd.underlying46 Tryd.underlying5 0 0 9 Tryd.underlying9
/-- A row of bytes that the call made, as a string. -/
theorem conv_own {w : World} {B : Nat} {v : Value} {L : Nat} {l : List UInt8} (h : w.ownsRow B 5 1 v L (cellsOf l)) : (convert 46 9 v).run Tryd.prog w = .ok (.string (Nib.bs l)) w := by
  have hL : L = l.length := by have := h.1; rw [cellsOf_length] at this; omega
  obtain ⟨a, c, rfl, hs⟩ := shape_of h
  rcases hs with h0 | ⟨g, rfl⟩
  · have : l = [] := List.length_eq_zero_iff.1 (by omega)
    subst this
    obtain ⟨_, h2⟩ := h
    subst h0
    rcases h2 with ⟨e, _⟩ | ⟨g, cap, cur, e, _⟩
    · rw [e]
      exact conv_nil w
    · rw [e]
      exact run_convert_bytes_arg (P := Tryd.prog) w 46 5 Tryd.underlying46 Tryd.underlying5 g 0 0 cap [] rfl (fun i hi => by omega) 9 Tryd.underlying9
  · subst hL
    have g1 := run_convert_bytes_arg (P := Tryd.prog) w 46 5 Tryd.underlying46 Tryd.underlying5 g 0 l.length c (l.map fun b => (b.toNat : Int)) (by simp) (fun i hi => by
      have := h.cells (g := g) rfl i (.int .u8 ((l[i]).toNat : Int)) (by simp [cellsOf, hi])
      rw [Addr.add_mid] at this
      rw [this]
      simp [List.getD, hi]) 9 Tryd.underlying9
    rw [g1, strOfNums_bytes]
theorem byte_nat (n k : Nat) : (n : Int) / 2 ^ (56 - 8 * k) % 256 = ((Rlp.beAt n k).toNat : Int) := by
  have e2 : ((2 ^ (56 - 8 * k) : Nat) : Int) = 2 ^ (56 - 8 * k) := Int.natCast_pow _ _
  rw [Rlp.beAt, UInt8.toNat_ofNat', ← e2, ← Int.natCast_ediv, show (256 : Int) = ((256 : Nat) : Int) from rfl, ← Int.natCast_emod]
set_option maxRecDepth 100000 in
set_option maxHeartbeats 1000000 in
/-- rlp.digits. -/
theorem digits_any (n : Nat) (w : World) (hn : n < 18446744073709551616) :
    Calls Tryd.prog 29 #[.int .u64 (n : Int)] w fun e w' => e = .returned (.string (Nib.bs (Rlp.digs n))) ∧ Below w.heap.size w w' := by
  obtain ⟨d, hd⟩ : ∃ d, d = Rlp.digs n := ⟨_, rfl⟩
  rw [← hd]
  have HD := Lib.hid hd
  have HN := Lib.hid hn
  clear hd hn
  obtain ⟨i0, hi, hz0, hz1, hz2⟩ := info_parts infoU8
  obtain ⟨B, hB⟩ : ∃ B, B = w.heap.size := ⟨_, rfl⟩
  go_enter Tryd.func29, Tryd.ntmps29
  go_wp2_with fail
  have HBB := Lib.hid hB
  clear hB
  go_loopw [3, 4] (fun v3 v4 wr => ∃ (k L : Nat), k ≤ 8 ∧ L ≤ 8 ∧ v4 = .int .i64 (56 - 8 * (k : Int)) ∧ Hid (L = (Rlp.strip ((Rlp.be8 n).take k)).length) ∧ Hid (wr.ownsRow B 5 1 v3 L (cellsOf (Rlp.strip ((Rlp.be8 n).take k)))) ∧ Hid (Bl B w wr)) (fun _ v4 _ => (intOf v4 + 8).toNat)
  case atStart => exact ⟨0, 0, by omega, by omega, rfl, rfl, World.ownsRow_nil _ _ _ _, by rw [HBB.out]; exact Bl.start w⟩
  case round =>
    obtain ⟨k, L, hk, hL, rfl, HLL, OW, BW⟩ := hrel
    by_cases hlt : k < 8
    · obtain ⟨a, c, rfl, hsh⟩ := shape_of OW.out
      have hge : (0 : Int) ≤ 56 - 8 * (k : Int) := by omega
      obtain ⟨b, hb⟩ : ∃ b, b = Rlp.beAt n k := ⟨_, rfl⟩
      have HT : Hid ((Rlp.be8 n).take (k + 1) = (Rlp.be8 n).take k ++ [b]) := by
        have := Rlp.be8_take n k hlt
        rw [← hb] at this
        exact this
      have hbn := byte_nat n k
      rw [← hb] at hbn
      obtain ⟨d, hd⟩ : ∃ d : Int, d = (b.toNat : Int) := ⟨_, rfl⟩
      rw [← hd] at hbn
      have HD2 := Lib.hid hd
      have HB2 := Lib.hid hb
      clear hb hd
      by_cases hz : d = 0 ∧ L = 0
      · obtain ⟨hd0, hL0⟩ := hz
        subst hL0
        have hgt : (0 : Int) ≤ 56 - 8 * (k : Int) := by omega
        rw [hd0] at hbn
        have HD0 := Lib.hid hd0
        clear hd0
        go_wp2
        refine ⟨⟨k + 1, 0, by omega, by omega, by go_num, ?_, ?_, BW⟩, by simp [intOf]; omega⟩
        all_goals
          have e : Rlp.strip ((Rlp.be8 n).take k) = [] := List.length_eq_zero_iff.1 HLL.out.symm
          have hb0 : b = 0 := by
            have := HD2.out
            rw [HD0.out] at this
            exact UInt8.toNat_inj.1 (by have h0 : (0 : UInt8).toNat = 0 := rfl; omega)
          have e2 : Rlp.strip ((Rlp.be8 n).take (k + 1)) = [] := by rw [HT.out, hb0]; exact Rlp.strip_snoc_zero _ e
        · exact Lib.hid (by rw [e2]; rfl)
        · refine Lib.hid ?_
          rw [e2, ← e]
          exact OW.out
      · have hor : (d != 0) = true ∨ ((d != 0) = false ∧ (0 < L)) := by
          by_cases h : d = 0
          · exact .inr ⟨by simp [h], by omega⟩
          · exact .inl (by simpa using h)
        have HST : Hid (Rlp.strip ((Rlp.be8 n).take (k + 1)) = Rlp.strip ((Rlp.be8 n).take k) ++ [b]) := by
          refine Lib.hid ?_
          rw [HT.out]
          refine Rlp.strip_snoc _ _ ?_
          rcases hor with h | ⟨_, h⟩
          · refine .inr ?_
            rintro rfl
            rw [HD2.out] at h
            simp at h
          · refine .inl ?_
            intro h0
            rw [HLL.out, h0] at h
            simp at h
        have HL1 : Hid (L + 1 = (Rlp.strip ((Rlp.be8 n).take (k + 1))).length) := by
          refine Lib.hid ?_
          rw [HST.out, List.length_append, ← HLL.out]
          rfl
        have HL8 : L + 1 ≤ 8 := by
          rw [HL1.out]
          have := Rlp.strip_length_le ((Rlp.be8 n).take (k + 1))
          rw [List.length_take] at this
          omega
        have hmx : L + 1 ≤ maxLen := by simp [maxLen]; omega
        have hby : (L + 1) * 1 ≤ 140737488355328 := by omega
        have HMX := Lib.hid hmx
        have HBY := Lib.hid hby
        clear hz hmx hby
        have HONE : Hid (∀ u ∈ [Value.int .u8 d], u.oneCell' = true) := Lib.hid (by simp; rfl)
        rcases hor with h1 | ⟨h1, h2⟩
        all_goals
          go_wp2_with (at_builtin; refine wpList_append_own _ rfl _ _ 46 rfl B 5 i0 (.int .u8 0) 1 1 Tryd.underlying46 hi hz0 hz1 hz2 rfl (by decide) _ L (cellsOf (Rlp.strip ((Rlp.be8 n).take k))) rfl (OW.out.alloc _) ⟨wr.heap.size, 0, none⟩ 1 1 [.int .u8 d] rfl rfl (cells_new wr _ _) HONE.out HMX.out HBY.out (BW.out.alloc _).2 ?_; intro v' w1 own gr _)
          have own' := own
          rw [cellsOf_snoc _ _ d HD2.out, ← HST.out] at own'
          have BW1 := ((BW.out.alloc _).grownOwn gr (fun i hi => (OW.out.lt i hi).1))
          have OW1 := Lib.hid own'
          have BWH := Lib.hid BW1
          clear own own' gr BW1
          go_wp2
          refine ⟨⟨k + 1, L + 1, by omega, by omega, by go_num, HL1, OW1, BWH⟩, by simp [intOf]; omega⟩
    · have hk8 : k = 8 := by omega
      subst hk8
      have e8 : (Rlp.be8 n).take 8 = Rlp.be8 n := List.take_of_length_le (by simp [Rlp.be8])
      have hcv := conv_own OW.out
      rw [e8, show Rlp.strip (Rlp.be8 n) = d from HD.out.symm] at hcv
      go_wp2
      go_ret
      exact ⟨rfl, by rw [← HBB.out]; exact BW.out.1⟩
end Go.Proofs.YtgeonbkoihegnaaDoor
