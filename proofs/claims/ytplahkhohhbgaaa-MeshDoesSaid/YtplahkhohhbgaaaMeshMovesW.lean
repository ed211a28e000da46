/-
  The walk of the law MeshMoves.
-/
import Derived.Test.YtplahkhohhbgaaaMeshArgs
namespace Go.Proofs.Ytplahkhohhbgaaa
open Go.RowKit Go.Proofs.Msh
set_option linter.unusedVariables false
set_option linter.unusedSimpArgs false
theorem lay_get (l : List ByteArray) (t : Nat) (x : ByteArray) (ht : t ≤ l.length) : (lay l t x)[t]? = some x := by
  unfold lay
  rw [List.getElem?_append_right (by rw [List.length_take]; omega), List.length_take, Nat.min_eq_left ht, Nat.sub_self]
  rfl
theorem lay_len (l : List ByteArray) (t : Nat) (x : ByteArray) (ht : t ≤ l.length) : (lay l t x).length = l.length + 1 := laid_length l t x ht
theorem lay_erase (l : List ByteArray) (t : Nat) (x : ByteArray) (ht : t ≤ l.length) : (lay l t x).eraseIdx t = l := by
  unfold lay
  rw [List.eraseIdx_append_of_length_le (by rw [List.length_take]; omega), List.length_take, Nat.min_eq_left ht, Nat.sub_self]
  simp
theorem erase_lay (l : List ByteArray) (k : Nat) (x : ByteArray) (hx : l[k]? = some x) : lay (l.eraseIdx k) k x = l := by
  obtain ⟨hk, rfl⟩ := List.getElem?_eq_some_iff.1 hx
  unfold lay
  have h1 : (l.eraseIdx k).take k = l.take k := by rw [List.eraseIdx_eq_take_drop_succ, List.take_append_of_le_length (by rw [List.length_take]; omega), List.take_take, Nat.min_self]
  have h2 : (l.eraseIdx k).drop k = l.drop (k + 1) := by rw [List.eraseIdx_eq_take_drop_succ, List.drop_append, List.length_take, Nat.min_eq_left (by omega), List.drop_of_length_le (by rw [List.length_take]; omega)]; simp
  rw [h1, h2, ← List.drop_eq_getElem_cons hk, List.take_append_drop]
theorem send_moves (l : List ByteArray) (k : Nat) (hk : k < l.length) (h64 : l.length ≤ 64) : sendF 64 (l.take k) l[k] = (l.take (k + 1), true) := by
  unfold sendF
  rw [if_neg (by rw [List.length_take]; omega), List.take_succ_eq_append_getElem hk]
theorem Sl.strs {w : World} {A : Option Addr} {n c : Nat} {xs : List ByteArray} (h : Sl w (.slice A n c) xs) : Strs w A xs := by
  obtain ⟨A', c', he, hS, _⟩ := h
  cases he
  exact hS
theorem Sl.at0 {w : World} {b n c : Nat} {xs : List ByteArray} (h : Sl w (.slice (some ⟨b, 0, none⟩) n c) xs) {k : Nat} {x : ByteArray} (hx : xs[k]? = some x) : w.cell? ⟨b, k, none⟩ = some (.string x) := by
  rcases h.strs with h | ⟨b', o, he, _, hc⟩
  · subst h; simp at hx
  · cases he
    have := hc k x hx
    rwa [Nat.zero_add] at this
set_option maxHeartbeats 4000000 in
theorem moves_walk (w : World) (A0 : Option Addr) (c0 : Nat) (l0 : List ByteArray) (S0 : Strs w A0 l0) (n0 : l0.length ≤ maxLen) (a1 a2 : Int) (w1 : (Lit.int .i64 a1).wf = true) (w2 : (Lit.int .i64 a2).wf = true) :
    Calls Try.prog 11 #[.slice A0 l0.length c0, .int .i64 a1, .int .i64 a2] w fun e w' => e = .returned (.bool true) ∧ Below w.heap.size w w' := by
  clear n0 w1 w2
  have HS := Lib.hid S0
  clear S0
  go_enter Try.func11, Try.ntmps11
  go_wp2_with fail
  refine (works_any _).mono ?_
  rintro e w1 ⟨rfl, hb1⟩
  have HB1 := Lib.hid hb1
  clear hb1
  go_wp2_with fail
  refine (new_any 64 w w1 ⟨HB1.out, HB1.out.size⟩).mono ?_
  rintro e w2 ⟨rfl, hM, hb2⟩
  rw [show roomOf 64 = 64 from rfl] at hM
  have H2 := Lib.hid hM
  clear hM hb2
  by_cases hlen : l0.length ≤ 64
  · have i1 : ¬ (64 : Int) < (l0.length : Int) := by omega
    go_wp2_with fail
    go_loopw [9] (fun vi wr => ∃ (k : Nat) (v : Value), vi = .int .i64 (k : Int) ∧ k ≤ l0.length ∧ Hid (Ms w w1.heap.size 64 v (l0.take k) wr)) (fun vi _ => l0.length - (intOf vi).toNat)
    case atStart => exact ⟨0, _, rfl, Nat.zero_le _, Lib.hid (by simpa using H2.out)⟩
    case round =>
      obtain ⟨k, v, rfl, hk, HM⟩ := hrel
      by_cases hlt : k < l0.length
      · obtain ⟨b, o, rfl, _, ck⟩ := (HS.out.below HM.out.2.2.1.1).at_ k hlt
        obtain ⟨X, hX⟩ : ∃ X, X = l0[k] := ⟨_, rfl⟩
        have hso := send_moves l0 k hlt hlen
        rw [← hX] at ck hso
        have HX := Lib.hid hX
        have HSO := Lib.hid hso
        clear hX hso
        have j1 : (k : Int) < (l0.length : Int) := by omega
        have wk : IntKind.i64.wrap ((k : Int) + 1) = (k : Int) + 1 := IntWalk.i64_in _ (by omega)
        by_cases hs : X.size ≤ 100
        · have j2 : ¬ (100 : Int) < (X.size : Int) := by omega
          go_wp2_with fail
          refine (send_any X HM.out).mono ?_
          rintro e w3 ⟨rfl, v3, hM3, _, _⟩
          rw [HSO.out] at hM3
          have H3 := Lib.hid hM3
          clear hM3
          go_wp2_with fail
          refine ⟨⟨k + 1, v3, by go_num, by omega, H3⟩, ?_⟩
          simp [intOf]; omega
        · have j2 : (100 : Int) < (X.size : Int) := by omega
          go_wp2_with fail
          go_ret
          exact ⟨rfl, HM.out.2.2.1.1⟩
      · obtain rfl : k = l0.length := by omega
        have H4 := Lib.hid (show Ms w w1.heap.size 64 v l0 wr by have := HM.out; rwa [List.take_length] at this)
        clear HM
        have key : ∀ (hno : (a1 < 0) ∨ (¬ a1 < 0 ∧ (l0.length : Int) ≤ a1) ∨ (¬ a1 < 0 ∧ ¬ (l0.length : Int) ≤ a1 ∧ a2 < 0) ∨ (¬ a1 < 0 ∧ ¬ (l0.length : Int) ≤ a1 ∧ ¬ a2 < 0 ∧ (l0.length : Int) ≤ a2)), moveF l0 a1 a2 = (l0, false) := by
          intro h
          unfold moveF
          have : getAt l0 a1 = none ∨ getAt l0 a2 = none := by
            rcases h with h | ⟨h1, h2⟩ | ⟨_, _, h⟩ | ⟨_, _, h1, h2⟩
            · left; unfold getAt; rw [if_pos h]
            · left; unfold getAt; rw [if_neg h1]; exact List.getElem?_eq_none (by omega)
            · right; unfold getAt; rw [if_pos h]
            · right; unfold getAt; rw [if_neg h1]; exact List.getElem?_eq_none (by omega)
          rcases this with h | h
          · rw [h]
          · rw [h]; cases getAt l0 a1 <;> rfl
        have KEY := Lib.hid key
        clear key
        by_cases hin : (0 ≤ a1 ∧ a1 < l0.length) ∧ (0 ≤ a2 ∧ a2 < l0.length)
        · obtain ⟨k, rfl⟩ : ∃ k : Nat, a1 = k := ⟨a1.toNat, by omega⟩
          obtain ⟨t, rfl⟩ : ∃ t : Nat, a2 = t := ⟨a2.toNat, by omega⟩
          have hk1 : k < l0.length := by omega
          have ht1 : t < l0.length := by omega
          obtain ⟨x, hx⟩ : ∃ x, l0[k]? = some x := ⟨_, List.getElem?_eq_getElem hk1⟩
          obtain ⟨y, hy⟩ : ∃ y, l0[t]? = some y := ⟨_, List.getElem?_eq_getElem ht1⟩
          have hel : (l0.eraseIdx k).length = l0.length - 1 := List.length_eraseIdx_of_lt hk1
          obtain ⟨mv, hmv⟩ : ∃ mv, mv = lay (l0.eraseIdx k) t x := ⟨_, rfl⟩
          have hml : mv.length = l0.length := by rw [hmv, lay_len _ _ _ (by omega), hel]; omega
          have hmt : mv[t]? = some x := by rw [hmv]; exact lay_get _ _ _ (by omega)
          have hm1 : moveF l0 k t = (mv, true) := by
            unfold moveF
            rw [getAt_nat, getAt_nat, hx, hy, hmv]
            rfl
          obtain ⟨z, hz⟩ : ∃ z, mv[k]? = some z := ⟨_, List.getElem?_eq_getElem (by omega)⟩
          have hm2 : moveF mv t k = (l0, true) := by
            unfold moveF
            rw [getAt_nat, getAt_nat, hmt, hz]
            show (lay (mv.eraseIdx (t : Int).toNat) (k : Int).toNat x, true) = _
            rw [Int.toNat_natCast, Int.toNat_natCast, hmv, lay_erase _ _ _ (by omega), erase_lay _ _ _ hx]
          obtain ⟨b, o, rfl, hbl, ck⟩ := (HS.out.below H4.out.2.2.1.1).at_ k hk1
          have ck' : w.cell? ⟨b, o + k, none⟩ = some (.string x) := by
            obtain ⟨b', o', he, _, h⟩ := HS.out.at_ k hk1
            cases he
            rw [List.getElem?_eq_getElem hk1] at hx
            rw [h, Option.some.inj hx]
          have hbw : b < w.heap.size := by
            obtain ⟨b', o', he, h, _⟩ := HS.out.at_ k hk1
            cases he
            exact h
          have HM1 := Lib.hid hm1
          have HM2 := Lib.hid hm2
          have HMT := Lib.hid hmt
          have HML := Lib.hid hml
          have HCK := Lib.hid ck'
          clear hm1 hm2 hmt hml hmv hz hel hx hy ck ck' KEY hin
          have g1 : (k : Int) < (l0.length : Int) := by omega
          have g2 : (t : Int) < (l0.length : Int) := by omega
          go_wp2_with fail
          refine (move_all k t H4.out).mono ?_
          rintro e w3 ⟨rfl, v3, hM3, _, _⟩
          rw [HM1.out] at hM3
          simp only [HM1.out]
          have H3 := Lib.hid hM3
          clear hM3
          go_wp2_with fail
          refine (all_any H3.out).mono ?_
          rintro e w4 ⟨c, rfl, hSl, hb⟩
          have hc1 := hSl.at0 HMT.out
          have HB := Lib.hid (H3.out.below hb)
          rw [HML.out]
          have hc2 : w4.cell? ⟨b, o + k, none⟩ = some (.string x) := (HB.out.2.2.1.1.cell (p := ⟨b, o + k, none⟩) hbw).trans HCK.out
          have hbe : (x.toList == x.toList) = true := by simp
          clear hSl hb
          go_wp2_with fail
          go_quiet (fail)
          go_wp2_with fail
          refine (move_all t k (HB.out.drewN nq)).mono ?_
          rintro e w5 ⟨rfl, v5, hM5, _, _⟩
          rw [HM2.out] at hM5
          simp only [HM2.out]
          have H5 := Lib.hid hM5
          clear hM5 hc1 hc2
          go_wp2_with fail
          refine (all_any H5.out).mono ?_
          rintro e w6 ⟨c', rfl, hSl, hb⟩
          have HSl := Lib.hid hSl
          have HB6 := Lib.hid (H5.out.below hb)
          clear hSl hb
          go_wp2_with fail
          refine (same_any _ _ _ _ l0 l0 w6 HSl.out.strs (HS.out.below HB6.out.2.2.1.1) (by omega) (by omega)).mono ?_
          rintro e w7 ⟨rfl, q, rfl⟩
          simp only [decide_true]
          go_wp2_with fail
          go_ret
          exact ⟨rfl, below_drewN HB6.out.2.2.1.1 q⟩
        · have hno : (a1 < 0) ∨ (¬ a1 < 0 ∧ (l0.length : Int) ≤ a1) ∨ (¬ a1 < 0 ∧ ¬ (l0.length : Int) ≤ a1 ∧ a2 < 0) ∨ (¬ a1 < 0 ∧ ¬ (l0.length : Int) ≤ a1 ∧ ¬ a2 < 0 ∧ (l0.length : Int) ≤ a2) := by omega
          have hmv := KEY.out hno
          have HMV := Lib.hid hmv
          clear hmv hin
          rcases hno with h | ⟨h1, h2⟩ | ⟨h1, h2, h3⟩ | ⟨h1, h2, h3, h4⟩
          all_goals
            go_wp2_with fail
            refine (move_all a1 a2 H4.out).mono ?_
            rintro e w3 ⟨rfl, v3, hM3, _, _⟩
            rw [HMV.out] at hM3
            simp only [HMV.out]
            have H3 := Lib.hid hM3
            clear hM3
            go_wp2_with fail
            refine (all_any H3.out).mono ?_
            rintro e w4 ⟨c, rfl, hSl, hb⟩
            have HSl := Lib.hid hSl
            have HB := Lib.hid (H3.out.below hb)
            clear hSl hb
            go_wp2_with fail
            refine (same_any _ _ _ _ l0 l0 w4 HSl.out.strs (HS.out.below HB.out.2.2.1.1) (by omega) (by omega)).mono ?_
            rintro e w5 ⟨rfl, q, rfl⟩
            simp only [decide_true]
            go_wp2_with fail
            go_ret
            exact ⟨rfl, below_drewN HB.out.2.2.1.1 q⟩
  · have i1 : (64 : Int) < (l0.length : Int) := by omega
    go_wp2_with fail
    go_ret
    exact ⟨rfl, H2.out.2.2.1.1⟩
end Go.Proofs.Ytplahkhohhbgaaa
