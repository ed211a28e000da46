/-
  Package frame: a reader's numbers and texts.
-/
import Derived.Test.YtlbebdkockejcaaDoorFrmSt
import Derived.Test.YtlbebdkockejcaaDoorGaItems
namespace Go.Proofs.YtlbebdkockejcaaDoor
open Go.RowKit Go.Proofs.Frm
set_option linter.unusedVariables false
set_option linter.unusedSimpArgs false
theorem Rm.next_small {M b : Nat} {w : World} {r : Rd} (h : Rm M w b r) : (Frm.next r).1.size ≤ 999999 := by
  obtain ⟨v, e, _, _, _, _, _, h6, _⟩ := h
  unfold Frm.next
  rcases hr : r.items with _ | ⟨x, t⟩
  · exact Nat.zero_le _
  · exact h6 x (by rw [hr]; exact List.mem_cons_self)
set_option maxRecDepth 100000 in
set_option maxHeartbeats 1000000 in
/-- A number is read. -/
theorem rdNum_any {M b : Nat} {r : Rd} {w : World} (h : Rm M w b r) :
    Calls Tryd.prog 45 #[.pointer (some ⟨b, 0, none⟩)] w fun e w' => e = .returned (.int .i64 (rdNum r).1) ∧ Rm M w' b (rdNum r).2 ∧ Far (fun i => i = b) w w' := by
  have NX := Lib.hid (next_any h)
  have hs := h.next_small
  clear h
  unfold rdNum numOk
  obtain ⟨x, hx⟩ : ∃ x, x = (Frm.next r).1 := ⟨_, rfl⟩
  obtain ⟨r1, hr1⟩ : ∃ r1, r1 = (Frm.next r).2 := ⟨_, rfl⟩
  rw [← hx, ← hr1] at NX
  rw [← hx] at hs
  rw [← hx, ← hr1]
  clear hx hr1
  have GN := Lib.hid (fun W => getnum_any x W (by omega))
  rcases hg : Rlp.getnum x.data.toList with _ | n
  · rw [hg] at GN
    unfold getVal at GN
    simp only at GN ⊢
    go_enter Tryd.func45, Tryd.ntmps45
    go_wp2_with (first
      | (go_at_call 64; refine NX.out.mono ?_; rintro e w1 ⟨rfl, hr, hf⟩; have R1 := Lib.hid hr; have F1 := Lib.hid hf; clear hr hf)
      | (go_at_call 63; refine (GN.out _).mono ?_; rintro e w2 ⟨rfl, hb⟩; have B2 := Lib.hid hb; have R2 := Lib.hid (R1.out.below hb); clear hb)
      | (go_at_call 46; refine (fail_any R2.out _).mono ?_; rintro e w3 ⟨rfl, hr, hf⟩; have R3 := Lib.hid hr; have F3 := Lib.hid hf; clear hr hf))
    go_ret
    exact ⟨rfl, R3.out, (F1.out.call B2.out).trans F3.out (fun _ _ e => e)⟩
  · rw [hg] at GN
    unfold getVal at GN
    simp only at GN ⊢
    by_cases hn : n ≤ 1048577
    · rw [if_pos hn]
      have d1 : decide ((1048577 : Int) < (n : Int)) = false := decide_eq_false (by omega)
      go_enter Tryd.func45, Tryd.ntmps45
      go_wp2_with (first
        | (go_at_call 64; refine NX.out.mono ?_; rintro e w1 ⟨rfl, hr, hf⟩; have R1 := Lib.hid hr; have F1 := Lib.hid hf; clear hr hf)
        | (go_at_call 63; refine (GN.out _).mono ?_; rintro e w2 ⟨rfl, hb⟩; have B2 := Lib.hid hb; have R2 := Lib.hid (R1.out.below hb); clear hb)
        | (go_at_call 46; refine (fail_any R2.out _).mono ?_; rintro e w3 ⟨rfl, hr, hf⟩; have R3 := Lib.hid hr; have F3 := Lib.hid hf; clear hr hf))
      go_ret
      exact ⟨rfl, R2.out, F1.out.call B2.out⟩
    · rw [if_neg hn]
      have d1 : decide ((1048577 : Int) < (n : Int)) = true := decide_eq_true (by omega)
      simp only
      go_enter Tryd.func45, Tryd.ntmps45
      go_wp2_with (first
        | (go_at_call 64; refine NX.out.mono ?_; rintro e w1 ⟨rfl, hr, hf⟩; have R1 := Lib.hid hr; have F1 := Lib.hid hf; clear hr hf)
        | (go_at_call 63; refine (GN.out _).mono ?_; rintro e w2 ⟨rfl, hb⟩; have B2 := Lib.hid hb; have R2 := Lib.hid (R1.out.below hb); clear hb)
        | (go_at_call 46; refine (fail_any R2.out _).mono ?_; rintro e w3 ⟨rfl, hr, hf⟩; have R3 := Lib.hid hr; have F3 := Lib.hid hf; clear hr hf))
      go_ret
      exact ⟨rfl, R3.out, (F1.out.call B2.out).trans F3.out (fun _ _ e => e)⟩
set_option maxRecDepth 100000 in
set_option maxHeartbeats 1000000 in
/-- A text is read. -/
theorem rdText_any {M b : Nat} {r : Rd} {w : World} (h : Rm M w b r) (hl : Laid2 w) (hb : 0 ≠ b) :
    Calls Tryd.prog 50 #[.pointer (some ⟨b, 0, none⟩)] w fun e w' => e = .returned (.string (rdText r).1) ∧ Rm M w' b (rdText r).2 ∧ Far (fun i => i = b) w w' := by
  have NX := Lib.hid (next_any h)
  have hs := h.next_small
  clear h
  unfold rdText
  obtain ⟨x, hx⟩ : ∃ x, x = (Frm.next r).1 := ⟨_, rfl⟩
  obtain ⟨r1, hr1⟩ : ∃ r1, r1 = (Frm.next r).2 := ⟨_, rfl⟩
  rw [← hx, ← hr1] at NX
  rw [← hx] at hs
  rw [← hx, ← hr1]
  clear hx hr1
  rcases hg : Rlp.first x.data.toList with n | ⟨l, f, n⟩
  · have SP := Lib.hid (fun W (hW : Far (fun i => i = b) w W) => split_err (s := x) (w := W) (by omega) (hl.far hW (fun e => hb e)) hg)
    clear hl
    have hR : Nod.readText x = none := by
      unfold Nod.readText Nod.splitB
      rw [hg]
    rw [hR]
    clear hR hg
    simp only
    go_enter Tryd.func50, Tryd.ntmps50
    go_wp2_with (first
      | (go_at_call 64; refine NX.out.mono ?_; rintro e w1 ⟨rfl, hr, hf⟩; have R1 := Lib.hid hr; have F1 := Lib.hid hf; clear hr hf)
      | (go_at_call 61; refine (SP.out _ F1.out).mono ?_; rintro e w2 ⟨rfl, hb⟩; have B2 := Lib.hid hb; have R2 := Lib.hid (R1.out.below hb); clear hb)
      | (go_at_call 46; refine (fail_any R2.out _).mono ?_; rintro e w3 ⟨rfl, hr, hf⟩; have R3 := Lib.hid hr; have F3 := Lib.hid hf; clear hr hf))
    go_ret
    exact ⟨rfl, R3.out, (F1.out.call B2.out).trans F3.out (fun _ _ e => e)⟩
  · have SP := Lib.hid (fun W (hW : Far (fun i => i = b) w W) => split_ok (s := x) (w := W) (by omega) (hl.far hW (fun e => hb e)) hg)
    clear hl
    obtain ⟨bo, hbo⟩ : ∃ bo, bo = x.extract f (f + n) := ⟨_, rfl⟩
    obtain ⟨re, hre⟩ : ∃ re, re = x.extract (f + n) x.size := ⟨_, rfl⟩
    rw [← hbo, ← hre] at SP
    have hR : Nod.readText x = if l then none else some bo := by
      unfold Nod.readText Nod.splitB
      rw [hg, hbo]
      cases l <;> rfl
    clear hbo hre
    cases l
    · rw [hR]
      clear hR hg
      simp only [Bool.false_eq_true, if_false]
      go_enter Tryd.func50, Tryd.ntmps50
      go_wp2_with (first
        | (go_at_call 64; refine NX.out.mono ?_; rintro e w1 ⟨rfl, hr, hf⟩; have R1 := Lib.hid hr; have F1 := Lib.hid hf; clear hr hf)
        | (go_at_call 61; refine (SP.out _ F1.out).mono ?_; rintro e w2 ⟨rfl, hb⟩; have B2 := Lib.hid hb; have R2 := Lib.hid (R1.out.below hb); clear hb)
        | (go_at_call 46; refine (fail_any R2.out _).mono ?_; rintro e w3 ⟨rfl, hr, hf⟩; have R3 := Lib.hid hr; have F3 := Lib.hid hf; clear hr hf))
      go_ret
      exact ⟨rfl, R2.out, F1.out.call B2.out⟩
    · rw [hR]
      clear hR hg
      simp only [if_true]
      go_enter Tryd.func50, Tryd.ntmps50
      go_wp2_with (first
        | (go_at_call 64; refine NX.out.mono ?_; rintro e w1 ⟨rfl, hr, hf⟩; have R1 := Lib.hid hr; have F1 := Lib.hid hf; clear hr hf)
        | (go_at_call 61; refine (SP.out _ F1.out).mono ?_; rintro e w2 ⟨rfl, hb⟩; have B2 := Lib.hid hb; have R2 := Lib.hid (R1.out.below hb); clear hb)
        | (go_at_call 46; refine (fail_any R2.out _).mono ?_; rintro e w3 ⟨rfl, hr, hf⟩; have R3 := Lib.hid hr; have F3 := Lib.hid hf; clear hr hf))
      go_ret
      exact ⟨rfl, R3.out, (F1.out.call B2.out).trans F3.out (fun _ _ e => e)⟩
end Go.Proofs.YtlbebdkockejcaaDoor
