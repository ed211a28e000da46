/-
  Package lease: Replay.
-/
import Derived.Test.YtjladlniilacjaaLeaKept
namespace Go.Proofs.Ytjladlniilacjaa
open Go.RowKit Go.Proofs.Lea
set_option linter.unusedVariables false
set_option linter.unusedSimpArgs false
theorem flatA_at : ∀ (l : List Ans) (j : Nat) (a : Ans), l[j]? = some a → (flatA l)[j * 2]? = some (.int .i64 a.1) ∧ (flatA l)[j * 2 + 1]? = some (.string a.2)
  | [], _, _, h => by simp at h
  | x :: r, 0, a, h => by
    simp at h
    subst h
    simp [flatA, List.flatMap_cons]
  | x :: r, j + 1, a, h => by
    have := flatA_at r j a (by simpa using h)
    have e : flatA (x :: r) = .int .i64 x.1 :: .string x.2 :: flatA r := by simp [flatA, List.flatMap_cons]
    rw [e, show (j + 1) * 2 = (j * 2) + 2 by omega, show (j * 2) + 2 + 1 = (j * 2 + 1) + 2 by omega]
    exact this
theorem seq_any (x : Int) (s : ByteArray) (seq : Int) (b : Nat) (w : World) (hb : b < w.heap.size) (hc : w.cell? ⟨b, 0, none⟩ = some (.int .i64 seq)) :
    Calls Try.prog 48 #[.agg #[.int .i64 x, .string s], .pointer (some ⟨b, 0, none⟩)] w fun e w' => e = .returned (.bool (decide (x = seq))) ∧ Below w.heap.size w w' := by
  have HB := Lib.hid ((Below.refl w.heap.size w).alloc (Nat.le_refl _) (.cells #[.int .i64 x, .string s] 105))
  have hne : b ≠ w.heap.size := by omega
  by_cases h : x = seq
  · rw [decide_eq_true h]
    have h2 : (x == seq) = true := by simpa using h
    have HX := Lib.hid h
    clear h
    go_enter Try.func48, Try.ntmps48
    go_wp2_with fail
    go_ret
    exact ⟨rfl, HB.out⟩
  · rw [decide_eq_false h]
    have h2 : (x == seq) = false := by simpa using h
    clear h
    go_enter Try.func48, Try.ntmps48
    go_wp2_with fail
    go_ret
    exact ⟨rfl, HB.out⟩
theorem find_at (l : List Ans) (seq : Int) (k : Nat) (a : Ans) (h : l[k]? = some a) (hs : a.1 = seq) (hn : ∀ (j : Nat) (u : Ans), j < k → l[j]? = some u → u.1 ≠ seq) : l.find? (fun a => decide (a.1 = seq)) = some a := by
  have hp : l = l.take k ++ a :: l.drop (k + 1) := by
    have hlt := (List.getElem?_eq_some_iff.1 h).1
    have h1 := (List.take_append_drop k l).symm
    rw [List.drop_eq_getElem_cons hlt, (List.getElem?_eq_some_iff.1 h).2] at h1
    exact h1
  rw [hp, List.find?_append]
  have : (l.take k).find? (fun a => decide (a.1 = seq)) = none := by
    rw [List.find?_eq_none]
    intro x hx
    obtain ⟨j, hj⟩ := List.getElem?_of_mem hx
    have hjk : j < k := by have := (List.getElem?_eq_some_iff.1 hj).1; simp at this; omega
    rw [List.getElem?_take_of_lt hjk] at hj
    simpa using hn j x hjk hj
  rw [this]
  simp [hs]
set_option maxRecDepth 100000 in
set_option maxHeartbeats 2000000 in
theorem ansIdx_any (A : Option Addr) (c : Nat) (l : List Ans) (seq : Int) (bx : Nat) (w : World) (hS : Vs w A (flatA l)) (hl : l.length ≤ 1000) (hB : bx < w.heap.size) (hc : w.cell? ⟨bx, 0, none⟩ = some (.int .i64 seq)) :
    Calls Try.prog 47 #[.slice A l.length c, .func (.func 48) #[] #[.pointer (some ⟨bx, 0, none⟩)]] w fun e w' =>
      ((∃ (j : Nat) (a : Ans), e = .returned (.int .i64 (j : Int)) ∧ l[j]? = some a ∧ l.find? (fun a => decide (a.1 = seq)) = some a) ∨ (e = .returned (.int .i64 (-1)) ∧ l.find? (fun a => decide (a.1 = seq)) = none)) ∧ Below w.heap.size w w' := by
  have HS := Lib.hid hS
  have HC := Lib.hid hc
  clear hS hc
  have eg : ∀ args w, (callFunc 48 args).run Try.prog w = .ok (.enter 48 args) w := enters_of Try.func48 (by kernel_rfl) rfl
  go_enter Try.func47, Try.ntmps47
  go_wp2_with fail
  go_loopw [8] (fun vi wr => ∃ k : Nat, vi = .int .i64 (k : Int) ∧ k ≤ l.length ∧ Hid (∀ (j : Nat) (u : Ans), j < k → l[j]? = some u → u.1 ≠ seq) ∧ Hid (Below w.heap.size w wr)) (fun vi _ => l.length - (intOf vi).toNat)
  case atStart => exact ⟨0, rfl, Nat.zero_le _, Lib.hid (fun j u h => absurd h (by omega)), Lib.hid (Below.refl _ _)⟩
  case round =>
    obtain ⟨k, rfl, hk, HN, HB⟩ := hrel
    by_cases hlt : k < l.length
    · obtain ⟨⟨tk, tv⟩, ht⟩ : ∃ t, l[k]? = some t := ⟨_, List.getElem?_eq_getElem hlt⟩
      obtain ⟨f0, f1⟩ := flatA_at l k _ ht
      obtain ⟨b, o, rfl, _, hcc⟩ := (HS.out.below HB.out).at_ _ _ f0
      have d0 := hcc _ _ f0
      have d1 := hcc _ _ f1
      rw [← Nat.add_assoc] at d1
      simp only at d0 d1
      have i1 : (k : Int) < (l.length : Int) := by omega
      have wk : IntKind.i64.wrap ((k : Int) + 1) = (k : Int) + 1 := IntWalk.i64_in _ (by omega)
      have hcall := seq_any tk tv seq bx wr (Nat.lt_of_lt_of_le hB HB.out.size) ((HB.out.cell (p := ⟨bx, 0, none⟩) hB).trans HC.out)
      have CALL := Lib.hid hcall
      have HT := Lib.hid ht
      clear hcall ht hcc f0 f1
      by_cases he : tk = seq
      · rw [decide_eq_true he] at CALL
        have HE := Lib.hid he
        clear he
        go_wp2_with (go_at_fn 48; refine CALL.out.mono ?_; rintro e w1 ⟨rfl, hb⟩; have HB1 := Lib.hid hb; clear hb)
        go_ret
        exact ⟨.inl ⟨k, (tk, tv), rfl, HT.out, find_at l seq k _ HT.out HE.out HN.out⟩, HB.out.trans (HB1.out.mono HB.out.size)⟩
      · rw [decide_eq_false he] at CALL
        have HE := Lib.hid he
        clear he
        go_wp2_with (go_at_fn 48; refine CALL.out.mono ?_; rintro e w1 ⟨rfl, hb⟩; have HB1 := Lib.hid hb; clear hb)
        refine ⟨⟨k + 1, by go_num, by omega, Lib.hid ?_, Lib.hid (HB.out.trans (HB1.out.mono HB.out.size))⟩, by simp [intOf]; omega⟩
        intro j u hj hu
        rcases Nat.lt_or_ge j k with h | h
        · exact HN.out j u h hu
        · obtain rfl : j = k := by omega
          rw [HT.out] at hu
          cases hu
          exact HE.out
    · obtain rfl : k = l.length := by omega
      go_wp2_with fail
      go_ret
      refine ⟨.inr ⟨rfl, ?_⟩, HB.out⟩
      rw [List.find?_eq_none]
      intro x hx
      obtain ⟨j, hj⟩ := List.getElem?_of_mem hx
      simpa using HN.out j x (List.getElem?_eq_some_iff.1 hj).1 hj
theorem bdrew {a b : World} (h : Below a.heap.size a b) (n : Nat) : Below a.heap.size a (b.drewN n) := h.trans (((Far.refl (fun _ => False) b).drewN n).below h.size (fun _ e => e.elim))
section
variable {B m : Nat} {t : Tbl} {vs : Nat → Value} {ve : Value} {w : World}
theorem Lt.there (h : Lt B m t vs ve w) (id : Int) :
    Calls Try.prog 46 #[.pointer (some ⟨m, 0, none⟩), .int .i64 id] w fun e w' => e = .returned (.tuple #[ptrO m (t.there id), errO id (t.there id)]) ∧ Below w.heap.size w w' := there_any m t vs ve id w h.blk
set_option maxRecDepth 100000 in
set_option maxHeartbeats 2000000 in
theorem replay_any (h : Lt B m t vs ve w) (id seq : Int) :
    Calls Try.prog 22 #[.pointer (some ⟨m, 0, none⟩), .int .i64 id, .int .i64 seq] w fun e w' => e = .returned (.tuple #[.string (t.replay id seq).1, .int .i64 (t.replay id seq).2]) ∧ Below w.heap.size w w' := by
  have HB0 := Lib.hid ((Bl.start w).alloc (.cells #[.int .i64 seq] 3))
  have KB := Lib.hid (Blk.new w 3 #[.int .i64 seq])
  have hW := h.below HB0.out.1
  have TH := Lib.hid (hW.there id)
  unfold Tbl.replay
  cases hth : t.there id with
  | none =>
    rw [hth] at TH
    unfold ptrO errO at TH
    simp only at TH ⊢
    have NU := Lib.hid (fun W => number_5 id W)
    clear h hW
    go_enter Try.func22, Try.ntmps22
    go_wp2_with (first
      | (go_at_call 46; refine TH.out.mono ?_; rintro e w1 ⟨rfl, hb⟩; have B1 := Lib.hid (HB0.out.call hb); clear hb)
      | (go_at_call 45; refine (NU.out _).mono ?_; rintro e w2 ⟨rfl, hb⟩; have B2 := Lib.hid (B1.out.call hb); clear hb))
    go_ret2
    exact ⟨rfl, B2.out.1⟩
  | some i =>
    obtain ⟨hi, _, _⟩ := there_facts hth
    rw [hth] at TH
    unfold ptrO errO slotP at TH
    simp only at TH ⊢
    have HIT := Lib.hid (fun W hb => hW.hit i hi W hb)
    obtain ⟨A, c, hv, _, hS⟩ := Vs.of_own (hW.rows i hi) (flatA_length _)
    have hk2 := h.ok.kept i hi
    obtain ⟨l, hl⟩ : ∃ z, z = (t.sl i).kept := ⟨_, rfl⟩
    rw [← hl] at hS hv hk2 ⊢
    obtain ⟨x3, hx3⟩ : ∃ z, z = (t.sl i).s.last := ⟨_, rfl⟩
    have HX := Lib.hid hx3
    rw [← hx3]
    have HV := Lib.hid hv
    have AI := Lib.hid (fun W (hb : Below (w.alloc (.cells #[.int .i64 seq] 3)).heap.size (w.alloc (.cells #[.int .i64 seq] 3)) W) => ansIdx_any A c l seq w.heap.size W (hS.below hb) (by omega) (by have := hb.size; simp at this; omega) (by rw [(KB.out.below hb).cell]; rfl))
    have SS := Lib.hid (fun W hb => hS.below (w' := W) hb)
    clear h hW hv hl hx3 hth hi
    by_cases hq : x3 < seq
    · rw [if_pos hq]
      have q1 : decide (seq > x3) = true := decide_eq_true hq
      clear hq
      go_enter Try.func22, Try.ntmps22
      go_wp2_with ((go_at_call 46; refine TH.out.mono ?_; rintro e w1 ⟨rfl, hb⟩; have B1 := Lib.hid (HB0.out.call hb); have HW := HIT.out w1 hb; have d3 := HW.c3; rw [← HX.out] at d3; have d0 : w1.cell? ⟨w.heap.size, 0, none⟩ = some (.int .i64 seq) := (KB.out.below hb).cell 0; clear hb HW))
      go_quiet (fail)
      go_wp2_with fail
      go_ret2
      exact ⟨rfl, (B1.out.drewN _).1⟩
    · rw [if_neg hq]
      have q1 : decide (seq > x3) = false := decide_eq_false hq
      have q2 : ¬ seq > x3 := hq
      have q3 : seq ≤ x3 := by omega
      clear hq
      cases hf : l.find? (fun a => decide (a.1 = seq)) with
      | none =>
        simp only
        have AJ : Hid (∀ W, Below (w.alloc (.cells #[.int .i64 seq] 3)).heap.size (w.alloc (.cells #[.int .i64 seq] 3)) W → Calls Try.prog 47 #[.slice A l.length c, .func (.func 48) #[] #[.pointer (some ⟨w.heap.size, 0, none⟩)]] W fun e w' => e = .returned (.int .i64 (-1)) ∧ Below W.heap.size W w') := Lib.hid (fun W hb => (AI.out W hb).mono fun e w' ⟨h1, h2⟩ => by
          rcases h1 with ⟨j, a, _, _, h3⟩ | ⟨h3, _⟩
          · rw [hf] at h3; cases h3
          · exact ⟨h3, h2⟩)
        clear AI hf
        go_enter Try.func22, Try.ntmps22
        go_wp2_with ((go_at_call 46; refine TH.out.mono ?_; rintro e w1 ⟨rfl, hb⟩; have B0 := Lib.hid hb; have B1 := Lib.hid (HB0.out.call hb); have HW := HIT.out w1 hb; have d3 := HW.c3; rw [← HX.out] at d3; have d4 := HW.c4; rw [HV.out] at d4; have d0 : w1.cell? ⟨w.heap.size, 0, none⟩ = some (.int .i64 seq) := (KB.out.below hb).cell 0; clear hb HW))
        go_quiet (fail)
        go_wp2_with ((go_at_call 47; refine (AJ.out _ (bdrew B0.out _)).mono ?_; rintro e w2 ⟨rfl, hb2⟩; have B2 := Lib.hid ((B1.out.drewN _).call hb2); clear hb2))
        go_ret2
        exact ⟨rfl, B2.out.1⟩
      | some a =>
        simp only
        obtain ⟨a1, a2⟩ := a
        have AJ : Hid (∀ W, Below (w.alloc (.cells #[.int .i64 seq] 3)).heap.size (w.alloc (.cells #[.int .i64 seq] 3)) W → Calls Try.prog 47 #[.slice A l.length c, .func (.func 48) #[] #[.pointer (some ⟨w.heap.size, 0, none⟩)]] W fun e w' => ∃ j : Nat, e = .returned (.int .i64 (j : Int)) ∧ l[j]? = some (a1, a2) ∧ Below W.heap.size W w') := Lib.hid (fun W hb => (AI.out W hb).mono fun e w' ⟨h1, h2⟩ => by
          rcases h1 with ⟨j, a, h4, h5, h3⟩ | ⟨_, h3⟩
          · rw [hf] at h3; cases h3; exact ⟨j, h4, h5, h2⟩
          · rw [hf] at h3; cases h3)
        clear AI hf
        go_enter Try.func22, Try.ntmps22
        go_wp2_with ((go_at_call 46; refine TH.out.mono ?_; rintro e w1 ⟨rfl, hb⟩; have B0 := Lib.hid hb; have B1 := Lib.hid (HB0.out.call hb); have HW := HIT.out w1 hb; have d3 := HW.c3; rw [← HX.out] at d3; have d4 := HW.c4; rw [HV.out] at d4; have d0 : w1.cell? ⟨w.heap.size, 0, none⟩ = some (.int .i64 seq) := (KB.out.below hb).cell 0; clear hb HW))
        go_quiet (fail)
        go_wp2_with ((go_at_call 47; refine (AJ.out _ (bdrew B0.out _)).mono ?_; rintro e w2 ⟨j, rfl, hj, hb2⟩; (have B2 := Lib.hid ((B1.out.drewN _).call hb2)); (have B3 := Lib.hid (Below.trans (bdrew B0.out _) (hb2.mono (bdrew B0.out _).size))); (have HW := HIT.out _ B3.out); (have e4 := HW.c4); (rw [HV.out] at e4); (obtain ⟨f0, f1⟩ := flatA_at l j _ hj); (obtain ⟨b, o, hA, _, hcc⟩ := (SS.out _ B3.out).at_ _ _ f0); (have g1 := hcc _ _ f1); (rw [← Nat.add_assoc] at g1); (simp only at g1); (have hjl := (List.getElem?_eq_some_iff.1 hj).1); (have i1 : (j : Int) < (l.length : Int) := by omega); (have i2 : ¬ (j : Int) < 0 := by omega); (have i3 : decide ((j : Int) < 0) = false := decide_eq_false i2); (rw [hA] at e4); (clear hb2 HW hcc f0 f1 hj hA d4)))
        go_ret2
        exact ⟨rfl, B2.out.1⟩
end
end Go.Proofs.Ytjladlniilacjaa
