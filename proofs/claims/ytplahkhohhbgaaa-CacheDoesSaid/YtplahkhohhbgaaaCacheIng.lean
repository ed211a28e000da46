/-
  Package cache: slices.Insert of one thing at the first place: where there is no room; where there is nothing yet; all cases.
-/
import Derived.Test.YtplahkhohhbgaaaCacheIns
import Derived.Lib.AppendZerosOnto
import Derived.Laws.NewBlocks
import Derived.Maps.AppendAt
namespace Go.Proofs.Ytplahkhohhbgaaa
open Go.RowKit Go.Proofs.Cch Go.Lib
set_option linter.unusedVariables false
set_option linter.unusedSimpArgs false
theorem ins_row2 (ts : Things) (x : ByteArray × ByteArray) (cur : List Value) (hs : (ts.length + 1) * 2 ≤ cur.length) :
    (splice (splice cur 0 [.string x.1, .string x.2]) 2 (flat ts)).take ((ts.length + 1) * 2) = flat (x :: ts) := by
  have hf := flat_length ts
  have h0 : splice cur 0 [.string x.1, .string x.2] = .string x.1 :: .string x.2 :: cur.drop 2 := by simp [splice]
  rw [h0]
  unfold splice
  rw [flat_cons]
  simp only [List.take_succ_cons, List.take_zero, List.cons_append, List.nil_append]
  rw [show (ts.length + 1) * 2 = (ts.length * 2 + 1) + 1 by omega, List.take_succ_cons, List.take_succ_cons, List.take_append_of_le_length (by omega), List.take_of_length_le (by omega)]
set_option maxRecDepth 100000 in
set_option maxHeartbeats 2000000 in
theorem insert_grow (k n cap : Nat) (cur : List Value) (ts : Things) (x : ByteArray × ByteArray) (q : Nat) (w : World) (hn : ts.length = n) (h0 : 0 < n) (hl : n ≤ 1000) (hle : n ≤ cap) (hroom : cap < n + 1)
    (hk : Blk w k 83 cur.toArray) (hsz : cur.length = cap * 2) (hcur : cur.take (n * 2) = flat ts) (hq : Blk w q 83 #[.string x.1, .string x.2]) :
    Calls Try.prog 51 #[.slice (some ⟨k, 0, none⟩) n cap, .int .i64 0, .slice (some ⟨q, 0, none⟩) 1 1] w fun e w' =>
      ∃ G, e = .returned (.slice (some ⟨w.heap.size, 0, none⟩) (n + 1) G) ∧ n + 1 ≤ G ∧ G ≤ maxLen ∧ (∃ L : List Value, Blk w' w.heap.size 83 L.toArray ∧ L.length = G * 2 ∧ L.take ((n + 1) * 2) = flat (x :: ts)) ∧ Below w.heap.size w w' := by
  have hfl := flat_length ts
  obtain ⟨fl, hF⟩ : ∃ l, l = flat ts := ⟨_, rfl⟩
  rw [← hF] at hfl hcur
  obtain ⟨N, hN⟩ : ∃ N, N = w.heap.size := ⟨_, rfl⟩
  obtain ⟨i0, hi0, hz0, hz1, hz2⟩ := info_parts infoThing
  have sA : ∀ W : World, (Instr.slice 74 (.slice (some ⟨k, 0, none⟩) n cap) (some (.int .i64 0)) none none).run Try.prog W = .ok (.slice (some ⟨k, 0, none⟩) n cap) W := fun W => by
    rw [run_slice_l W 74 (some ⟨k, 0, none⟩) n cap elemThs .i64 0 (by omega) (by omega), sizeThs]
    simp [Result.andThen, sliced, Addr.add]
  have sE : ∀ W : World, (Instr.slice 74 (.slice (some ⟨k, 0, none⟩) n cap) none (some (.int .i64 0)) none).run Try.prog W = .ok (.slice (some ⟨k, 0, none⟩) 0 cap) W := fun W => by
    rw [run_slice_h W 74 (some ⟨k, 0, none⟩) n cap elemThs .i64 0 (by omega) (by omega), sizeThs]
    simp [Result.andThen, sliced, Addr.add]
  have hrz : ∀ ty, (Builtin.append_ #[74, 3] ty #[.slice (some ⟨k, 0, none⟩) 0 cap, .int .i64 ((n : Int) + 1)]).run Try.prog w = .ok (.slice (some ⟨w.heap.size, 0, none⟩) (0 + (n + 1)) (grownCap w (0 + (n + 1)) cap 83)) (w.drew.alloc (.cells (([] : List Value).toArray ++ Builtin.zeroCells (Value.agg #[.string ⟨#[]⟩, .string ⟨#[]⟩]).cells (n + 1) ++ Builtin.zeroCells (Value.agg #[.string ⟨#[]⟩, .string ⟨#[]⟩]).cells (grownCap w (0 + (n + 1)) cap 83 - (0 + (n + 1)))) 83)) := fun ty => by
    have h := Lib.run_append_grow_zeros w 74 3 ty 83 i0 _ .i64 .i64 Try.underlying74 Try.underlying3 hi0 hz0 (some ⟨k, 0, none⟩) 0 cap [] (by
      rw [hz1]
      exact run_firstCells_some w.drew 2 0 ⟨k, 0, none⟩ 0 cap [] (by simp) (by simp)) (n + 1) (by omega) (by rw [hz1]; omega) (by omega) (by omega) (by rw [hz2]; omega) (by rw [hz2]; exact growslice_fits (by omega) (by omega))
    rw [show ((n + 1 : Nat) : Int) = (n : Int) + 1 by omega] at h
    exact h
  obtain ⟨G, hG⟩ : ∃ G, G = grownCap w (0 + (n + 1)) cap 83 := ⟨_, rfl⟩
  have hGn : n + 1 ≤ G := by rw [hG]; have := grownCap_ge w (0 + (n + 1)) cap 83; omega
  have hGm : G ≤ maxLen := by rw [hG]; exact grownCap_le_maxLen w (0 + (n + 1)) cap 83 (by unfold maxLen; omega)
  rw [← hG] at hrz
  obtain ⟨R, hRw⟩ : ∃ R : Array Value, R = (([] : List Value).toArray ++ Builtin.zeroCells (Value.agg #[.string ⟨#[]⟩, .string ⟨#[]⟩]).cells (n + 1) ++ Builtin.zeroCells (Value.agg #[.string ⟨#[]⟩, .string ⟨#[]⟩]).cells (G - (0 + (n + 1)))) := ⟨_, rfl⟩
  have hRl : R.size = G * 2 := by
    rw [hRw]
    simp [Builtin.zeroCells, Value.cells]
    omega
  rw [← hRw, ← hN, show 0 + (n + 1) = n + 1 by omega] at hrz
  obtain ⟨RL, hRL⟩ : ∃ RL : List Value, RL.toArray = R := ⟨R.toList, by simp⟩
  rw [← hRL] at hrz hRl
  have hRLl : RL.length = G * 2 := by simpa using hRl
  obtain ⟨W1, hW1⟩ : ∃ W1, W1 = w.drew.alloc (.cells RL.toArray 83) := ⟨_, rfl⟩
  rw [← hW1] at hrz
  have b1 : Blk W1 N 83 RL.toArray := by rw [hW1, hN]; exact Blk.new w.drew _ _
  have bel : Below w.heap.size w W1 := by rw [hW1]; exact ((Below.refl _ w).drew).alloc (Nat.le_refl _) _
  have bk : Blk W1 k 83 cur.toArray := hk.below bel
  have bq : Blk W1 q 83 #[.string x.1, .string x.2] := hq.below bel
  have hkN : k ≠ N := by have := hk.lt; omega
  have sN : ∀ W : World, (Instr.slice 74 (.slice (some ⟨N, 0, none⟩) (n + 1) G) (some (.int .i64 0)) none none).run Try.prog W = .ok (.slice (some ⟨N, 0, none⟩) (n + 1) G) W := fun W => by
    rw [run_slice_l W 74 (some ⟨N, 0, none⟩) (n + 1) G elemThs .i64 0 (by omega) (by omega), sizeThs]
    simp [Result.andThen, sliced, Addr.add]
  have sM : ∀ W : World, (Instr.slice 74 (.slice (some ⟨N, 0, none⟩) (n + 1) G) (some (.int .i64 1)) none none).run Try.prog W = .ok (.slice (some ⟨N, 2, none⟩) n (G - 1)) W := fun W => by
    rw [run_slice_l W 74 (some ⟨N, 0, none⟩) (n + 1) G elemThs .i64 1 (by omega) (by omega), sizeThs]
    simp only [Result.andThen, sliced]
    rw [if_neg (by simp; omega)]
    simp [Addr.add]
  have wn : IntKind.i64.wrap ((n : Int) + 1) = (n : Int) + 1 := IntWalk.i64_in _ (by omega)
  have w11 : IntKind.i64.wrap 1 = 1 := by decide
  have i1 : (cap : Int) < (n : Int) + 1 := by omega
  have i2 : ¬ (0 : Int) = (n : Int) := by omega
  have hcp1 : ∀ ty, (Builtin.copy_ #[74, 74] ty #[.slice (some ⟨N, 0, none⟩) (n + 1) G, .slice (some ⟨q, 0, none⟩) 1 1]).run Try.prog W1 = .ok (goInt 1) (W1.setCells N 0 [.string x.1, .string x.2]) := fun ty =>
    copy_two W1 ty N 0 (n + 1) G ⟨q, 0, none⟩ 1 1 1 [.string x.1, .string x.2] _ (by simp [Nat.min_def]) rfl b1 (by rw [hRLl]; simp; omega) (fun j v hj => by
      rw [Addr.add_mid, Nat.zero_add, bq.cell, List.getElem?_toArray]
      exact hj) (by simp [Value.oneCell'])
  obtain ⟨W2, hW2⟩ : ∃ W2, W2 = W1.setCells N 0 [.string x.1, .string x.2] := ⟨_, rfl⟩
  rw [← hW2] at hcp1
  have b2 : Blk W2 N 83 (splice RL 0 [.string x.1, .string x.2]).toArray := by rw [hW2]; exact Blk.setCells _ 0 RL W1 b1 (by rw [hRLl]; simp; omega)
  have f2 : Far (fun j => j = N) W1 W2 := by rw [hW2]; exact far_setCells (S := fun j => j = N) (fun _ => rfl) _ _ _ (Far.refl _ W1)
  have bk2 : Blk W2 k 83 cur.toArray := bk.far f2 hkN
  have hl2 : (splice RL 0 [Value.string x.1, .string x.2]).length = G * 2 := by rw [length_splice _ _ _ (by rw [hRLl]; simp; omega)]; exact hRLl
  have hcp2 : ∀ ty, (Builtin.copy_ #[74, 74] ty #[.slice (some ⟨N, 2, none⟩) n (G - 1), .slice (some ⟨k, 0, none⟩) n cap]).run Try.prog W2.drew = .ok (goInt n) (W2.drew.setCells N 2 fl) := fun ty =>
    copy_two W2.drew ty N 2 n (G - 1) ⟨k, 0, none⟩ n cap n fl _ (by simp [Nat.min_def]) (by rw [hfl, hn]) b2 (by rw [hl2, hfl]; omega) (fun j v hj => by
      have hlt := (List.getElem?_eq_some_iff.1 hj).1
      rw [Addr.add_mid, Nat.zero_add, (show Blk W2.drew k _ _ from bk2).cell, List.getElem?_toArray]
      rw [← hcur, List.getElem?_take_of_lt (by omega)] at hj
      exact hj) (by rw [hF]; exact flat_one ts)
  obtain ⟨L3, hL3⟩ : ∃ L3, L3 = splice (splice RL 0 [Value.string x.1, .string x.2]) 2 fl := ⟨_, rfl⟩
  have b3 := Blk.setCells fl 2 _ W2.drew b2 (by rw [hl2, hfl]; omega)
  have f3 : Far (fun j => j = N) W1 (W2.drew.setCells N 2 fl) := far_setCells (S := fun j => j = N) (fun _ => rfl) _ _ _ f2.drew
  have bel3 : Below w.heap.size w (W2.drew.setCells N 2 fl) := bel.trans (f3.below (by rw [hW1]; simp) (fun i hi => by omega))
  rw [← hL3] at b3
  have hl3 : L3.length = G * 2 := by rw [hL3, length_splice _ _ _ (by rw [hl2, hfl]; omega)]; exact hl2
  have htk : L3.take ((n + 1) * 2) = flat (x :: ts) := by
    have := ins_row2 ts x RL (by rw [hn, hRLl]; omega)
    rw [← hF, ← hL3, hn] at this
    exact this
  have HC1 := Lib.hid hcp1
  have HC2 := Lib.hid hcp2
  have B3 := Lib.hid b3
  have BEL := Lib.hid bel3
  have HL3 := Lib.hid hl3
  have HTK := Lib.hid htk
  have HGN := Lib.hid hGn
  have HGM := Lib.hid hGm
  have HN := Lib.hid hN
  have HRZ := Lib.hid hrz
  clear hcp1 hcp2 b1 b2 b3 f2 f3 bk bk2 bq bel bel3 hl2 hl3 htk hW1 hW2 hL3 hRL hRl hRLl hRw hG hGn hGm hF hn hfl hcur hk hq hsz hN hrz hi0 hz0 hz1 hz2 hkN
  go_enter Try.func51, Try.ntmps51
  have hc1 := HC1.out
  go_wp2_with (at_builtin; refine Lib.wpList_append_run _ rfl _ _ _ _ rfl _ _ rfl rfl _ _ (HRZ.out _) ?_)
  go_region_law (refine step_copy_runI rfl (.tmp 50) (.tmp 53) 74 74 rfl (.slice (some ⟨N, 2, none⟩) n (G - 1)) (.slice (some ⟨k, 0, none⟩) n cap) (by simp [Act.eval, Act.put]) (by simp [Act.eval, Act.put]) (HC2.out _) ?_)
  go_wp2_with fail
  go_ret
  rw [← HN.out]
  exact ⟨G, rfl, HGN.out, HGM.out, ⟨L3, B3.out, HL3.out, HTK.out⟩, by have := BEL.out; rw [← HN.out] at this; exact this⟩
set_option maxRecDepth 100000 in
set_option maxHeartbeats 2000000 in
theorem insert_first (B : Nat) (A : Option Addr) (c : Nat) (x : ByteArray × ByteArray) (q : Nat) (w : World) (hR : Rt w B (.slice A 0 c) []) (hB : B ≤ w.heap.size) (hq : Blk w q 83 #[.string x.1, .string x.2]) :
    Calls Try.prog 51 #[.slice A 0 c, .int .i64 0, .slice (some ⟨q, 0, none⟩) 1 1] w fun e w' =>
      ∃ v', e = .returned v' ∧ Rt w' B v' [x] ∧ w.grownBy w' (Value.slice A 0 c).ownBlock ∧ (v'.ownBlock = (Value.slice A 0 c).ownBlock ∨ v'.ownBlock = some w.heap.size) := by
  obtain ⟨i0, hi0, hz0, hz1, hz2⟩ := info_parts infoThing
  obtain ⟨v', w', hrun, hown, hg, _, ho⟩ := run_append_own_at (P := Try.prog) (w := w) B 74 74 83 i0 _ 2 32 Try.underlying74 hi0 hz0 hz1 hz2 rfl (by decide) _ 0 [] hR ⟨q, 0, none⟩ 1 1 [.string x.1, .string x.2] rfl
    (fun j u hu => by
      rw [Addr.add_mid, Nat.zero_add, hq.cell, List.getElem?_toArray]
      exact hu) (by simp [Value.oneCell']) (by simp [maxLen]) (by omega) hB
  obtain ⟨u0, hu0⟩ : ∃ u0, ∀ W : World, (Instr.slice 74 (.slice A 0 c) (some (.int .i64 0)) none none).run Try.prog W = .ok u0 W := ⟨_, fun W => by
    rw [run_slice_l W 74 A 0 c elemThs .i64 0 (by omega) (by omega), sizeThs]
    rfl⟩
  have HRUN := Lib.hid hrun
  have HO := Lib.hid hown
  have HG := Lib.hid hg
  have HOW := Lib.hid ho
  clear hrun hown hg ho hi0 hz0 hz1 hz2 hR hq
  have hrun := HRUN.out
  go_enter Try.func51, Try.ntmps51
  go_wp2_with (at_builtin; refine Lib.wpList_append_run _ rfl _ _ _ _ rfl _ _ rfl rfl _ _ HRUN.out ?_)
  go_ret
  refine ⟨_, rfl, ?_, HG.out, HOW.out⟩
  have := HO.out
  exact this
/-- What a row becomes. -/
theorem insert_any (B : Nat) (v : Value) (ts : Things) (x : ByteArray × ByteArray) (q : Nat) (w : World) (hR : Rt w B v ts) (hB : B ≤ w.heap.size) (hq : Blk w q 83 #[.string x.1, .string x.2]) (hqv : v.ownBlock ≠ some q) (hl : ts.length ≤ 1000) :
    Calls Try.prog 51 #[v, .int .i64 0, .slice (some ⟨q, 0, none⟩) 1 1] w fun e w' =>
      ∃ v', e = .returned v' ∧ Rt w' B v' (x :: ts) ∧ Far (fun j => v.ownBlock = some j) w w' ∧ (v'.ownBlock = v.ownBlock ∨ ∀ i, v'.ownBlock = some i → w.heap.size ≤ i) := by
  rcases hts : ts with _ | ⟨t0, tr⟩
  · subst hts
    obtain ⟨A, c, rfl, _, _⟩ := hR.th
    refine (insert_first B A c x q w hR hB hq).mono ?_
    rintro e w' ⟨v', rfl, h1, h2, h3⟩
    exact ⟨v', rfl, h1, (Far.refl _ w).grown h2 (fun i _ h => h), h3.imp id (fun h i hi => by rw [h] at hi; cases hi; exact Nat.le_refl _)⟩
  · rw [← hts]
    have hne : ts ≠ [] := by rw [hts]; simp
    have hpos : 0 < ts.length := by rw [hts]; simp
    clear hts
    obtain ⟨k, cap, cur, rfl, hBk, hk, hle, hcap, hsz, hcur⟩ := hR.block hne
    have hqk : q ≠ k := fun e => hqv (by rw [e]; rfl)
    by_cases hroom : ts.length + 1 ≤ cap
    · refine (insert_room B k ts.length cap cur ts x q w rfl hpos hl hroom hcap hk hsz hcur hq hqk).mono ?_
      rintro e w' ⟨rfl, ⟨L, hb, hL, ht⟩, F⟩
      exact ⟨_, rfl, ⟨by rw [flat_length], .inr ⟨k, cap, L.toArray, rfl, hBk, hb, hroom, hcap, by simp [hL], by rw [List.toList_toArray]; exact ht⟩⟩, F.mono (fun i _ h => by rw [h]; rfl), .inl rfl⟩
    · refine (insert_grow k ts.length cap cur ts x q w rfl hpos hl hle (by omega) hk hsz hcur hq).mono ?_
      rintro e w' ⟨G, rfl, hG1, hG2, ⟨L, hb, hL, ht⟩, bel⟩
      refine ⟨_, rfl, ⟨by rw [flat_length], .inr ⟨w.heap.size, G, L.toArray, rfl, hB, hb, hG1, hG2, by simp [hL], by rw [List.toList_toArray]; exact ht⟩⟩, ⟨bel.os, bel.tape, bel.output, bel.size, fun i hi _ => bel.block i hi⟩, .inr (fun i hi => by cases hi; exact Nat.le_refl _)⟩
end Go.Proofs.Ytplahkhohhbgaaa
