/-
  Package cache: slices.Insert of one thing at the first place: where there is room.
-/
import Derived.Test.YtplahkhohhbgaaaCacheDel
import Derived.Lib.Overlaps
import Derived.Laws.Externs
import Derived.Laws.IdiomCopy
import Derived.Shelf.Spec.SlicesInsert
namespace Go.Proofs.Ytplahkhohhbgaaa
open Go.RowKit Go.Proofs.Cch
set_option linter.unusedVariables false
set_option linter.unusedSimpArgs false
/-- copy of things. -/
theorem copy_two (w : World) (ty : TypeId) (b o dLen dCap : Nat) (a : Addr) (sLen sCap m : Nat) (cs cur : List Value) (hm : m = Nat.min sLen dLen) (hl : cs.length = m * 2) (hb : Blk w b 83 cur.toArray) (ho : o + cs.length ≤ cur.length)
    (hsrc : ∀ j v, cs[j]? = some v → w.cell? (a.add j) = some v) (h1 : ∀ v ∈ cs, v.oneCell' = true) :
    (Builtin.copy_ #[74, 74] ty #[.slice (some ⟨b, o, none⟩) dLen dCap, .slice (some a) sLen sCap]).run Try.prog w = .ok (goInt m) (w.setCells b o cs) := by
  have hld := run_loadCells_list (P := Try.prog) w a cs hsrc
  have hst := run_storeCells_cells (P := Try.prog) b o cs 0 w (by
    intro j hj
    rw [hb.cell, List.getElem?_toArray, List.getElem?_eq_getElem (by omega)]; rfl) (by intro j hj; exact hb.frozen _) h1
  obtain ⟨i0, hi0, hz0, hz1, hz2⟩ := info_parts infoThing
  rw [hl] at hld
  simp only [Nat.add_zero] at hst
  simp [Builtin.copy_, run_underlying Try.underlying74, Builtin.lenOf, Builtin.firstCells, sizeOf, typeInfo, hi0, hz1, ← hm, hld, hst]
theorem overlaps_no (w : World) (q k n c1 : Nat) (x y : Value) (cur : List Value) (hq : Blk w q 83 #[x, y]) (hk : Blk w k 83 cur.toArray) (hne : q ≠ k) (hcur : cur.length ≠ 0) (lb cb : Nat) :
    (callFunc 65 #[.slice (some ⟨q, 0, none⟩) 1 1, .slice (some ⟨k, 2, none⟩) lb cb]).run Try.prog w = .ok (.value (.bool false)) w := by
  rw [run_callFunc_extern Try.func65 (by kernel_rfl) (by kernel_rfl) (by kernel_rfl) (e := Extern.SlicesOverlaps.overlaps #[74, 74] #[4]) (by kernel_rfl),
    Lib.run_overlaps_apart w 74 4 83 Try.underlying74 2 (fun w => by kernel_rfl) ⟨q, 0, none⟩ ⟨k, 2, none⟩ 1 1 lb cb hne 83 83 2 cur.length
      (by simp [World.shape?, show w.heap[q]? = _ from hq]) (by simp [World.shape?, show w.heap[k]? = _ from hk]) hcur (hq.frozen 0) (hq.frozen 2)]
  rfl
theorem flat_cons (x : ByteArray × ByteArray) (ts : Things) : flat (x :: ts) = .string x.1 :: .string x.2 :: flat ts := by simp [flat, List.flatMap_cons]
theorem ins_row (ts : Things) (x : ByteArray × ByteArray) (cur : List Value) (hs : (ts.length + 1) * 2 ≤ cur.length) :
    (splice (splice cur 2 (flat ts)) 0 [.string x.1, .string x.2]).take ((ts.length + 1) * 2) = flat (x :: ts) := by
  have hf := flat_length ts
  unfold splice
  simp only [List.take_zero, List.nil_append, Nat.zero_add, List.length_cons, List.length_nil]
  rw [List.drop_append_of_le_length (by rw [List.length_take]; omega), List.drop_of_length_le (by rw [List.length_take]; omega), List.nil_append]
  rw [flat_cons, ← List.append_assoc]
  rw [List.take_append_of_le_length (by simp; omega), List.take_of_length_le (by simp; omega)]
  rfl
set_option maxRecDepth 100000 in
set_option maxHeartbeats 2000000 in
theorem insert_room (B : Nat) (k n cap : Nat) (cur : List Value) (ts : Things) (x : ByteArray × ByteArray) (q : Nat) (w : World) (hn : ts.length = n) (h0 : 0 < n) (hl : n ≤ 1000) (hroom : n + 1 ≤ cap) (hcap : cap ≤ maxLen)
    (hk : Blk w k 83 cur.toArray) (hsz : cur.length = cap * 2) (hcur : cur.take (n * 2) = flat ts) (hq : Blk w q 83 #[.string x.1, .string x.2]) (hqk : q ≠ k) :
    Calls Try.prog 51 #[.slice (some ⟨k, 0, none⟩) n cap, .int .i64 0, .slice (some ⟨q, 0, none⟩) 1 1] w fun e w' =>
      e = .returned (.slice (some ⟨k, 0, none⟩) (n + 1) cap) ∧ (∃ L : List Value, Blk w' k 83 L.toArray ∧ L.length = cap * 2 ∧ L.take ((n + 1) * 2) = flat (x :: ts)) ∧ Far (fun j => j = k) w w' := by
  have hov := fun lb cb => overlaps_no w q k n cap (.string x.1) (.string x.2) cur hq hk hqk (by omega) lb cb
  have hfl := flat_length ts
  obtain ⟨fl, hF⟩ : ∃ l, l = flat ts := ⟨_, rfl⟩
  rw [← hF] at hfl hcur
  have sA : ∀ (W : World) (m : Nat), (Instr.slice 74 (.slice (some ⟨k, 0, none⟩) m cap) (some (.int .i64 0)) none none).run Try.prog W = .ok (.slice (some ⟨k, 0, none⟩) m cap) W := fun W m => by
    rw [run_slice_l W 74 (some ⟨k, 0, none⟩) m cap elemThs .i64 0 (by omega) (by omega), sizeThs]
    simp [Result.andThen, sliced, Addr.add]
  have sB : ∀ W : World, (Instr.slice 74 (.slice (some ⟨k, 0, none⟩) n cap) none (some (.int .i64 ((n : Int) + 1))) none).run Try.prog W = .ok (.slice (some ⟨k, 0, none⟩) (n + 1) cap) W := fun W => by
    rw [show ((n : Int) + 1) = ((n + 1 : Nat) : Int) by omega, run_slice_h W 74 (some ⟨k, 0, none⟩) n cap elemThs .i64 ((n + 1 : Nat) : Int) (by omega) (by omega), sizeThs]
    simp only [Result.andThen, sliced, Int.toNat_natCast]
    simp [Addr.add]
  have sC : ∀ W : World, (Instr.slice 74 (.slice (some ⟨k, 0, none⟩) (n + 1) cap) (some (.int .i64 1)) none none).run Try.prog W = .ok (.slice (some ⟨k, 2, none⟩) n (cap - 1)) W := fun W => by
    rw [run_slice_l W 74 (some ⟨k, 0, none⟩) (n + 1) cap elemThs .i64 1 (by omega) (by omega), sizeThs]
    simp only [Result.andThen, sliced]
    rw [if_neg (by simp; omega)]
    simp [Addr.add]
  have wn : IntKind.i64.wrap ((n : Int) + 1) = (n : Int) + 1 := IntWalk.i64_in _ (by omega)
  have w11 : IntKind.i64.wrap 1 = 1 := by decide
  have i1 : ¬ (cap : Int) < (n : Int) + 1 := by omega
  have i2 : ¬ (0 : Int) = (n : Int) := by omega
  have i3 : (0 : Int) ≤ (n : Int) + 1 := by omega
  have hcp1 : ∀ ty, (Builtin.copy_ #[74, 74] ty #[.slice (some ⟨k, 2, none⟩) n (cap - 1), .slice (some ⟨k, 0, none⟩) (n + 1) cap]).run Try.prog w.drew = .ok (goInt n) (w.drew.setCells k 2 fl) := fun ty =>
    copy_two w.drew ty k 2 n (cap - 1) ⟨k, 0, none⟩ (n + 1) cap n fl cur (by simp [Nat.min_def]) (by rw [hfl, hn]) hk (by rw [hfl]; omega) (fun j v hj => by
      have hlt := (List.getElem?_eq_some_iff.1 hj).1
      rw [Addr.add_mid, Nat.zero_add, (show Blk w.drew k _ _ from hk).cell, List.getElem?_toArray]
      rw [← hcur, List.getElem?_take_of_lt (by omega)] at hj
      exact hj) (by rw [hF]; exact flat_one ts)
  obtain ⟨W1, hW1⟩ : ∃ W1, W1 = w.drew.setCells k 2 fl := ⟨_, rfl⟩
  have b1 : Blk W1 k 83 (splice cur 2 fl).toArray := by rw [hW1]; exact Blk.setCells fl 2 cur w.drew hk (by rw [hfl]; omega)
  have f1 : Far (fun j => j = k) w W1 := by rw [hW1]; exact far_setCells (S := fun j => j = k) (fun _ => rfl) _ _ _ ((Far.refl _ w).drew)
  have bq : Blk W1 q 83 #[.string x.1, .string x.2] := hq.far f1 hqk
  have hl1 : (splice cur 2 fl).length = cap * 2 := by rw [length_splice _ _ _ (by rw [hfl]; omega)]; exact hsz
  rw [← hW1] at hcp1
  have hcp2 : ∀ ty, (Builtin.copy_ #[74, 74] ty #[.slice (some ⟨k, 0, none⟩) (n + 1) cap, .slice (some ⟨q, 0, none⟩) 1 1]).run Try.prog W1 = .ok (goInt 1) (W1.setCells k 0 [.string x.1, .string x.2]) := fun ty =>
    copy_two W1 ty k 0 (n + 1) cap ⟨q, 0, none⟩ 1 1 1 [.string x.1, .string x.2] _ (by simp [Nat.min_def]) rfl b1 (by rw [hl1]; simp; omega) (fun j v hj => by
      rw [Addr.add_mid, Nat.zero_add, bq.cell, List.getElem?_toArray]
      exact hj) (by simp [Value.oneCell'])
  have HOV := Lib.hid hov
  have HC1 := Lib.hid hcp1
  have HC2 := Lib.hid hcp2
  have B1 := Lib.hid b1
  have F1 := Lib.hid f1
  have HL1 := Lib.hid hl1
  have HFF := Lib.hid hF
  have HNN := Lib.hid hn
  have HSZ := Lib.hid hsz
  clear hcp1 hcp2 b1 f1 bq hl1 hW1 hF hn hfl hcur hk hq hsz hov
  go_enter Try.func51, Try.ntmps51
  go_wp2_with (simp only [HOV.out])
  go_region_law (refine step_copy_runI rfl (.tmp 73) (.tmp 76) 74 74 rfl (.slice (some ⟨k, 2, none⟩) n (cap - 1)) (.slice (some ⟨k, 0, none⟩) (n + 1) cap) (by simp [Act.eval, Act.put]) (by simp [Act.eval, Act.put]) (HC1.out _) ?_)
  have hc2 := HC2.out
  go_wp2_with fail
  go_ret
  obtain ⟨L2, hL2⟩ : ∃ L2, L2 = splice (splice cur 2 fl) 0 [Value.string x.1, .string x.2] := ⟨_, rfl⟩
  have b2 := Blk.setCells [Value.string x.1, .string x.2] 0 _ W1 B1.out (by rw [HL1.out]; simp; omega)
  rw [← hL2] at b2
  refine ⟨rfl, ⟨L2, b2, by rw [hL2, length_splice _ _ _ (by rw [HL1.out]; simp; omega)]; exact HL1.out, ?_⟩, far_setCells (S := fun j => j = k) (fun _ => rfl) _ _ _ F1.out⟩
  have := ins_row ts x cur (by rw [HNN.out, HSZ.out]; omega)
  rw [← HFF.out, ← hL2, HNN.out] at this
  exact this
end Go.Proofs.Ytplahkhohhbgaaa
