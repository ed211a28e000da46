/-
  The document's answer for feed (guillocheref18): following, Sessions.
-/
import Derived.Test.YtjladlniilacjaaFeeRf1
namespace Go.Proofs.Ytjladlniilacjaa
open Go.RowKit Go.Proofs.Fee
set_option linter.unusedVariables false
set_option linter.unusedSimpArgs false
def cntX (xs : List (Int × Rx)) (k : Nat) : Nat := ((xs.take k).filter (fun p => p.2.fol)).length
theorem cntX_succ {xs : List (Int × Rx)} {k : Nat} {p : Int × Rx} (h : xs[k]? = some p) : cntX xs (k + 1) = cntX xs k + bn p.2.fol := by
  unfold cntX
  rw [List.take_add_one, h, List.filter_append, List.length_append]
  unfold bn
  cases hf : p.2.fol <;> simp [hf]
theorem cntX_le (xs : List (Int × Rx)) (k : Nat) : cntX xs k ≤ k := by
  unfold cntX
  refine Nat.le_trans (List.length_filter_le _ _) ?_
  rw [List.length_take]
  omega
theorem cntX_all (xs : List (Int × Rx)) : cntX xs xs.length = folls (rowsX xs) := by
  unfold cntX folls rowsX mapK
  rw [List.take_length, List.filter_map, List.length_map]
  rfl
theorem rowsX_len {xs : List (Int × Rx)} {t : Tbl} (h : rowsX xs = t.rows) : xs.length = t.rows.length := by rw [← h]; unfold rowsX; rw [mapK_length]
theorem rowsX_keys {xs : List (Int × Rx)} {t : Tbl} (h : rowsX xs = t.rows) : t.keys = xs.map Prod.fst := by unfold Tbl.keys; rw [← h]; unfold rowsX; rw [mapK_keys]
set_option maxRecDepth 100000 in
set_option maxHeartbeats 1000000 in
theorem rffollowing_any {N : Nat → Prop} {w : World} {v : Value} {t : Tbl} (h : Rf N w v t) (z : Int) (hl : t.rows.length ≤ 1000) :
    Calls Try.prog 70 #[.agg #[.int .i64 z, v]] w fun e w' => e = .returned (.int .i64 (folls t.rows : Int)) ∧ Below w.heap.size w w' := by
  obtain ⟨xs, H1, H2⟩ := h
  have hlen : xs.length ≤ 1000 := by rw [rowsX_len H2]; exact hl
  have hall : cntX xs xs.length = folls t.rows := by rw [cntX_all, H2]
  obtain ⟨A, c, rfl⟩ := H1.shape
  have b0 := (Bl.start w).alloc (.cells #[.int .i64 z, .slice A xs.length c] 58)
  have H1' := Lib.hid (H1.below b0.1)
  have BK := Lib.hid (Blk.new w 58 #[.int .i64 z, .slice A xs.length c])
  have B0 := Lib.hid b0
  have HA := Lib.hid hall
  clear H1 b0 hall
  go_enter Try.func70, Try.ntmps70
  go_wp2_with fail
  generalize w.alloc (.cells #[.int .i64 z, .slice A xs.length c] 58) = w1 at *
  have c1 : w1.cell? ⟨w.heap.size, 1, none⟩ = some (.slice A xs.length c) := by rw [BK.out.cell]; rfl
  go_loopw [3, 4] (fun vn vi wr => ∃ k n : Nat, vn = .int .i64 (n : Int) ∧ vi = .int .i64 (k : Int) ∧ k ≤ xs.length ∧ Hid (cntX xs k = n) ∧ wr = w1) (fun _ vi _ => xs.length - (intOf vi).toNat)
  case atStart => exact ⟨0, 0, rfl, rfl, Nat.zero_le _, Lib.hid rfl, rfl⟩
  case round =>
    obtain ⟨k, n, rfl, rfl, hk, HN, rfl⟩ := hrel
    by_cases hlt : k < xs.length
    · obtain ⟨p, hx⟩ : ∃ x, xs[k]? = some x := ⟨_, List.getElem?_eq_getElem hlt⟩
      obtain ⟨b, o, c', hv, hbl, d0, d1, d2⟩ := H1'.out.at_ hx
      cases hv
      have i1 : (k : Int) < (xs.length : Int) := by omega
      have wk : IntKind.i64.wrap ((k : Int) + 1) = (k : Int) + 1 := IntWalk.i64_in _ (by omega)
      have n1 : n ≤ k := by rw [← HN.out]; exact cntX_le _ _
      have wn : IntKind.i64.wrap ((n : Int) + 1) = (n : Int) + 1 := IntWalk.i64_in _ (by omega)
      have CS := Lib.hid (cntX_succ hx)
      clear hx n1
      rw [HN.out] at CS
      rcases hf : p.2.fol with _ | _
      · rw [hf] at d1 CS
        clear hf
        go_wp2_with fail
        exact ⟨⟨k + 1, n, rfl, by go_num, by omega, CS, trivial⟩, by simp [intOf]; omega⟩
      · rw [hf] at d1 CS
        clear hf
        go_wp2_with fail
        exact ⟨⟨k + 1, n + 1, by go_num, by go_num, by omega, CS, trivial⟩, by simp [intOf]; omega⟩
    · obtain rfl : k = xs.length := by omega
      have HE : Hid (n = folls t.rows) := Lib.hid (by rw [← HN.out]; exact HA.out)
      go_wp2_with fail
      go_ret
      exact ⟨by rw [HE.out]; rfl, B0.out.1⟩
theorem elemInt1 : Try.prog.underlying 60 = some (.slice 3) := by kernel_rfl
theorem ints_snoc (xs : List (Int × Rx)) (k : Nat) (p : Int × Rx) (h : xs[k]? = some p) : (xs.take (k + 1)).map (fun p => Value.int .i64 p.1) = (xs.take k).map (fun p => Value.int .i64 p.1) ++ [.int .i64 p.1] := by
  rw [List.take_add_one, h, List.map_append]; rfl
set_option maxRecDepth 100000 in
set_option maxHeartbeats 1000000 in
theorem rfsessions_any {N : Nat → Prop} {w : World} {v : Value} {t : Tbl} (h : Rf N w v t) (z : Int) (hl : t.rows.length ≤ 1000) :
    Calls Try.prog 35 #[.agg #[.int .i64 z, v]] w fun e w' => ∃ v', e = .returned v' ∧ w'.ownsRow w.heap.size 3 1 v' t.keys.length (t.keys.map (Value.int .i64)) ∧ Below w.heap.size w w' := by
  obtain ⟨xs, H1, H2⟩ := h
  have hlen : xs.length ≤ 1000 := by rw [rowsX_len H2]; exact hl
  have hk1 : t.keys.map (Value.int .i64) = (xs.take xs.length).map (fun p => Value.int .i64 p.1) := by rw [rowsX_keys H2, List.take_length, List.map_map]; rfl
  have hk2 : t.keys.length = (xs.take xs.length).length := by rw [rowsX_keys H2, List.take_length, List.length_map]
  rw [hk1, hk2]
  obtain ⟨A, c, rfl⟩ := H1.shape
  have b0 := (Bl.start w).alloc (.cells #[.int .i64 z, .slice A xs.length c] 58)
  have H1' := Lib.hid (H1.below b0.1)
  have BK := Lib.hid (Blk.new w 58 #[.int .i64 z, .slice A xs.length c])
  have B0 := Lib.hid b0
  clear H1 b0 hk1 hk2
  go_enter Try.func35, Try.ntmps35
  go_wp2_with fail
  generalize w.alloc (.cells #[.int .i64 z, .slice A xs.length c] 58) = w1 at *
  go_loopw [3, 4] (fun vl vi wr => ∃ k : Nat, vi = .int .i64 (k : Int) ∧ k ≤ xs.length ∧ Hid (wr.ownsRow w1.heap.size 3 1 vl (xs.take k).length ((xs.take k).map (fun p => Value.int .i64 p.1))) ∧ Hid (Bl w1.heap.size w1 wr)) (fun _ vi _ => xs.length - (intOf vi).toNat)
  case atStart => exact ⟨0, rfl, Nat.zero_le _, Lib.hid ⟨rfl, .inl ⟨rfl, rfl⟩⟩, Lib.hid (Bl.start w1)⟩
  case round =>
    obtain ⟨k, rfl, hk, HO, HB⟩ := hrel
    have HX1 := Lib.hid (H1'.out.below HB.out.1)
    have c1 : wr.cell? ⟨w.heap.size, 1, none⟩ = some (.slice A xs.length c) := by rw [(BK.out.below HB.out.1).cell]; rfl
    by_cases hlt : k < xs.length
    · obtain ⟨p, hx⟩ : ∃ x, xs[k]? = some x := ⟨_, List.getElem?_eq_getElem hlt⟩
      obtain ⟨b, o, c', hv, hbl, d0, d1, d2⟩ := HX1.out.at_ hx
      cases hv
      have i1 : (k : Int) < (xs.length : Int) := by omega
      have wk : IntKind.i64.wrap ((k : Int) + 1) = (k : Int) + 1 := IntWalk.i64_in _ (by omega)
      have IS := Lib.hid (ints_snoc xs k p hx)
      have IL : Hid ((xs.take (k + 1)).length = (xs.take k).length + 1) := Lib.hid (by simp; omega)
      have N1 : Hid ((xs.take k).length + 1 ≤ 1000000) := Lib.hid (by simp; omega)
      have N2 : Hid (w1.heap.size ≤ (wr.alloc (.cells #[.int .i64 p.1] 3)).heap.size) := Lib.hid (by have := HB.out.2; simp; omega)
      have BA : Hid (Bl w1.heap.size w1 (wr.alloc (.cells #[.int .i64 p.1] 3))) := Lib.hid (HB.out.alloc _)
      have NC := Lib.hid (new_cells wr 3 [.int .i64 p.1])
      clear hx hbl d1 d2
      go_wp2_with (at_builtin; (refine wpList_append_own (k := 1) (T := 3) (S := 60) elemInt1 infoIntF rfl (by decide) (by decide) rfl _ _ rfl rfl w1.heap.size _ _ ((xs.take k).map (fun p => Value.int .i64 p.1)) wr.heap.size 0 1 1 [.int .i64 p.1] rfl rfl (World.ownsRow.alloc HO.out _) rfl NC.out (by simp [Value.oneCell']) N1.out N2.out ?_; intro v5 w5 own5 gr5 _; have b5 := BA.out.grownRow (World.ownsRow.alloc HO.out _) (Nat.le_refl _) gr5; have B5 := Lib.hid b5; have O5 := Lib.hid own5; clear own5 gr5 b5))
      refine ⟨⟨k + 1, by go_num, by omega, Lib.hid ?_, B5⟩, by simp [intOf]; omega⟩
      rw [IS.out, IL.out]
      exact O5.out
    · obtain rfl : k = xs.length := by omega
      go_wp2_with fail
      go_ret
      exact ⟨_, rfl, row_monoF HO.out B0.out.2, (B0.out.call HB.out.1).1⟩
end Go.Proofs.Ytjladlniilacjaa
