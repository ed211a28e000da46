/-
  The document's answer for mesh (guillocheref19): there, Send, New, Count.
-/
import Derived.Test.YtplahkhohhbgaaaMeshFew
import Derived.Deep.RegionHeld3
namespace Go.Proofs.Ytplahkhohhbgaaa
open Go.RowKit Go.Proofs.Msh
set_option linter.unusedVariables false
set_option linter.unusedSimpArgs false
/-- A slice value, whose strings are xs, with its room. -/
def Rl (w : World) (v : Value) (xs : List ByteArray) : Prop := ∃ A c, v = .slice A xs.length c ∧ Strs w A xs ∧ (A = none → c = 0) ∧ xs.length ≤ c
theorem Rl.sl {w : World} {v : Value} {xs : List ByteArray} (h : Rl w v xs) : Sl w v xs := by
  obtain ⟨A, c, h1, h2, h3, _⟩ := h
  exact ⟨A, c, h1, h2, h3⟩
theorem Rl.nil (w : World) : Rl w (.slice none 0 0) [] := ⟨none, 0, rfl, .nil _ _, fun _ => rfl, Nat.le_refl _⟩
theorem Rl.below {w w' : World} {v : Value} {xs : List ByteArray} (h : Rl w v xs) (k : Below w.heap.size w w') : Rl w' v xs := by
  obtain ⟨A, c, h1, h2, h3⟩ := h
  exact ⟨A, c, h1, h2.below k, h3⟩
theorem Rl.of_own {w : World} {base : Nat} {v : Value} {xs : List ByteArray} (h : w.ownsRow base 9 1 v xs.length (xs.map Value.string)) : Rl w v xs := by
  obtain ⟨A, c, rfl, h2, h3⟩ := Sl.of_own h
  refine ⟨A, c, rfl, h2, h3, ?_⟩
  rcases h.2 with ⟨h4, h5⟩ | ⟨g, cap, cur, h4, _, _, hle, _⟩
  · rw [h5]; exact Nat.zero_le _
  · cases h4; exact hle
theorem Rl.far {S : Nat → Prop} {w w' : World} {v : Value} {xs : List ByteArray} (h : Rl w v xs) (k : Far S w w') (hv : ∀ i, v.ownBlock = some i → ¬ S i) : Rl w' v xs := by
  obtain ⟨A, c, rfl, h2, h3, h4⟩ := h
  obtain ⟨A', c', e, s2, s3⟩ := (show Sl w (.slice A xs.length c) xs from ⟨A, c, rfl, h2, h3⟩).far k hv
  cases e
  exact ⟨A, c, rfl, s2, s3, h4⟩
/-- .. behind a call: where it was, or new. -/
def Rz (w0 : World) (v0 : Value) (w : World) (v : Value) (xs : List ByteArray) : Prop := Rl w v xs ∧ (v.ownBlock = v0.ownBlock ∨ ∀ i, v.ownBlock = some i → w0.heap.size ≤ i ∧ i < w.heap.size)
theorem Rz.same {w0 w : World} {v : Value} {xs : List ByteArray} (h : Rl w v xs) : Rz w0 v w v xs := ⟨h, .inl rfl⟩
theorem Rz.own {w0 w : World} {v0 v : Value} {base : Nat} {xs ys : List ByteArray} (h : Rl w v xs) {W : World} (ho : W.ownsRow base 9 1 v ys.length (ys.map Value.string)) (hb : w0.heap.size ≤ base) (hs : W.heap.size ≤ w.heap.size) : Rz w0 v0 w v xs :=
  ⟨h, .inr (fun i hi => ⟨Nat.le_trans hb (ho.lt i hi).1, Nat.lt_of_lt_of_le (ho.lt i hi).2 hs⟩)⟩
theorem Rz.later {w0 w1 w w' : World} {v0 v : Value} {xs ys : List ByteArray} (h : Rz w1 v0 w v xs) (hb : w0.heap.size ≤ w1.heap.size) (hr : Rl w' v ys) (hs : w.heap.size ≤ w'.heap.size) : Rz w0 v0 w' v ys :=
  ⟨hr, h.2.imp id (fun h i hi => ⟨Nat.le_trans hb (h i hi).1, Nat.lt_of_lt_of_le (h i hi).2 hs⟩)⟩
/-- Part of a row. -/
theorem Strs.take {w : World} {b o : Nat} {xs : List ByteArray} (h : Strs w (some ⟨b, o, none⟩) xs) (n : Nat) : Strs w (some ⟨b, o, none⟩) (xs.take n) := by
  rcases h with h | ⟨b', o', e, h2, h3⟩
  · subst h; exact .inl (by simp)
  · cases e
    refine .inr ⟨b, o, rfl, h2, fun j x hx => h3 j x ?_⟩
    rw [List.getElem?_take] at hx
    split at hx
    · exact hx
    · cases hx
theorem Strs.drop {w : World} {b o : Nat} {xs : List ByteArray} (h : Strs w (some ⟨b, o, none⟩) xs) (n : Nat) : Strs w (some ⟨b, o + n, none⟩) (xs.drop n) := by
  rcases h with h | ⟨b', o', e, h2, h3⟩
  · subst h; exact .inl (by simp)
  · cases e
    refine .inr ⟨b, o + n, rfl, h2, fun j x hx => ?_⟩
    rw [List.getElem?_drop] at hx
    have := h3 (n + j) x hx
    rw [← this, Nat.add_assoc]
/-- append of strings, as one step of a region that draws. -/
theorem step_append_strs {ops : Array Oper} {o : Oper} {a : Act} {W : World} {K : Act → World → Prop} {Q : Exit → Act → World → Prop} {E : Prop} (hg : o.guard = none) (s x : Operand)
    (ho : o.op = .call { callee := .builtin .append, args := #[s, x], argTypes := #[44, 44] }) (hty : o.type = 44) (base : Nat) (v u : Value) (xs ys : List ByteArray) (hs : a.eval s = v) (hx : a.eval x = u)
    (hown : W.ownsRow base 9 1 v xs.length (xs.map Value.string)) (hS : Sl W u ys) (hm : xs.length + ys.length ≤ 1000000) (hb : base ≤ W.heap.size)
    (h : ∀ v' w', w'.ownsRow base 9 1 v' (xs ++ ys).length ((xs ++ ys).map Value.string) → W.grownBy w' v.ownBlock → (v'.ownBlock = v.ownBlock ∨ v'.ownBlock = some W.heap.size) → K (a.put o.dst v') w') :
    if Region.wanted o (yielded ops a.tmps) = true then Oper.wp Try.prog o a W K Q else E := by
  obtain ⟨v', w', h1, h2, h3, h4⟩ := append_strs W base v u xs ys hown hS hm hb
  have hw : Region.wanted o (yielded ops a.tmps) = true := by simp [Region.wanted, hg]
  rw [if_pos hw]
  unfold Oper.wp
  simp only [execOp, ho, hty, resolve, invoke, builtin, Sem.run_bind, Sem.run_pure, Result.andThen_ok, List.map_toArray, List.map_cons, List.map_nil, hs, hx, h1]
  exact h v' w' h2 h3 h4
theorem isAggRef (w : World) : (isAgg 59).run Try.prog w = .ok true w := by kernel_rfl
theorem load_two (w : World) (a : Nat) {x y : Value} (hx : w.cell? ⟨a, 0, none⟩ = some x) (hy : w.cell? ⟨a, 1, none⟩ = some y) : (loadCells ⟨a, 0, none⟩ 2).run Try.prog w = .ok #[x, y] w := by
  have e : (⟨a, 0, none⟩ : Addr).add 1 = ⟨a, 1, none⟩ := by rw [Addr.add_mid]
  have e0 : (⟨a, 0, none⟩ : Addr).add 0 = ⟨a, 0, none⟩ := by rw [Addr.add_mid]
  simp [loadCells, loadCellsFrom, hx, hy, Result.andThen, e, e0]
/-- A mesh among the results lies in memory. -/
theorem results_mesh1 {fn : Func} {s : Tmp} (h : fn.results = #[.cell s 59]) (tmps : Array Value) (w : World) (a : Nat) (h4 : tmps[s]?.getD undef = .pointer (some ⟨a, 0, none⟩)) {x y : Value} (hx : w.cell? ⟨a, 0, none⟩ = some x) (hy : w.cell? ⟨a, 1, none⟩ = some y) :
    (results fn tmps).run Try.prog w = .ok (.agg #[x, y]) w := by
  simp [results, h, h4, loadVar, isAggRef, asAddr, load_two w a hx hy, Result.andThen]
theorem results_mesh2 {fn : Func} {s s5 : Tmp} (h : fn.results = #[.cell s 59, .tmp s5]) (tmps : Array Value) (w : World) (a : Nat) (h4 : tmps[s]?.getD undef = .pointer (some ⟨a, 0, none⟩)) {b : Value} (h5 : tmps[s5]?.getD undef = b) {x y : Value} (hx : w.cell? ⟨a, 0, none⟩ = some x) (hy : w.cell? ⟨a, 1, none⟩ = some y) :
    (results fn tmps).run Try.prog w = .ok (.tuple #[.agg #[x, y], b]) w := by
  simp [results, h, h4, h5, loadVar, isAggRef, asAddr, load_two w a hx hy, Result.andThen]
theorem results_mesh3 {fn : Func} {s s5 s6 : Tmp} (h : fn.results = #[.cell s 59, .tmp s5, .tmp s6]) (tmps : Array Value) (w : World) (a : Nat) (h4 : tmps[s]?.getD undef = .pointer (some ⟨a, 0, none⟩)) {b c : Value} (h5 : tmps[s5]?.getD undef = b) (h6 : tmps[s6]?.getD undef = c) {x y : Value} (hx : w.cell? ⟨a, 0, none⟩ = some x) (hy : w.cell? ⟨a, 1, none⟩ = some y) :
    (results fn tmps).run Try.prog w = .ok (.tuple #[.agg #[x, y], b, c]) w := by
  simp [results, h, h4, h5, h6, loadVar, isAggRef, asAddr, load_two w a hx hy, Result.andThen]
set_option maxHeartbeats 400000 in
theorem rthere_any (R : Int) (A : Option Addr) (m c : Nat) (n : Int) (w : World) :
    Calls Try.prog 67 #[.agg #[.int .i64 R, .slice A m c], .int .i64 n] w fun e w' => e = .returned (.bool (decide (0 ≤ n ∧ n < (m : Int)))) ∧ Below w.heap.size w w' := by
  have hb : Below w.heap.size w (w.alloc (.cells #[.int .i64 R, .slice A m c] 59)) := (Below.refl _ _).alloc (Nat.le_refl _) _
  have HB := Lib.hid hb
  clear hb
  by_cases h0 : 0 ≤ n
  · by_cases h1 : n < (m : Int)
    · rw [decide_eq_true ⟨h0, h1⟩]
      go_enter Try.func67, Try.ntmps67
      go_wp2_with fail
      go_ret
      exact ⟨rfl, HB.out⟩
    · rw [decide_eq_false (fun h => h1 h.2)]
      go_enter Try.func67, Try.ntmps67
      go_wp2_with fail
      go_ret
      exact ⟨rfl, HB.out⟩
  · rw [decide_eq_false (fun h => h0 h.1)]
    go_enter Try.func67, Try.ntmps67
    go_wp2_with fail
    go_ret
    exact ⟨rfl, HB.out⟩
end Go.Proofs.Ytplahkhohhbgaaa
