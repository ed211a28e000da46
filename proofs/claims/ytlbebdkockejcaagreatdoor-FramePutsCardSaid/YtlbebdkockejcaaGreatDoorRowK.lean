/-
  Rows of one's own, and cells that a slice shows: append, whatever the elements.
-/
import Derived.Test.YtlbebdkockejcaaGreatDoorGaFar
namespace Go.Proofs.YtlbebdkockejcaaGreatDoor
open Go.RowKit
set_option linter.unusedVariables false
set_option linter.unusedSimpArgs false
theorem info_partsK {P : Program} {T : TypeId} {z : Value} {k bytes : Nat} (h : (P.info? T).map (fun i => (i.zero, i.size, i.bytes)) = some (some z, k, bytes)) : ∃ i0, P.info? T = some i0 ∧ i0.zero = some z ∧ i0.size = k ∧ i0.bytes = bytes := by
  cases hi : P.info? T with
  | none => rw [hi] at h; simp at h
  | some i =>
    rw [hi] at h
    simp only [Option.map_some, Option.some.injEq, Prod.mk.injEq] at h
    exact ⟨i, rfl, h.1, h.2.1, h.2.2⟩
/-- append, as one operation: onto a row of one's own, of elements of k cells. -/
theorem append_own {T S : TypeId} {z : Value} {k bytes : Nat} (hU : Tryz.prog.underlying S = some (.slice T)) (hI : (Tryz.prog.info? T).map (fun i => (i.zero, i.size, i.bytes)) = some (some z, k, bytes)) (hz : z.cells.size = k) (hk : 0 < k) (hby2 : bytes ≤ 100)
    (W : World) (base : Nat) (v : Value) (n : Nat) (xs : List Value) (hown : W.ownsRow base T k v n xs) (b o m c : Nat) (ys : List Value) (hy : ys.length = m * k) (hc : ∀ j y, ys[j]? = some y → W.cell? ⟨b, o + j, none⟩ = some y) (ho : ∀ y ∈ ys, y.oneCell' = true) (hm : n + m ≤ 1000000) (hb : base ≤ W.heap.size) :
    ∃ v' w', (Builtin.append_ #[S, S] S #[v, .slice (some ⟨b, o, none⟩) m c]).run Tryz.prog W = .ok v' w' ∧ w'.ownsRow base T k v' (n + m) (xs ++ ys) ∧ W.grownBy w' v.ownBlock ∧ (v'.ownBlock = v.ownBlock ∨ v'.ownBlock = some W.heap.size) := by
  obtain ⟨i0, hi, hz0, hz1, hz2⟩ := info_partsK hI
  obtain ⟨v', w', h1, h2, h3, _, h5⟩ := run_append_own_at (P := Tryz.prog) W base S S T i0 z k bytes hU hi hz0 hz1 hz2 hz hk v n xs hown ⟨b, o, none⟩ m c ys hy (fun j y h => by rw [Addr.add_mid]; exact hc j y h) ho (by simp [maxLen]; omega) (Nat.le_trans (Nat.mul_le_mul hm hby2) (by decide)) hb
  exact ⟨v', w', h1, h2, h3, h5⟩
theorem wpList_append_own {ops : Array Oper} {rest : List Oper} {o : Oper} {a : Act} {Q : Exit → Act → World → Prop} {W : World} {T S : TypeId} {z : Value} {k bytes : Nat} (hU : Tryz.prog.underlying S = some (.slice T)) (hI : (Tryz.prog.info? T).map (fun i => (i.zero, i.size, i.bytes)) = some (some z, k, bytes)) (hz : z.cells.size = k) (hk : 0 < k) (hby2 : bytes ≤ 100)
    (hg : Region.wanted o (yielded ops a.tmps) = true) (s x : Operand) (ho : o.op = .call { callee := .builtin .append, args := #[s, x], argTypes := #[S, S] }) (hty : o.type = S) (base : Nat) (v : Value) (n : Nat) (xs : List Value) (b oo m c : Nat) (ys : List Value) (hs : a.eval s = v) (hx : a.eval x = .slice (some ⟨b, oo, none⟩) m c)
    (hown : W.ownsRow base T k v n xs) (hy : ys.length = m * k) (hc : ∀ j y, ys[j]? = some y → W.cell? ⟨b, oo + j, none⟩ = some y) (ho1 : ∀ y ∈ ys, y.oneCell' = true) (hm : n + m ≤ 1000000) (hb : base ≤ W.heap.size)
    (h : ∀ v' w', w'.ownsRow base T k v' (n + m) (xs ++ ys) → W.grownBy w' v.ownBlock → (v'.ownBlock = v.ownBlock ∨ v'.ownBlock = some W.heap.size) → wpList Tryz.prog ops Q rest (a.put o.dst v') w') : wpList Tryz.prog ops Q (o :: rest) a W := by
  obtain ⟨v', w', h1, h2, h3, h4⟩ := append_own hU hI hz hk hby2 W base v n xs hown b oo m c ys hy hc ho1 hm hb
  unfold wpList
  rw [if_pos hg]
  left
  unfold Oper.wp execOp
  simp only [ho, hty, resolve, invoke, builtin, Sem.run_bind, Sem.run_pure, Result.andThen_ok, List.map_toArray, List.map_cons, List.map_nil, hs, hx, h1]
  exact h v' w' h2 h3 h4
/-- .. as one step of a region that draws. -/
theorem step_append_own {ops : Array Oper} {o : Oper} {a : Act} {W : World} {K : Act → World → Prop} {Q : Exit → Act → World → Prop} {E : Prop} {T S : TypeId} {z : Value} {k bytes : Nat} (hU : Tryz.prog.underlying S = some (.slice T)) (hI : (Tryz.prog.info? T).map (fun i => (i.zero, i.size, i.bytes)) = some (some z, k, bytes)) (hz : z.cells.size = k) (hk : 0 < k) (hby2 : bytes ≤ 100)
    (hg : o.guard = none) (s x : Operand) (ho : o.op = .call { callee := .builtin .append, args := #[s, x], argTypes := #[S, S] }) (hty : o.type = S) (base : Nat) (v : Value) (n : Nat) (xs : List Value) (b oo m c : Nat) (ys : List Value) (hs : a.eval s = v) (hx : a.eval x = .slice (some ⟨b, oo, none⟩) m c)
    (hown : W.ownsRow base T k v n xs) (hy : ys.length = m * k) (hc : ∀ j y, ys[j]? = some y → W.cell? ⟨b, oo + j, none⟩ = some y) (ho1 : ∀ y ∈ ys, y.oneCell' = true) (hm : n + m ≤ 1000000) (hb : base ≤ W.heap.size)
    (h : ∀ v' w', w'.ownsRow base T k v' (n + m) (xs ++ ys) → W.grownBy w' v.ownBlock → (v'.ownBlock = v.ownBlock ∨ v'.ownBlock = some W.heap.size) → K (a.put o.dst v') w') :
    if Region.wanted o (yielded ops a.tmps) = true then Oper.wp Tryz.prog o a W K Q else E := by
  obtain ⟨v', w', h1, h2, h3, h4⟩ := append_own hU hI hz hk hby2 W base v n xs hown b oo m c ys hy hc ho1 hm hb
  have hw : Region.wanted o (yielded ops a.tmps) = true := by simp [Region.wanted, hg]
  rw [if_pos hw]
  unfold Oper.wp
  simp only [execOp, ho, hty, resolve, invoke, builtin, Sem.run_bind, Sem.run_pure, Result.andThen_ok, List.map_toArray, List.map_cons, List.map_nil, hs, hx, h1]
  exact h v' w' h2 h3 h4
/-- Cells that were just laid. -/
theorem new_cells (W : World) (t : TypeId) (cs : List Value) : ∀ j y, cs[j]? = some y → (W.alloc (.cells cs.toArray t)).cell? ⟨W.heap.size, 0 + j, none⟩ = some y := by
  intro j y h
  have := cells_new W t cs j y h
  rw [Addr.add_mid] at this
  exact this
/-- Cells that a slice shows, one behind the other. -/
def Vs (w : World) (A : Option Addr) (xs : List Value) : Prop := xs = [] ∨ ∃ b o, A = some ⟨b, o, none⟩ ∧ b < w.heap.size ∧ ∀ j x, xs[j]? = some x → w.cell? ⟨b, o + j, none⟩ = some x
theorem Vs.below {w w' : World} {A : Option Addr} {xs : List Value} (h : Vs w A xs) (k : Below w.heap.size w w') : Vs w' A xs := by
  rcases h with h | ⟨b, o, rfl, hb, hc⟩
  · exact .inl h
  · exact .inr ⟨b, o, rfl, Nat.lt_of_lt_of_le hb k.size, fun j x hx => (k.cell (p := ⟨b, _, none⟩) hb).trans (hc j x hx)⟩
theorem Vs.at_ {w : World} {A : Option Addr} {xs : List Value} (h : Vs w A xs) (k : Nat) (x : Value) (hk : xs[k]? = some x) : ∃ b o, A = some ⟨b, o, none⟩ ∧ b < w.heap.size ∧ ∀ j x, xs[j]? = some x → w.cell? ⟨b, o + j, none⟩ = some x := by
  rcases h with h | h
  · subst h; simp at hk
  · exact h
theorem Vs.of_own {w : World} {base n k : Nat} {T : TypeId} {v : Value} {xs : List Value} (h : w.ownsRow base T k v n xs) (hx : xs.length = n * k) : ∃ A c, v = .slice A n c ∧ n ≤ c ∧ Vs w A xs := by
  rcases h.2 with ⟨rfl, h2⟩ | ⟨g, cap, cur, rfl, hb, hg, hle, hcap, hs, ht⟩
  · subst h2
    exact ⟨none, 0, rfl, Nat.le_refl _, .inl (by simpa using hx)⟩
  · refine ⟨_, cap, rfl, hle, .inr ⟨g, 0, rfl, (Array.getElem?_eq_some_iff.1 hg).1, fun j x hj => ?_⟩⟩
    have hlt := (List.getElem?_eq_some_iff.1 hj).1
    rw [← ht, List.getElem?_take_of_lt (by omega)] at hj
    simp only [World.cell?, hg, Nat.zero_add]
    simpa using hj
theorem Vs.lt {w : World} {b o : Nat} {xs : List Value} (h : Vs w (some ⟨b, o, none⟩) xs) (hx : xs ≠ []) : b < w.heap.size := by
  rcases h with h | ⟨b', o', e, h, _⟩
  · exact absurd h hx
  · cases e; exact h
theorem append_empty {T S : TypeId} {z : Value} {k bytes : Nat} (hU : Tryz.prog.underlying S = some (.slice T)) (hI : (Tryz.prog.info? T).map (fun i => (i.zero, i.size, i.bytes)) = some (some z, k, bytes))
    (W : World) (base : Nat) (v : Value) (n : Nat) (xs : List Value) (hown : W.ownsRow base T k v n xs) (A : Option Addr) (c : Nat) :
    (Builtin.append_ #[S, S] S #[v, .slice A 0 c]).run Tryz.prog W = .ok v W := by
  obtain ⟨i0, hi, hz0, hz1, hz2⟩ := info_partsK hI
  rcases hown.2 with ⟨rfl, rfl⟩ | ⟨g, cap, cur, rfl, _, _, hnc, _⟩
  · cases A <;> simp [Builtin.append_, run_underlying hU, sizeOf, typeInfo, hi, Builtin.lenOf, Builtin.firstCells, loadCells, loadCellsFrom]
  · cases A <;> simp [Builtin.append_, run_underlying hU, sizeOf, typeInfo, hi, Builtin.lenOf, Builtin.firstCells, hnc, storeCells, loadCells, loadCellsFrom]
/-- append, as one operation: onto a row of one's own, of what a slice shows. -/
theorem append_shown {T S : TypeId} {z : Value} {k bytes : Nat} (hU : Tryz.prog.underlying S = some (.slice T)) (hI : (Tryz.prog.info? T).map (fun i => (i.zero, i.size, i.bytes)) = some (some z, k, bytes)) (hz : z.cells.size = k) (hk : 0 < k) (hby2 : bytes ≤ 100)
    (W : World) (base : Nat) (v : Value) (n : Nat) (xs : List Value) (hown : W.ownsRow base T k v n xs) (A : Option Addr) (m c : Nat) (ys : List Value) (hy : ys.length = m * k) (hc : Vs W A ys) (ho : ∀ y ∈ ys, y.oneCell' = true) (hm : n + m ≤ 1000000) (hb : base ≤ W.heap.size) :
    ∃ v' w', (Builtin.append_ #[S, S] S #[v, .slice A m c]).run Tryz.prog W = .ok v' w' ∧ w'.ownsRow base T k v' (n + m) (xs ++ ys) ∧ W.grownBy w' v.ownBlock ∧ (v'.ownBlock = v.ownBlock ∨ v'.ownBlock = some W.heap.size) := by
  rcases hc with rfl | ⟨b, o, rfl, _, hc⟩
  · have h0 : m = 0 := by
      have : 0 = m * k := hy
      rcases Nat.eq_zero_or_pos m with h | h
      · exact h
      · have := Nat.mul_pos h hk; omega
    subst h0
    refine ⟨v, W, append_empty hU hI W base v n xs hown A c, ?_, ⟨rfl, rfl, rfl, Nat.le_refl _, fun _ _ _ => rfl⟩, .inl rfl⟩
    rw [List.append_nil, Nat.add_zero]
    exact hown
  · exact append_own hU hI hz hk hby2 W base v n xs hown b o m c ys hy hc ho hm hb
theorem wpList_append_shown {ops : Array Oper} {rest : List Oper} {o : Oper} {a : Act} {Q : Exit → Act → World → Prop} {W : World} {T S : TypeId} {z : Value} {k bytes : Nat} (hU : Tryz.prog.underlying S = some (.slice T)) (hI : (Tryz.prog.info? T).map (fun i => (i.zero, i.size, i.bytes)) = some (some z, k, bytes)) (hz : z.cells.size = k) (hk : 0 < k) (hby2 : bytes ≤ 100)
    (hg : Region.wanted o (yielded ops a.tmps) = true) (s x : Operand) (ho : o.op = .call { callee := .builtin .append, args := #[s, x], argTypes := #[S, S] }) (hty : o.type = S) (base : Nat) (v : Value) (n : Nat) (xs : List Value) (A : Option Addr) (m c : Nat) (ys : List Value) (hs : a.eval s = v) (hx : a.eval x = .slice A m c)
    (hown : W.ownsRow base T k v n xs) (hy : ys.length = m * k) (hc : Vs W A ys) (ho1 : ∀ y ∈ ys, y.oneCell' = true) (hm : n + m ≤ 1000000) (hb : base ≤ W.heap.size)
    (h : ∀ v' w', w'.ownsRow base T k v' (n + m) (xs ++ ys) → W.grownBy w' v.ownBlock → (v'.ownBlock = v.ownBlock ∨ v'.ownBlock = some W.heap.size) → wpList Tryz.prog ops Q rest (a.put o.dst v') w') : wpList Tryz.prog ops Q (o :: rest) a W := by
  obtain ⟨v', w', h1, h2, h3, h4⟩ := append_shown hU hI hz hk hby2 W base v n xs hown A m c ys hy hc ho1 hm hb
  unfold wpList
  rw [if_pos hg]
  left
  unfold Oper.wp execOp
  simp only [ho, hty, resolve, invoke, builtin, Sem.run_bind, Sem.run_pure, Result.andThen_ok, List.map_toArray, List.map_cons, List.map_nil, hs, hx, h1]
  exact h v' w' h2 h3 h4
/-- .. as one step of a region that draws. -/
theorem step_append_shown {ops : Array Oper} {o : Oper} {a : Act} {W : World} {K : Act → World → Prop} {Q : Exit → Act → World → Prop} {E : Prop} {T S : TypeId} {z : Value} {k bytes : Nat} (hU : Tryz.prog.underlying S = some (.slice T)) (hI : (Tryz.prog.info? T).map (fun i => (i.zero, i.size, i.bytes)) = some (some z, k, bytes)) (hz : z.cells.size = k) (hk : 0 < k) (hby2 : bytes ≤ 100)
    (hg : o.guard = none) (s x : Operand) (ho : o.op = .call { callee := .builtin .append, args := #[s, x], argTypes := #[S, S] }) (hty : o.type = S) (base : Nat) (v : Value) (n : Nat) (xs : List Value) (A : Option Addr) (m c : Nat) (ys : List Value) (hs : a.eval s = v) (hx : a.eval x = .slice A m c)
    (hown : W.ownsRow base T k v n xs) (hy : ys.length = m * k) (hc : Vs W A ys) (ho1 : ∀ y ∈ ys, y.oneCell' = true) (hm : n + m ≤ 1000000) (hb : base ≤ W.heap.size)
    (h : ∀ v' w', w'.ownsRow base T k v' (n + m) (xs ++ ys) → W.grownBy w' v.ownBlock → (v'.ownBlock = v.ownBlock ∨ v'.ownBlock = some W.heap.size) → K (a.put o.dst v') w') :
    if Region.wanted o (yielded ops a.tmps) = true then Oper.wp Tryz.prog o a W K Q else E := by
  obtain ⟨v', w', h1, h2, h3, h4⟩ := append_shown hU hI hz hk hby2 W base v n xs hown A m c ys hy hc ho1 hm hb
  have hw : Region.wanted o (yielded ops a.tmps) = true := by simp [Region.wanted, hg]
  rw [if_pos hw]
  unfold Oper.wp
  simp only [execOp, ho, hty, resolve, invoke, builtin, Sem.run_bind, Sem.run_pure, Result.andThen_ok, List.map_toArray, List.map_cons, List.map_nil, hs, hx, h1]
  exact h v' w' h2 h3 h4
theorem far_of_below {w w' : World} (k : Below w.heap.size w w') : Far (fun _ => False) w w' := ⟨k.os, k.tape, k.output, k.size, fun i hi _ => k.block i hi⟩
theorem own_below {w w' : World} {base : Nat} {e : TypeId} {size n : Nat} {v : Value} {xs : List Value} (h : w.ownsRow base e size v n xs) (k : Below w.heap.size w w') : w'.ownsRow base e size v n xs := own_far h (far_of_below k) (fun _ _ e => e)
theorem own_shape {w : World} {base : Nat} {e : TypeId} {size n : Nat} {v : Value} {xs : List Value} (h : w.ownsRow base e size v n xs) : ∃ A c, v = .slice A n c := by
  rcases h.2 with ⟨h1, h2⟩ | ⟨g, cap, cur, h1, _⟩
  · exact ⟨none, 0, by rw [h1, h2]⟩
  · exact ⟨_, cap, h1⟩
end Go.Proofs.YtlbebdkockejcaaGreatDoor
