/-
  The document's answer for feed (guillocheref18): its lines in memory; New, At, following, Sessions.
-/
import Derived.Test.YtjladlniilacjaaFeeRoom
import Derived.Test.YtjladlniilacjaaLeaUsed
namespace Go.Proofs.Fee
set_option linter.unusedVariables false
/-- No row without a thing in it. -/
def Tbl.Full (t : Tbl) : Prop := ∀ p ∈ t.rows, p.2.bare = false
end Go.Proofs.Fee
namespace Go.Proofs.Ytjladlniilacjaa
open Go.RowKit Go.Proofs.Fee
set_option linter.unusedVariables false
set_option linter.unusedSimpArgs false
/-- A line's memory: whether it follows, its queue (each notice with its changes' slice), the queue's slice. -/
structure Rx where
  fol : Bool
  q : List (Ntc × Value)
  v : Value
def Rx.row (x : Rx) : Row := ⟨x.fol, x.q.map Prod.fst⟩
def lineC (p : Int × Rx) : List Value := [.int .i64 p.1, .bool p.2.fol, p.2.v]
def flatL (l : List (Int × Rx)) : List Value := l.flatMap lineC
theorem flatL_length (l : List (Int × Rx)) : (flatL l).length = l.length * 3 := by
  unfold flatL
  induction l with
  | nil => rfl
  | cons a r ih => rw [List.flatMap_cons, List.length_append, ih]; simp [lineC]; omega
theorem flatL_append (a b : List (Int × Rx)) : flatL (a ++ b) = flatL a ++ flatL b := by simp [flatL, List.flatMap_append]
theorem flatL_at : ∀ (l : List (Int × Rx)) (j : Nat) (p : Int × Rx), l[j]? = some p → (flatL l)[j * 3]? = some (.int .i64 p.1) ∧ (flatL l)[j * 3 + 1]? = some (.bool p.2.fol) ∧ (flatL l)[j * 3 + 2]? = some p.2.v
  | [], j, s, h => by simp at h
  | x :: r, 0, s, h => by
    simp only [List.getElem?_cons_zero, Option.some.injEq] at h
    subst h
    exact ⟨rfl, rfl, rfl⟩
  | x :: r, j + 1, s, h => by
    have := flatL_at r j s (by simpa using h)
    have e : ∀ k, (flatL (x :: r))[(j + 1) * 3 + k]? = (flatL r)[j * 3 + k]? := fun k => by
      show ([_, _, _] ++ flatL r : List Value)[(j + 1) * 3 + k]? = _
      rw [List.getElem?_append_right (by simp; omega)]
      congr 1
      simp
      omega
    exact ⟨(e 0).trans this.1, (e 1).trans this.2.1, (e 2).trans this.2.2⟩
/-- Cells that a slice shows, in a block that is one of N. -/
def Sh (N : Nat → Prop) (w : World) (A : Option Addr) (xs : List Value) : Prop := xs = [] ∨ ∃ b o, A = some ⟨b, o, none⟩ ∧ b < w.heap.size ∧ N b ∧ ∀ j x, xs[j]? = some x → w.cell? ⟨b, o + j, none⟩ = some x
/-- A line, in memory. -/
structure Lx (N : Nat → Prop) (w : World) (x : Rx) : Prop where
  sl : ∃ A c, x.v = .slice A x.q.length c ∧ x.q.length ≤ c ∧ Sh N w A (flatN x.q)
  chs : ∀ y ∈ x.q, Chs w y.2 y.1.chs
/-- Lines, in memory. -/
structure Ls (N : Nat → Prop) (w : World) (v : Value) (xs : List (Int × Rx)) : Prop where
  sl : ∃ A c, v = .slice A xs.length c ∧ xs.length ≤ c ∧ Sh N w A (flatL xs)
  each : ∀ p ∈ xs, Lx N w p.2
def rowsX (xs : List (Int × Rx)) : Keyz Row := mapK Rx.row xs
/-- What the document's table shows. -/
def Rf (N : Nat → Prop) (w : World) (v : Value) (t : Tbl) : Prop := ∃ xs, Ls N w v xs ∧ rowsX xs = t.rows
section
variable {N N' : Nat → Prop} {w w' : World}
theorem Sh.keep {A : Option Addr} {xs : List Value} (h : Sh N w A xs) (hs : w.heap.size ≤ w'.heap.size) (k : ∀ b, b < w.heap.size → N b → N' b ∧ w'.heap[b]? = w.heap[b]?) : Sh N' w' A xs := by
  rcases h with h | ⟨b, o, h1, h2, h3, h4⟩
  · exact .inl h
  · obtain ⟨k1, k2⟩ := k b h2 h3
    refine .inr ⟨b, o, h1, Nat.lt_of_lt_of_le h2 hs, k1, fun j x hj => ?_⟩
    have := h4 j x hj
    unfold World.cell? at this ⊢
    rwa [k2]
theorem Lx.keep {x : Rx} (h : Lx N w x) (hs : w.heap.size ≤ w'.heap.size) (k : ∀ b, b < w.heap.size → N b → N' b ∧ w'.heap[b]? = w.heap[b]?) (kc : ∀ g c, Blk w g 142 c → w'.heap[g]? = w.heap[g]?) : Lx N' w' x := by
  obtain ⟨A, c, h1, h2, h3⟩ := h.sl
  exact ⟨⟨A, c, h1, h2, h3.keep hs k⟩, fun y hy => (h.chs y hy).same kc⟩
theorem Ls.keep {v : Value} {xs : List (Int × Rx)} (h : Ls N w v xs) (hs : w.heap.size ≤ w'.heap.size) (k : ∀ b, b < w.heap.size → N b → N' b ∧ w'.heap[b]? = w.heap[b]?) (kc : ∀ g c, Blk w g 142 c → w'.heap[g]? = w.heap[g]?) : Ls N' w' v xs := by
  obtain ⟨A, c, h1, h2, h3⟩ := h.sl
  exact ⟨⟨A, c, h1, h2, h3.keep hs k⟩, fun p hp => (h.each p hp).keep hs k kc⟩
theorem Lx.below {x : Rx} (h : Lx N w x) (k : Below w.heap.size w w') : Lx N w' x := h.keep k.size (fun b hb hn => ⟨hn, k.block b hb⟩) (fun g c hg => k.block g hg.lt)
theorem Ls.below {v : Value} {xs : List (Int × Rx)} (h : Ls N w v xs) (k : Below w.heap.size w w') : Ls N w' v xs := h.keep k.size (fun b hb hn => ⟨hn, k.block b hb⟩) (fun g c hg => k.block g hg.lt)
theorem Sh.below {A : Option Addr} {xs : List Value} (h : Sh N w A xs) (k : Below w.heap.size w w') : Sh N w' A xs := h.keep k.size (fun b hb hn => ⟨hn, k.block b hb⟩)
theorem Rf.below {v : Value} {t : Tbl} (h : Rf N w v t) (k : Below w.heap.size w w') : Rf N w' v t := by
  obtain ⟨xs, h1, h2⟩ := h
  exact ⟨xs, h1.below k, h2⟩
theorem Sh.of_own {base n k : Nat} {T : TypeId} {v : Value} {xs : List Value} (h : w.ownsRow base T k v n xs) (hN : ∀ b, base ≤ b → N b) : ∃ A c, v = .slice A n c ∧ n ≤ c ∧ Sh N w A xs := by
  rcases h.2 with ⟨h1, h2⟩ | ⟨g, cap, cur, h1, h2, h3, h4, h5, h6, h7⟩
  · refine ⟨none, 0, by rw [h1, h2], by omega, .inl ?_⟩
    have := h.1
    rw [h2, Nat.zero_mul] at this
    exact List.length_eq_zero_iff.1 this
  · have hb : Blk w g T cur := h3
    refine ⟨_, cap, h1, h4, .inr ⟨g, 0, rfl, hb.lt, hN g h2, fun j x hj => ?_⟩⟩
    have hl := (List.getElem?_eq_some_iff.1 hj).1
    rw [Nat.zero_add, hb.cell, ← Array.getElem?_toList]
    rw [← h7] at hj
    rw [h.1] at hl
    rwa [List.getElem?_take_of_lt hl] at hj
/-- A line of lines, by its cells. -/
theorem Ls.at_ {v : Value} {xs : List (Int × Rx)} (h : Ls N w v xs) {k : Nat} {p : Int × Rx} (hk : xs[k]? = some p) :
    ∃ b o c, v = .slice (some ⟨b, o, none⟩) xs.length c ∧ b < w.heap.size ∧ w.cell? ⟨b, o + k * 3, none⟩ = some (.int .i64 p.1) ∧ w.cell? ⟨b, o + k * 3 + 1, none⟩ = some (.bool p.2.fol) ∧ w.cell? ⟨b, o + k * 3 + 2, none⟩ = some p.2.v := by
  obtain ⟨A, c, h1, h2, h3⟩ := h.sl
  obtain ⟨e0, e1, e2⟩ := flatL_at xs k p hk
  rcases h3 with h3 | ⟨b, o, h4, h5, _, h6⟩
  · rw [h3] at e0; simp at e0
  · refine ⟨b, o, c, by rw [h1, h4], h5, h6 _ _ e0, ?_, ?_⟩
    · have := h6 _ _ e1; rwa [← Nat.add_assoc] at this
    · have := h6 _ _ e2; rwa [← Nat.add_assoc] at this
theorem Lx.none (N : Nat → Prop) (w : World) : Lx N w ⟨false, [], .slice none 0 0⟩ := ⟨⟨_, _, rfl, Nat.le_refl _, .inl rfl⟩, fun y hy => by cases hy⟩
theorem Ls.shape {v : Value} {xs : List (Int × Rx)} (h : Ls N w v xs) : ∃ A c, v = .slice A xs.length c := by
  obtain ⟨A, c, h1, _, _⟩ := h.sl
  exact ⟨A, c, h1⟩
theorem Lx.shape {x : Rx} (h : Lx N w x) : ∃ A c, x.v = .slice A x.q.length c := by
  obtain ⟨A, c, h1, _, _⟩ := h.sl
  exact ⟨A, c, h1⟩
end
theorem isAggF (w : World) : (isAgg 58).run Try.prog w = .ok true w := by kernel_rfl
theorem isAggL (w : World) : (isAgg 74).run Try.prog w = .ok true w := by kernel_rfl
theorem cellsF : Try.prog.cellsOf 58 = 2 := by kernel_rfl
theorem cellsL : Try.prog.cellsOf 74 = 3 := by kernel_rfl
theorem load_two {w : World} {g : Nat} {T : TypeId} {a b : Value} (h : Blk w g T #[a, b]) : (loadCells ⟨g, 0, none⟩ 2).run Try.prog w = .ok #[a, b] w := by
  have e : ∀ k, (⟨g, 0, none⟩ : Addr).add k = ⟨g, k, none⟩ := fun k => by rw [Addr.add_mid, Nat.zero_add]
  have c0 : w.cell? ⟨g, 0, none⟩ = some a := by rw [h.cell]; rfl
  have c1 : w.cell? ⟨g, 1, none⟩ = some b := by rw [h.cell]; rfl
  simp [loadCells, loadCellsFrom, c0, c1, Result.andThen, e]
theorem load_line {w : World} {g : Nat} {T : TypeId} {a b c : Value} (h : Blk w g T #[a, b, c]) : (loadCells ⟨g, 0, none⟩ 3).run Try.prog w = .ok #[a, b, c] w := by
  have e : ∀ k, (⟨g, 0, none⟩ : Addr).add k = ⟨g, k, none⟩ := fun k => by rw [Addr.add_mid, Nat.zero_add]
  have c0 : w.cell? ⟨g, 0, none⟩ = some a := by rw [h.cell]; rfl
  have c1 : w.cell? ⟨g, 1, none⟩ = some b := by rw [h.cell]; rfl
  have c2 : w.cell? ⟨g, 2, none⟩ = some c := by rw [h.cell]; rfl
  simp [loadCells, loadCellsFrom, c0, c1, c2, Result.andThen, e]
theorem results_f1 {fn : Func} {s : Tmp} (h : fn.results = #[.cell s 58]) (tmps : Array Value) (w : World) (g : Nat) (h4 : tmps[s]?.getD undef = .pointer (some ⟨g, 0, none⟩)) {T : TypeId} {a b : Value} (hf : Blk w g T #[a, b]) :
    (results fn tmps).run Try.prog w = .ok (.agg #[a, b]) w := by
  simp [results, h, h4, loadVar, isAggF, asAddr, cellsF, load_two hf, Result.andThen]
theorem results_f2 {fn : Func} {s s5 : Tmp} (h : fn.results = #[.cell s 58, .tmp s5]) (tmps : Array Value) (w : World) (g : Nat) (h4 : tmps[s]?.getD undef = .pointer (some ⟨g, 0, none⟩)) {x : Value} (h5 : tmps[s5]?.getD undef = x) {T : TypeId} {a b : Value} (hf : Blk w g T #[a, b]) :
    (results fn tmps).run Try.prog w = .ok (.tuple #[.agg #[a, b], x]) w := by
  simp [results, h, h4, h5, loadVar, isAggF, asAddr, cellsF, load_two hf, Result.andThen]
theorem results_l1 {fn : Func} {s : Tmp} (h : fn.results = #[.cell s 74]) (tmps : Array Value) (w : World) (g : Nat) (h4 : tmps[s]?.getD undef = .pointer (some ⟨g, 0, none⟩)) {T : TypeId} {a b c : Value} (hf : Blk w g T #[a, b, c]) :
    (results fn tmps).run Try.prog w = .ok (.agg #[a, b, c]) w := by
  simp [results, h, h4, loadVar, isAggL, asAddr, cellsL, load_line hf, Result.andThen]
theorem blk3 {w : World} {g : Nat} {T : TypeId} {a b c : Value} (h : Blk w g T #[a, b, c]) : w.cell? ⟨g, 0, none⟩ = some a ∧ w.cell? ⟨g, 1, none⟩ = some b ∧ w.cell? ⟨g, 2, none⟩ = some c ∧ w.frozen? ⟨g, 0, none⟩ = false ∧ w.frozen? ⟨g, 1, none⟩ = false ∧ w.frozen? ⟨g, 2, none⟩ = false :=
  ⟨by rw [h.cell]; rfl, by rw [h.cell]; rfl, by rw [h.cell]; rfl, h.frozen 0, h.frozen 1, h.frozen 2⟩
theorem blk2 {w : World} {g : Nat} {T : TypeId} {a b : Value} (h : Blk w g T #[a, b]) : w.cell? ⟨g, 0, none⟩ = some a ∧ w.cell? ⟨g, 1, none⟩ = some b ∧ w.frozen? ⟨g, 0, none⟩ = false ∧ w.frozen? ⟨g, 1, none⟩ = false :=
  ⟨by rw [h.cell]; rfl, by rw [h.cell]; rfl, h.frozen 0, h.frozen 1⟩
/-- A line's cells, stored. -/
theorem set3 {w : World} {g B : Nat} {w0 : World} {T : TypeId} {a b c : Value} (h : Blk w g T #[a, b, c]) (hB : Bl B w0 w) (hg : B ≤ g) (x y z : Value) :
    Blk (((w.setCell ⟨g, 0, none⟩ x).setCell ⟨g, 1, none⟩ y).setCell ⟨g, 2, none⟩ z) g T #[x, y, z] ∧ Bl B w0 (((w.setCell ⟨g, 0, none⟩ x).setCell ⟨g, 1, none⟩ y).setCell ⟨g, 2, none⟩ z) ∧ Far (fun i => i = g) w (((w.setCell ⟨g, 0, none⟩ x).setCell ⟨g, 1, none⟩ y).setCell ⟨g, 2, none⟩ z) := by
  refine ⟨by have := ((h.set 0 x).set 1 y).set 2 z; simpa using this, ((hB.setCell (p := ⟨g, 0, none⟩) hg x).setCell (p := ⟨g, 1, none⟩) hg y).setCell (p := ⟨g, 2, none⟩) hg z,
    (((Far.refl (fun i => i = g) w).setCell (p := ⟨g, 0, none⟩) (fun _ => rfl) x).setCell (p := ⟨g, 1, none⟩) (fun _ => rfl) y).setCell (p := ⟨g, 2, none⟩) (fun _ => rfl) z⟩
theorem set2 {w : World} {g B : Nat} {w0 : World} {T : TypeId} {a b : Value} (h : Blk w g T #[a, b]) (hB : Bl B w0 w) (hg : B ≤ g) (x y : Value) :
    Blk ((w.setCell ⟨g, 0, none⟩ x).setCell ⟨g, 1, none⟩ y) g T #[x, y] ∧ Bl B w0 ((w.setCell ⟨g, 0, none⟩ x).setCell ⟨g, 1, none⟩ y) ∧ Far (fun i => i = g) w ((w.setCell ⟨g, 0, none⟩ x).setCell ⟨g, 1, none⟩ y) := by
  refine ⟨by have := (h.set 0 x).set 1 y; simpa using this, (hB.setCell (p := ⟨g, 0, none⟩) hg x).setCell (p := ⟨g, 1, none⟩) hg y,
    ((Far.refl (fun i => i = g) w).setCell (p := ⟨g, 0, none⟩) (fun _ => rfl) x).setCell (p := ⟨g, 1, none⟩) (fun _ => rfl) y⟩
set_option maxHeartbeats 400000 in
theorem rfnew_any (N : Nat → Prop) (n : Int) (w : World) :
    Calls Try.prog 28 #[.int .i64 n] w fun e w' => e = .returned (.agg #[.int .i64 ((news n).room : Int), .slice none 0 0]) ∧ Rf N w' (.slice none 0 0) (news n) ∧ Below w.heap.size w w' := by
  obtain ⟨R, hR⟩ : ∃ R : Nat, (news n).room = R := ⟨_, rfl⟩
  have hRi : ((R : Nat) : Int) = min (max n 1) 4 := by rw [← hR]; show ((min (max n 1) 4).toNat : Int) = _; omega
  have HF : ∀ w', Rf N w' (.slice none 0 0) (news n) := fun w' => ⟨[], ⟨⟨_, _, rfl, Nat.le_refl _, .inl rfl⟩, fun p hp => by cases hp⟩, rfl⟩
  rw [hR]
  have HRI := Lib.hid hRi
  have HFF := Lib.hid HF
  clear hRi hR HF
  go_enter Try.func28, Try.ntmps28
  go_wp2_with fail
  rw [← HRI.out]
  have q := Blk.new w 58 #[.int .i64 (R : Int), .slice none 0 0]
  exact bodyPost_ret (results_f1 rfl _ _ _ rfl q) rfl ⟨rfl, HFF.out _, ((Bl.start w).alloc _).1⟩
theorem rowsX_at (xs : List (Int × Rx)) (s : Int) : atK (rowsX xs) s = (atK xs s).map Rx.row := mapK_at _ _ _
theorem key_first {xs : List (Int × Rx)} {s : Int} {k : Nat} {p : Int × Rx} (hk : xs[k]? = some p) (he : p.1 = s) (hn : ∀ (j : Nat) (q : Int × Rx), j < k → xs[j]? = some q → ¬ q.1 = s) : atK xs s = some p.2 := by
  induction xs generalizing k with
  | nil => simp at hk
  | cons y r ih =>
    unfold atK
    cases k with
    | zero =>
      simp only [List.getElem?_cons_zero, Option.some.injEq] at hk
      subst hk
      rw [List.find?_cons]
      simp [he]
    | succ k =>
      have h0 := hn 0 y (by omega) rfl
      rw [List.find?_cons]
      simp only [h0, decide_false]
      exact ih (by simpa using hk) (fun j q hj hq => hn (j + 1) q (by omega) (by simpa using hq))
theorem key_none {xs : List (Int × Rx)} {s : Int} (hn : ∀ (j : Nat) (q : Int × Rx), xs[j]? = some q → ¬ q.1 = s) : atK xs s = none := by
  refine atK_none ?_
  rw [Bool.eq_false_iff]
  intro h
  obtain ⟨y, hy⟩ := hasK_iff.1 h
  obtain ⟨j, hj⟩ := List.getElem?_of_mem hy
  exact hn j _ hj rfl
set_option maxRecDepth 100000 in
set_option maxHeartbeats 1000000 in
theorem rfat_any {N : Nat → Prop} {w : World} {v : Value} {t : Tbl} (h : Rf N w v t) (z : Int) (s : Int) (hl : t.rows.length ≤ 1000) :
    Calls Try.prog 32 #[.agg #[.int .i64 z, v], .int .i64 s] w fun e w' => ∃ x : Rx, e = .returned (.agg #[.int .i64 s, .bool x.fol, x.v]) ∧ x.row = t.row s ∧ Lx N w' x ∧ Below w.heap.size w w' := by
  obtain ⟨xs, H1, H2⟩ := h
  have hlen : xs.length ≤ 1000 := by rw [← H2] at hl; unfold rowsX at hl; rwa [mapK_length] at hl
  have key : ∀ x, atK xs s = some x → x.row = t.row s := fun x hx => by unfold Tbl.row; rw [← H2, rowsX_at, hx]; rfl
  have keyn : atK xs s = none → (⟨false, [], .slice none 0 0⟩ : Rx).row = t.row s := fun hx => by unfold Tbl.row; rw [← H2, rowsX_at, hx]; rfl
  obtain ⟨A, c, rfl⟩ := H1.shape
  have b0 := ((Bl.start w).alloc (.cells #[.int .i64 z, .slice A xs.length c] 58)).alloc (.cells #[.int .i64 0, .bool false, .slice none 0 0] 74)
  have H1' := Lib.hid (H1.below b0.1)
  have BK := Lib.hid ((Blk.new w 58 #[.int .i64 z, .slice A xs.length c]).alloc (.cells #[.int .i64 0, .bool false, .slice none 0 0] 74))
  have BL := Lib.hid (by have := Blk.new (w.alloc (.cells #[.int .i64 z, .slice A xs.length c] 58)) 74 #[.int .i64 0, .bool false, .slice none 0 0]; rwa [World.size_alloc] at this)
  have B0 := Lib.hid b0
  have LW : Hid (∀ p ∈ xs, Lx N w p.2) := Lib.hid H1.each
  have KEY := Lib.hid key
  have KEYN := Lib.hid keyn
  clear H1 b0 key keyn
  go_enter Try.func32, Try.ntmps32
  go_wp2_with fail
  generalize (w.alloc (.cells #[.int .i64 z, .slice A xs.length c] 58)).alloc (.cells #[.int .i64 0, .bool false, .slice none 0 0] 74) = w1 at *
  have c1 : w1.cell? ⟨w.heap.size, 1, none⟩ = some (.slice A xs.length c) := by rw [BK.out.cell]; rfl
  obtain ⟨e0, e1, e2, f0, f1, f2⟩ := blk3 BL.out
  go_loopw [5] (fun vi wr => ∃ k : Nat, vi = .int .i64 (k : Int) ∧ k ≤ xs.length ∧ Hid (∀ (j : Nat) (q : Int × Rx), j < k → xs[j]? = some q → ¬ q.1 = s) ∧ wr = w1) (fun vi _ => xs.length - (intOf vi).toNat)
  case atStart => exact ⟨0, rfl, Nat.zero_le _, Lib.hid (fun j q h => absurd h (by omega)), rfl⟩
  case round =>
    obtain ⟨k, rfl, hk, HN, rfl⟩ := hrel
    by_cases hlt : k < xs.length
    · obtain ⟨p, hx⟩ : ∃ x, xs[k]? = some x := ⟨_, List.getElem?_eq_getElem hlt⟩
      obtain ⟨b, o, c', hv, hbl, d0, d1, d2⟩ := H1'.out.at_ hx
      cases hv
      have i1 : (k : Int) < (xs.length : Int) := by omega
      have wk : IntKind.i64.wrap ((k : Int) + 1) = (k : Int) + 1 := IntWalk.i64_in _ (by omega)
      have HX := Lib.hid hx
      have LX := Lib.hid (H1'.out.each p (List.mem_of_getElem? hx))
      clear hx
      obtain ⟨ps, pf, pq, pv⟩ := p
      simp only at d0 d1 d2
      by_cases hs : ps = s
      · obtain ⟨A', c', hv'⟩ := LX.out.shape
        simp only at hv'
        subst hv'
        have HS := Lib.hid hs
        have hbe : (ps == s) = true := by simpa using hs
        clear hs
        go_wp2_with fail
        obtain ⟨q1, q2, _⟩ := set3 BL.out B0.out (Nat.le_succ _) (.int .i64 ps) (.bool pf) (.slice A' pq.length c')
        exact bodyPost_ret (results_l1 rfl _ _ _ rfl q1) rfl ⟨⟨pf, pq, .slice A' pq.length c'⟩, by rw [HS.out], KEY.out _ (key_first HX.out HS.out HN.out), (LW.out _ (List.mem_of_getElem? HX.out)).below q2.1, q2.1⟩
      · have HS := Lib.hid hs
        have hbe : (ps == s) = false := by simpa using hs
        go_wp2_with fail
        refine ⟨⟨k + 1, by go_num, by omega, Lib.hid ?_, trivial⟩, by simp [intOf]; omega⟩
        intro j q hj hq
        rcases Nat.lt_or_ge j k with h | h
        · exact HN.out j q h hq
        · obtain rfl : j = k := by omega
          rw [HX.out] at hq
          cases hq
          exact HS.out
    · obtain rfl : k = xs.length := by omega
      have HNN := Lib.hid (key_none (fun j q hq => HN.out j q (List.getElem?_eq_some_iff.1 hq).1 hq))
      go_wp2_with fail
      obtain ⟨q1, q2, _⟩ := set3 BL.out B0.out (Nat.le_succ _) (.int .i64 s) (.bool false) (.slice none 0 0)
      exact bodyPost_ret (results_l1 rfl _ _ _ rfl q1) rfl ⟨⟨false, [], .slice none 0 0⟩, rfl, KEYN.out HNN.out, Lx.none N _, q2.1⟩
end Go.Proofs.Ytjladlniilacjaa
