/-
  The document's answer for feed (guillocheref18): what holds in the midst of a round of Push; append of what a slice shows, be it nothing.
-/
import Derived.Test.YtjladlniilacjaaFeeRf6
import Derived.Test.YtjladlniilacjaaFeeFull
namespace Go.Proofs.Ytjladlniilacjaa
open Go.RowKit Go.Proofs.Fee
set_option linter.unusedVariables false
set_option linter.unusedSimpArgs false
theorem append_empty {T S : TypeId} {z : Value} {k bytes : Nat} (hU : Try.prog.underlying S = some (.slice T)) (hI : (Try.prog.info? T).map (fun i => (i.zero, i.size, i.bytes)) = some (some z, k, bytes))
    (W : World) (base : Nat) (v : Value) (n : Nat) (xs : List Value) (hown : W.ownsRow base T k v n xs) (A : Option Addr) (c : Nat) :
    (Builtin.append_ #[S, S] S #[v, .slice A 0 c]).run Try.prog W = .ok v W := by
  obtain ⟨i0, hi, hz0, hz1, hz2⟩ := info_partsK hI
  rcases hown.2 with ⟨rfl, rfl⟩ | ⟨g, cap, cur, rfl, _, _, hnc, _⟩
  · cases A <;> simp [Builtin.append_, run_underlying hU, sizeOf, typeInfo, hi, Builtin.lenOf, Builtin.firstCells, loadCells, loadCellsFrom]
  · cases A <;> simp [Builtin.append_, run_underlying hU, sizeOf, typeInfo, hi, Builtin.lenOf, Builtin.firstCells, hnc, storeCells, loadCells, loadCellsFrom]
/-- append, as one operation: onto a row of one's own, of what a slice shows. -/
theorem append_shown {T S : TypeId} {z : Value} {k bytes : Nat} (hU : Try.prog.underlying S = some (.slice T)) (hI : (Try.prog.info? T).map (fun i => (i.zero, i.size, i.bytes)) = some (some z, k, bytes)) (hz : z.cells.size = k) (hk : 0 < k) (hby2 : bytes ≤ 100)
    (W : World) (base : Nat) (v : Value) (n : Nat) (xs : List Value) (hown : W.ownsRow base T k v n xs) {N : Nat → Prop} (A : Option Addr) (m c : Nat) (ys : List Value) (hy : ys.length = m * k) (hc : Sh N W A ys) (ho : ∀ y ∈ ys, y.oneCell' = true) (hm : n + m ≤ 1000000) (hb : base ≤ W.heap.size) :
    ∃ v' w', (Builtin.append_ #[S, S] S #[v, .slice A m c]).run Try.prog W = .ok v' w' ∧ w'.ownsRow base T k v' (n + m) (xs ++ ys) ∧ W.grownBy w' v.ownBlock ∧ (v'.ownBlock = v.ownBlock ∨ v'.ownBlock = some W.heap.size) := by
  rcases hc with rfl | ⟨b, o, rfl, _, _, hc⟩
  · have h0 : m = 0 := by
      have : 0 = m * k := hy
      rcases Nat.eq_zero_or_pos m with h | h
      · exact h
      · have := Nat.mul_pos h hk; omega
    subst h0
    refine ⟨v, W, append_empty hU hI W base v n xs hown A c, ?_, ⟨rfl, rfl, rfl, Nat.le_refl _, fun _ _ _ => rfl⟩, .inl rfl⟩
    rw [List.append_nil, Nat.add_zero]
    exact hown
  · exact append_own hU hI hz hk hby2 W base v n xs hown b o m c ys hy hc ho hm hb
theorem wpList_append_shown {ops : Array Oper} {rest : List Oper} {o : Oper} {a : Act} {Q : Exit → Act → World → Prop} {W : World} {T S : TypeId} {z : Value} {k bytes : Nat} (hU : Try.prog.underlying S = some (.slice T)) (hI : (Try.prog.info? T).map (fun i => (i.zero, i.size, i.bytes)) = some (some z, k, bytes)) (hz : z.cells.size = k) (hk : 0 < k) (hby2 : bytes ≤ 100)
    (hg : Region.wanted o (yielded ops a.tmps) = true) (s x : Operand) (ho : o.op = .call { callee := .builtin .append, args := #[s, x], argTypes := #[S, S] }) (hty : o.type = S) (base : Nat) (v : Value) (n : Nat) (xs : List Value) (N : Nat → Prop) (A : Option Addr) (m c : Nat) (ys : List Value) (hs : a.eval s = v) (hx : a.eval x = .slice A m c)
    (hown : W.ownsRow base T k v n xs) (hy : ys.length = m * k) (hc : Sh N W A ys) (ho1 : ∀ y ∈ ys, y.oneCell' = true) (hm : n + m ≤ 1000000) (hb : base ≤ W.heap.size)
    (h : ∀ v' w', w'.ownsRow base T k v' (n + m) (xs ++ ys) → W.grownBy w' v.ownBlock → (v'.ownBlock = v.ownBlock ∨ v'.ownBlock = some W.heap.size) → wpList Try.prog ops Q rest (a.put o.dst v') w') : wpList Try.prog ops Q (o :: rest) a W := by
  obtain ⟨v', w', h1, h2, h3, h4⟩ := append_shown hU hI hz hk hby2 W base v n xs hown A m c ys hy hc ho1 hm hb
  unfold wpList
  rw [if_pos hg]
  left
  unfold Oper.wp execOp
  simp only [ho, hty, resolve, invoke, builtin, Sem.run_bind, Sem.run_pure, Result.andThen_ok, List.map_toArray, List.map_cons, List.map_nil, hs, hx, h1]
  exact h v' w' h2 h3 h4
/-- .. as one step of a region that draws. -/
theorem step_append_shown {ops : Array Oper} {o : Oper} {a : Act} {W : World} {K : Act → World → Prop} {Q : Exit → Act → World → Prop} {E : Prop} {T S : TypeId} {z : Value} {k bytes : Nat} (hU : Try.prog.underlying S = some (.slice T)) (hI : (Try.prog.info? T).map (fun i => (i.zero, i.size, i.bytes)) = some (some z, k, bytes)) (hz : z.cells.size = k) (hk : 0 < k) (hby2 : bytes ≤ 100)
    (hg : o.guard = none) (s x : Operand) (ho : o.op = .call { callee := .builtin .append, args := #[s, x], argTypes := #[S, S] }) (hty : o.type = S) (base : Nat) (v : Value) (n : Nat) (xs : List Value) (N : Nat → Prop) (A : Option Addr) (m c : Nat) (ys : List Value) (hs : a.eval s = v) (hx : a.eval x = .slice A m c)
    (hown : W.ownsRow base T k v n xs) (hy : ys.length = m * k) (hc : Sh N W A ys) (ho1 : ∀ y ∈ ys, y.oneCell' = true) (hm : n + m ≤ 1000000) (hb : base ≤ W.heap.size)
    (h : ∀ v' w', w'.ownsRow base T k v' (n + m) (xs ++ ys) → W.grownBy w' v.ownBlock → (v'.ownBlock = v.ownBlock ∨ v'.ownBlock = some W.heap.size) → K (a.put o.dst v') w') :
    if Region.wanted o (yielded ops a.tmps) = true then Oper.wp Try.prog o a W K Q else E := by
  obtain ⟨v', w', h1, h2, h3, h4⟩ := append_shown hU hI hz hk hby2 W base v n xs hown A m c ys hy hc ho1 hm hb
  have hw : Region.wanted o (yielded ops a.tmps) = true := by simp [Region.wanted, hg]
  rw [if_pos hw]
  unfold Oper.wp
  simp only [execOp, ho, hty, resolve, invoke, builtin, Sem.run_bind, Sem.run_pure, Result.andThen_ok, List.map_toArray, List.map_cons, List.map_nil, hs, hx, h1]
  exact h v' w' h2 h3 h4
/-- What holds behind i rows. -/
structure PL (N2 : Nat → Prop) (w : World) (B3 : Nat) (n : Ntc) (t : Tbl) (z : Int) (vc : Value) (i : Nat) (vo : Value) (W : World) : Prop where
  st : ∃ xs v, Ls (fun b => N2 b ∧ vo.ownBlock ≠ some b) W v xs ∧ rowsX xs = (pushTo n t i).1.rows ∧ Blk W w.heap.size 58 #[.int .i64 z, v]
  out : W.ownsRow B3 3 1 vo (pushTo n t i).2.length ((pushTo n t i).2.map (Value.int .i64))
  bl : Bl w.heap.size w W
  nb : Blk W (w.heap.size + 1) 63 #[.int .i64 n.ses, .int .i64 n.err, .int .i64 n.block, .string n.root, vc]
  rb : Blk W (w.heap.size + 1 + 1) 58 #[.int .i64 0, .slice none 0 0]
  ch : Chs W vc n.chs
/-- What holds in the midst of a round: x is the line that lies in the box g; out is L. -/
structure PM (N2 : Nat → Prop) (w : World) (B3 : Nat) (n : Ntc) (z : Int) (vc : Value) (g : Nat) (ps : Int) (x : Rx) (v : Value) (xs : List (Int × Rx)) (vo : Value) (L : List Int) (W : World) : Prop where
  gb : w.heap.size + 1 + 1 < g
  b3 : w.heap.size + 1 + 1 < B3
  lx : Lx (fun b => (N2 b ∧ vo.ownBlock ≠ some b) ∧ b ≠ g ∧ b ≠ g + 1) W x
  ls : Ls (fun b => (N2 b ∧ vo.ownBlock ≠ some b) ∧ b ≠ g ∧ b ≠ g + 1) W v xs
  fb : Blk W w.heap.size 58 #[.int .i64 z, v]
  xb : Blk W g 74 #[.int .i64 ps, .bool x.fol, x.v]
  out : W.ownsRow B3 3 1 vo L.length (L.map (Value.int .i64))
  bl : Bl w.heap.size w W
  nb : Blk W (w.heap.size + 1) 63 #[.int .i64 n.ses, .int .i64 n.err, .int .i64 n.block, .string n.root, vc]
  rb : Blk W (w.heap.size + 1 + 1) 58 #[.int .i64 0, .slice none 0 0]
  ch : Chs W vc n.chs
section
variable {N2 : Nat → Prop} {w W W' : World} {B3 : Nat} {n : Ntc} {z : Int} {vc : Value} {g : Nat} {ps : Int} {x : Rx} {v : Value} {xs : List (Int × Rx)} {vo : Value} {L : List Int}
theorem PM.below (h : PM N2 w B3 n z vc g ps x v xs vo L W) (k : Below W.heap.size W W') : PM N2 w B3 n z vc g ps x v xs vo L W' :=
  ⟨h.gb, h.b3, h.lx.below k, h.ls.below k, h.fb.below k, h.xb.below k, own_far h.out (far_of_belowF k) (fun _ _ e => e), h.bl.call k, h.nb.below k, h.rb.below k, h.ch.below k⟩
/-- What is stored into the line's box. -/
theorem PM.box {x' : Rx} (h : PM N2 w B3 n z vc g ps x v xs vo L W) (F : Far (fun j => j = g) W W') (hB : Bl w.heap.size w W') (hb : Blk W' g 74 #[.int .i64 ps, .bool x'.fol, x'.v]) (hx : Lx (fun b => (N2 b ∧ vo.ownBlock ≠ some b) ∧ b ≠ g ∧ b ≠ g + 1) W' x') : PM N2 w B3 n z vc g ps x' v xs vo L W' :=
  have hc : ∀ q c, Blk W q 142 c → W'.heap[q]? = W.heap[q]? := fun q c hq => F.block q hq.lt (fun e => absurd (blk_type (e ▸ hq) h.xb) (by decide))
  ⟨h.gb, h.b3, hx, h.ls.keep F.size (fun b hb hn => ⟨hn, F.block b hb hn.2.1⟩) hc, h.fb.far F (by have := h.gb; omega), hb,
    own_far h.out F (fun b hb e => by
      obtain ⟨cur, h1⟩ := own_type h.out hb
      exact absurd (blk_type (e ▸ h1) h.xb) (by decide)), hB, h.nb.far F (by have := h.gb; omega), h.rb.far F (by have := h.gb; omega), h.ch.same hc⟩
theorem PM.lx_box (h : PM N2 w B3 n z vc g ps x v xs vo L W) (F : Far (fun j => j = g) W W') : Lx (fun b => (N2 b ∧ vo.ownBlock ≠ some b) ∧ b ≠ g ∧ b ≠ g + 1) W' x :=
  h.lx.keep F.size (fun b hb hn => ⟨hn, F.block b hb hn.2.1⟩) (fun q c hq => F.block q hq.lt (fun e => absurd (blk_type (e ▸ hq) h.xb) (by decide)))
/-- What is stored into the notice's box. -/
theorem PM.note {c0 : Array Value} (h : PM N2 w B3 n z vc g ps x v xs vo L W) (hb : Blk W (g + 1) 63 c0) (F : Far (fun j => j = g + 1) W W') (hB : Bl w.heap.size w W') : PM N2 w B3 n z vc g ps x v xs vo L W' :=
  have hc : ∀ q c, Blk W q 142 c → W'.heap[q]? = W.heap[q]? := fun q c hq => F.block q hq.lt (fun e => absurd (blk_type (e ▸ hq) hb) (by decide))
  ⟨h.gb, h.b3, h.lx.keep F.size (fun b hb hn => ⟨hn, F.block b hb hn.2.2⟩) hc, h.ls.keep F.size (fun b hb hn => ⟨hn, F.block b hb hn.2.2⟩) hc, h.fb.far F (by have := h.gb; omega), h.xb.far F (by omega),
    own_far h.out F (fun b hb' e => by
      obtain ⟨cur, h1⟩ := own_type h.out hb'
      exact absurd (blk_type (e ▸ h1) hb) (by decide)), hB, h.nb.far F (by have := h.gb; omega), h.rb.far F (by have := h.gb; omega), h.ch.same hc⟩
/-- It lags. -/
theorem PM.lag (h : PM N2 w B3 n z vc g ps x v xs vo L W) : PM N2 w B3 n z vc g ps ⟨false, x.q, x.v⟩ v xs vo L (W.setCell ⟨g, 1, none⟩ (.bool false)) := by
  have F : Far (fun j => j = g) W (W.setCell ⟨g, 1, none⟩ (.bool false)) := (Far.refl (fun j => j = g) W).setCell (p := ⟨g, 1, none⟩) (fun _ => rfl) _
  have l := h.lx_box F
  exact h.box F (h.bl.setCell (p := ⟨g, 1, none⟩) (by have := h.gb; show w.heap.size ≤ g; omega) _) (by have := h.xb.set 1 (.bool false); simpa using this) ⟨l.sl, l.chs⟩
/-- One more in out. -/
theorem PM.outs {vo' : Value} {W0 : World} {s : Int} (h : PM N2 w B3 n z vc g ps x v xs vo L W) (hW : Below W.heap.size W W0) (hr : W0.grownBy W' vo.ownBlock) (hs : vo'.ownBlock = vo.ownBlock ∨ vo'.ownBlock = some W0.heap.size) (ho : W'.ownsRow B3 3 1 vo' (L.length + 1) (L.map (Value.int .i64) ++ [.int .i64 s])) (hB : Bl w.heap.size w W') : PM N2 w B3 n z vc g ps x v xs vo' (L ++ [s]) W' := by
  have F : Far (fun j => vo.ownBlock = some j) W W' := ((far_of_belowF hW).mono (fun _ _ e => e.elim) (S' := fun j => vo.ownBlock = some j)).grown hr (fun i _ e => e)
  have hne : ∀ q T c, Blk W q T c → T ≠ 3 → ¬ vo.ownBlock = some q := fun q T c hq hT e => by
    obtain ⟨cur, h1⟩ := own_type h.out e
    exact hT (blk_type hq h1)
  have hc : ∀ q c, Blk W q 142 c → W'.heap[q]? = W.heap[q]? := fun q c hq => F.block q hq.lt (hne q _ c hq (by decide))
  have hn : ∀ b, b < W.heap.size → (N2 b ∧ vo.ownBlock ≠ some b) ∧ b ≠ g ∧ b ≠ g + 1 → ((N2 b ∧ vo'.ownBlock ≠ some b) ∧ b ≠ g ∧ b ≠ g + 1) ∧ W'.heap[b]? = W.heap[b]? := fun b hb hn => ⟨⟨⟨hn.1.1, by
    rcases hs with e | e
    · rw [e]; exact hn.1.2
    · rw [e]; have := hW.size; intro e2; cases e2; omega⟩, hn.2⟩, F.block b hb hn.1.2⟩
  exact ⟨h.gb, h.b3, h.lx.keep F.size hn hc, h.ls.keep F.size hn hc, h.fb.far F (hne _ _ _ h.fb (by decide)), h.xb.far F (hne _ _ _ h.xb (by decide)), by rw [List.length_append, List.map_append]; exact ho, hB, h.nb.far F (hne _ _ _ h.nb (by decide)), h.rb.far F (hne _ _ _ h.rb (by decide)), h.ch.same hc⟩
/-- One more in its queue. -/
theorem PM.one {v9 : Value} {m' : Ntc} {vm : Value} {base : Nat} (hN : ∀ k, w.heap.size + 1 + 1 < k → N2 k) (h : PM N2 w B3 n z vc g ps x v xs vo L W) (hbase : W.heap.size ≤ base) (hg1 : g + 1 < W.heap.size) (hW : Below W.heap.size W W') (ho : W'.ownsRow base 63 5 v9 (x.q.length + 1) (flatN x.q ++ cellN (m', vm))) (hm : Chs W vm m'.chs) : PM N2 w B3 n z vc g ps ⟨x.fol, x.q ++ [(m', vm)], v9⟩ v xs vo L (W'.setCell ⟨g, 2, none⟩ v9) := by
  have h1 := h.below hW
  have hgl := h.xb.lt
  have F : Far (fun j => j = g) W' (W'.setCell ⟨g, 2, none⟩ v9) := (Far.refl (fun j => j = g) W').setCell (p := ⟨g, 2, none⟩) (fun _ => rfl) _
  have l := h1.lx_box F
  have hc : ∀ q c, Blk W' q 142 c → (W'.setCell ⟨g, 2, none⟩ v9).heap[q]? = W'.heap[q]? := fun q c hq => F.block q hq.lt (fun e => absurd (blk_type (e ▸ hq) h1.xb) (by decide))
  have o1 := own_far ho F (fun b hb e => by have := (ho.lt b hb).1; omega)
  obtain ⟨A, c, e1, e2, e3⟩ := Sh.of_own (N := fun b => (N2 b ∧ vo.ownBlock ≠ some b) ∧ b ≠ g ∧ b ≠ g + 1) o1 (fun b hb => by
    have h2 := h.gb
    exact ⟨⟨hN b (by omega), fun e => by have := (h.out.lt b e).2; omega⟩, by omega, by omega⟩)
  refine h1.box F (h1.bl.setCell (p := ⟨g, 2, none⟩) (by have := h.gb; show w.heap.size ≤ g; omega) _) (by have := h1.xb.set 2 v9; simpa using this) ⟨⟨A, c, by rw [e1]; simp, by simpa using e2, ?_⟩, fun y hy => ?_⟩
  · show Sh _ _ A (flatN (x.q ++ [(m', vm)]))
    rw [flatN_append]
    simpa [flatN] using e3
  · rcases List.mem_append.1 hy with hy | hy
    · exact l.chs y hy
    · rw [List.mem_singleton] at hy
      subst hy
      exact (hm.below hW).same hc
theorem flatL_set {xs : List (Int × Rx)} : ∀ {i : Nat} (p : Int × Rx), i < xs.length → flatL (xs.set i p) = (((flatL xs).set (i * 3) (.int .i64 p.1)).set (i * 3 + 1) (.bool p.2.fol)).set (i * 3 + 2) p.2.v := by
  induction xs with
  | nil => intro i p h; simp at h
  | cons y r ih =>
    intro i p h
    cases i with
    | zero => rfl
    | succ i =>
      have e : flatL (y :: r) = lineC y ++ flatL r := rfl
      have e2 : flatL ((y :: r).set (i + 1) p) = lineC y ++ flatL (r.set i p) := rfl
      have hl : (lineC y).length = 3 := rfl
      rw [e, e2, ih p (by simpa using h)]
      rw [List.set_append_right _ _ (by omega), List.set_append_right _ _ (by omega), List.set_append_right _ _ (by omega), hl]
      rw [show (i + 1) * 3 - 3 = i * 3 by omega, show (i + 1) * 3 + 1 - 3 = i * 3 + 1 by omega, show (i + 1) * 3 + 2 - 3 = i * 3 + 2 by omega]
theorem one_flatL {ys : List (Int × Rx)} (h : ∀ y ∈ ys, ∃ A n c, y.2.v = .slice A n c) : ∀ v ∈ flatL ys, v.oneCell' = true := by
  intro v hv
  obtain ⟨y, hy, hv⟩ := List.mem_flatMap.1 hv
  obtain ⟨A, n, c, e⟩ := h y hy
  unfold lineC at hv
  rw [e] at hv
  simp only [List.mem_cons, List.not_mem_nil, or_false] at hv
  rcases hv with rfl | rfl | rfl <;> rfl
theorem PM.one_line (h : PM N2 w B3 n z vc g ps x v xs vo L W) : ∀ y ∈ flatL xs, y.oneCell' = true := one_flatL (fun y hy => by
  obtain ⟨A, c, e⟩ := (h.ls.each y hy).shape
  exact ⟨A, _, c, e⟩)
theorem PM.one_ntc (h : PM N2 w B3 n z vc g ps x v xs vo L W) : ∀ y ∈ flatN x.q, y.oneCell' = true := one_flatN (fun y hy => (h.lx.chs y hy).slice)
theorem PM.sh_line {b o m c : Nat} (h : PM N2 w B3 n z vc g ps x (.slice (some ⟨b, o, none⟩) m c) xs vo L W) : Sh (fun b => (N2 b ∧ vo.ownBlock ≠ some b) ∧ b ≠ g ∧ b ≠ g + 1) W (some ⟨b, o, none⟩) (flatL xs) := by
  obtain ⟨A, c', e, _, h3⟩ := h.ls.sl
  cases e
  exact h3
theorem PM.sh_ntc {A : Option Addr} {m c : Nat} {q : List (Ntc × Value)} {f : Bool} (h : PM N2 w B3 n z vc g ps ⟨f, q, .slice A m c⟩ v xs vo L W) : Sh (fun b => (N2 b ∧ vo.ownBlock ≠ some b) ∧ b ≠ g ∧ b ≠ g + 1) W A (flatN q) := by
  obtain ⟨A', c', e, _, h3⟩ := h.lx.sl
  simp only [Value.slice.injEq] at e
  rw [e.1]
  exact h3
theorem own_other {a b n c : Nat} (h : a ≠ b) : (Value.slice (some ⟨a, 0, none⟩) n c).ownBlock ≠ some b := fun e => h (by cases e; rfl)
theorem rowsX_set (xs : List (Int × Rx)) (i : Nat) (p : Int × Rx) : rowsX (xs.set i p) = (rowsX xs).set i (p.1, p.2.row) := by unfold rowsX mapK; rw [List.map_set]
/-- The round's end. -/
theorem PM.fin {t : Tbl} {i : Nat} {v10 : Value} {W10 : World} (hN : ∀ k, w.heap.size + 1 + 1 < k → N2 k) (hN0 : ¬ N2 w.heap.size) (h : PM N2 w B3 n z vc g ps x v xs vo (pushTo n t (i + 1)).2 W) (hi : i < xs.length) (hr : (pushTo n t (i + 1)).1.rows = (rowsX xs).set i (ps, x.row)) (h10 : W10.ownsRow W.heap.size 74 3 v10 xs.length (flatL xs)) (k : Below W.heap.size W W10) :
    ∃ g10 c10, v10 = .slice (some ⟨g10, 0, none⟩) xs.length c10 ∧ W.heap.size ≤ g10 ∧ g10 < W10.heap.size ∧ (∃ cur, Blk W10 g10 74 cur ∧ cur.size = c10 * 3 ∧ xs.length ≤ c10) ∧ PL N2 w B3 n t z vc (i + 1) vo ((((W10.setCell ⟨g10, i * 3, none⟩ (.int .i64 ps)).setCell ⟨g10, i * 3 + 1, none⟩ (.bool x.fol)).setCell ⟨g10, i * 3 + 2, none⟩ x.v).setCell ⟨w.heap.size, 1, none⟩ (.slice (some ⟨g10, 0, none⟩) xs.length c10)) := by
  have h1 := h.below k
  have hgl := h.xb.lt
  have hgb := h.gb
  rcases h10.2 with ⟨_, h2⟩ | ⟨g10, c10, cur, rfl, hb, hg, hle, hcap, hs, ht⟩
  · omega
  · have hgb10 : g10 < W10.heap.size := (Array.getElem?_eq_some_iff.1 hg).1
    refine ⟨g10, c10, rfl, hb, hgb10, ⟨cur, hg, hs, hle⟩, ?_⟩
    have s1 := (h10.stored (i * 3) (.int .i64 ps)).1
    have s2 := (s1.stored (i * 3 + 1) (.bool x.fol)).1
    have s3 := (s2.stored (i * 3 + 2) x.v).1
    rw [← flatL_set (ps, x) hi] at s3
    have F3 : Far (fun j => j = g10) W10 (((W10.setCell ⟨g10, i * 3, none⟩ (.int .i64 ps)).setCell ⟨g10, i * 3 + 1, none⟩ (.bool x.fol)).setCell ⟨g10, i * 3 + 2, none⟩ x.v) :=
      (((Far.refl (fun j => j = g10) W10).setCell (p := ⟨g10, _, none⟩) (fun _ => rfl) _).setCell (p := ⟨g10, _, none⟩) (fun _ => rfl) _).setCell (p := ⟨g10, _, none⟩) (fun _ => rfl) _
    generalize ((W10.setCell ⟨g10, i * 3, none⟩ (.int .i64 ps)).setCell ⟨g10, i * 3 + 1, none⟩ (.bool x.fol)).setCell ⟨g10, i * 3 + 2, none⟩ x.v = W3 at *
    have F4 : Far (fun j => j = w.heap.size) W3 (W3.setCell ⟨w.heap.size, 1, none⟩ (.slice (some ⟨g10, 0, none⟩) xs.length c10)) := (Far.refl (fun j => j = w.heap.size) W3).setCell (p := ⟨w.heap.size, 1, none⟩) (fun _ => rfl) _
    have fb3 : Blk W3 w.heap.size 58 #[.int .i64 z, v] := h1.fb.far F3 (by omega)
    have fb4 := fb3.set 1 (.slice (some ⟨g10, 0, none⟩) xs.length c10)
    have s4 := own_far s3 F4 (fun b hb' e => by simp [Value.ownBlock] at hb'; omega)
    have B4 : Bl w.heap.size w (W3.setCell ⟨w.heap.size, 1, none⟩ (.slice (some ⟨g10, 0, none⟩) xs.length c10)) := (Far.bl h1.bl F3 (fun j e => by omega)).setCell (p := ⟨w.heap.size, 1, none⟩) (Nat.le_refl _) _
    have F : Far (fun j => j = g10 ∨ j = w.heap.size) W10 (W3.setCell ⟨w.heap.size, 1, none⟩ (.slice (some ⟨g10, 0, none⟩) xs.length c10)) := (F3.mono (fun _ _ e => .inl e)).trans F4 (fun _ _ e => .inr e)
    generalize W3.setCell ⟨w.heap.size, 1, none⟩ (.slice (some ⟨g10, 0, none⟩) xs.length c10) = W4 at *
    have hc : ∀ q c, Blk W10 q 142 c → W4.heap[q]? = W10.heap[q]? := fun q c hq => F.block q hq.lt (fun e => by
      rcases e with e | e
      · exact absurd (blk_type (e ▸ hq) (show Blk W10 g10 _ cur from hg)) (by decide)
      · exact absurd (blk_type (e ▸ hq) h1.fb) (by decide))
    have hc0 : ∀ q c, Blk W q 142 c → W4.heap[q]? = W.heap[q]? := fun q c hq => (hc q c (hq.below k)).trans (k.block q hq.lt)
    have hkeep : ∀ b, b < W.heap.size → (N2 b ∧ vo.ownBlock ≠ some b) ∧ b ≠ g ∧ b ≠ g + 1 → (N2 b ∧ vo.ownBlock ≠ some b) ∧ W4.heap[b]? = W.heap[b]? := fun b hb' hn => ⟨hn.1, (F.block b (Nat.lt_of_lt_of_le hb' k.size) (fun e => by
      rcases e with e | e
      · omega
      · exact hN0 (e ▸ hn.1.1))).trans (k.block b hb')⟩
    have hsz : W.heap.size ≤ W4.heap.size := Nat.le_trans k.size F.size
    refine ⟨⟨xs.set i (ps, x), _, ⟨?_, fun p hp => ?_⟩, by rw [rowsX_set, hr], by simpa using fb4⟩, own_far h1.out F (fun b hb' e => ?_), B4, h1.nb.far F (by omega), h1.rb.far F (by omega), h1.ch.same hc⟩
    · obtain ⟨A, c, e1, e2, e3⟩ := Sh.of_own (N := fun b => N2 b ∧ vo.ownBlock ≠ some b) s4 (fun b hb' => ⟨hN b (by omega), fun e => by have := (h.out.lt b e).2; omega⟩)
      exact ⟨A, c, by rw [e1]; simp, by simpa using e2, e3⟩
    · rcases List.mem_or_eq_of_mem_set hp with hp | rfl
      · exact (h.ls.each p hp).keep hsz hkeep hc0
      · exact h.lx.keep hsz hkeep hc0
    · rcases e with e | e
      · have := (h.out.lt b hb').2; omega
      · have := (h.out.lt b hb').1; have := h.b3; omega
theorem PL.mid {t : Tbl} {i : Nat} {p : Int × Rx} {A : Option Addr} {nn c : Nat} (h3 : w.heap.size + 1 + 1 < B3) (h : PL N2 w B3 n t z vc i vo W) (hl : Ls (fun b => N2 b ∧ vo.ownBlock ≠ some b) W v xs) (hp : p ∈ xs) (hf : Blk W w.heap.size 58 #[.int .i64 z, v]) (hs : w.heap.size + 1 + 1 < W.heap.size) : PM N2 w B3 n z vc W.heap.size p.1 p.2 v xs vo (pushTo n t i).2 (W.alloc (.cells #[.int .i64 p.1, .bool p.2.fol, p.2.v] 74)) := by
  have k := (Below.refl W.heap.size W).alloc (Nat.le_refl _) (.cells #[.int .i64 p.1, .bool p.2.fol, p.2.v] 74)
  have hk : ∀ b, b < W.heap.size → N2 b ∧ vo.ownBlock ≠ some b → ((N2 b ∧ vo.ownBlock ≠ some b) ∧ b ≠ W.heap.size ∧ b ≠ W.heap.size + 1) ∧ (W.alloc (.cells #[.int .i64 p.1, .bool p.2.fol, p.2.v] 74)).heap[b]? = W.heap[b]? := fun b hb hn => ⟨⟨hn, by omega, by omega⟩, k.block b hb⟩
  have hc : ∀ q c, Blk W q 142 c → (W.alloc (.cells #[.int .i64 p.1, .bool p.2.fol, p.2.v] 74)).heap[q]? = W.heap[q]? := fun q c hq => k.block q hq.lt
  exact ⟨hs, h3, (hl.each p hp).keep k.size hk hc, hl.keep k.size hk hc, hf.below k, Blk.new W _ _, World.ownsRow.alloc h.out _, h.bl.alloc _, h.nb.below k, h.rb.below k, h.ch.below k⟩
end
theorem pushTo_skip (n : Ntc) {t : Tbl} (ok : t.Ok) {i : Nat} {s : Int} {y : Row} (hi : (pushTo n t i).1.rows[i]? = some (s, y)) (hk : t.keys[i]? = some s) (hf : y.fol = false) : (pushTo n t (i + 1)).1.rows = (pushTo n t i).1.rows ∧ (pushTo n t (i + 1)).2 = (pushTo n t i).2 := by
  obtain ⟨o1, o2, o3⟩ := pushTo_ok n ok i
  have e : (pushTo n t i).1.row s = y := by unfold Tbl.row; rw [at_num o1.up hi]; rfl
  rw [pushTo_succ n t hk, e]
  refine ⟨?_, by unfold lagR; rw [hf]; simp⟩
  show ((pushTo n t i).1.pushAt n s).rows = _
  rw [pushAt_set n o1 hi]
  have : pushRow (pushTo n t i).1.room n s y = y := by unfold pushRow; rw [hf]; simp
  rw [this]
  refine List.ext_getElem? (fun j => ?_)
  by_cases hj : i = j
  · subst hj
    rw [List.getElem?_set_self (List.getElem?_eq_some_iff.1 hi).1, hi]
  · rw [List.getElem?_set_ne hj]
/-- A row that follows. -/
theorem pushTo_next (n : Ntc) {t : Tbl} (ok : t.Ok) {i : Nat} {s : Int} {q : List Ntc} (hi : (pushTo n t i).1.rows[i]? = some (s, ⟨true, q⟩)) (hk : t.keys[i]? = some s) :
    (pushTo n t (i + 1)).1.rows = (pushTo n t i).1.rows.set i (s, if q.length < t.room then ⟨true, q ++ [{ n with ses := s }]⟩ else ⟨false, if q.length = t.room then q ++ [lagN s n.block] else q⟩) ∧ (pushTo n t (i + 1)).2 = (pushTo n t i).2 ++ if q.length < t.room then [] else [s] := by
  obtain ⟨o1, o2, o3⟩ := pushTo_ok n ok i
  have e : (pushTo n t i).1.row s = ⟨true, q⟩ := by unfold Tbl.row; rw [at_num o1.up hi]; rfl
  rw [pushTo_succ n t hk, e]
  refine ⟨?_, ?_⟩
  · show ((pushTo n t i).1.pushAt n s).rows = _
    rw [pushAt_set n o1 hi, o3]
    unfold pushRow
    rw [if_pos rfl]
  · show _ ++ lagR (pushTo n t i).1.room s ⟨true, q⟩ = _
    rw [o3]
    unfold lagR
    rw [if_pos rfl]
end Go.Proofs.Ytjladlniilacjaa
