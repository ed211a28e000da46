import Derived.Test.YtgeonbkoihegnaaDoorRlpEach
import Derived.Test.YtgeonbkoihegnaaDoorRlpIs
namespace Go.Proofs.YtgeonbkoihegnaaDoor
open Go.RowKit Go.Shelf
attribute [local go_sem] Oper.semAt_some
set_option linter.unusedVariables false
set_option linter.unusedSimpArgs false
theorem infoStr : (Tryd.prog.info? 9).map (fun i => (i.zero, i.size, i.bytes)) = some (some (.string ByteArray.empty), 1, 16) := by kernel_rfl
def strs (l : List Told) : List Value := l.map fun x => .string x.1
theorem strs_snoc (l : List Told) (x : Told) : strs l ++ [.string x.1] = strs (l ++ [x]) := by simp [strs]
/-- Nothing wrong was told. -/
def Fine (l : List Told) : Prop := ∀ x ∈ l, x.2 = none
theorem isAggSl (w : World) : (isAgg 29).run Tryd.prog w = .ok false w := by kernel_rfl
theorem isAggEr (w : World) : (isAgg 24).run Tryd.prog w = .ok false w := by kernel_rfl
/-- Two results that lie in memory. -/
theorem results_cells2 {fn : Func} (h : fn.results = #[.cell 2 29, .cell 3 24]) (tmps : Array Value) (w : World) (a b : Nat) (h2 : tmps[2]?.getD undef = .pointer (some ⟨a, 0, none⟩)) (h3 : tmps[3]?.getD undef = .pointer (some ⟨b, 0, none⟩)) {x y : Value} (hx : Boxed w a 29 x) (hy : Boxed w b 24 y) :
    (results fn tmps).run Tryd.prog w = .ok (.tuple #[x, y]) w := by
  have c1 := hx.cell
  have c2 := hy.cell
  simp [results, h, h2, h3, loadVar, isAggSl, isAggEr, asAddr, c1, c2, Result.andThen]
theorem row_mono {w : World} {base base' : Nat} {e : TypeId} {size : Nat} {v : Value} {n : Nat} {xs : List Value} (h : w.ownsRow base e size v n xs) (hb : base' ≤ base) : w.ownsRow base' e size v n xs :=
  ⟨h.1, h.2.imp id (fun ⟨g, cap, cur, h1, h2, h3⟩ => ⟨g, cap, cur, h1, Nat.le_trans hb h2, h3⟩)⟩
theorem eachF_length (s : ByteArray) : ∀ (m k : Nat), (eachF s m k).length ≤ s.size - k := by
  intro m
  induction m with
  | zero => intro k; simp [eachF]
  | succ m ih =>
    intro k
    rw [eachF]
    split
    · next hlt =>
      rcases hT : Rlp.first (s.extract k s.size).data.toList with e | ⟨l, f, n⟩
      · simp; omega
      · have := Rlp.first_ok hT
        have h2 := ih (k + (f + n))
        simp only [List.length_cons]
        omega
    · simp
set_option maxRecDepth 100000 in
set_option maxHeartbeats 2000000 in
/-- rlp.Items. -/
theorem items_any (s : ByteArray) (w : World) (hs : s.size ≤ 4398046511104) (hl : Laid2 w) :
    Calls Tryd.prog 13 #[.string s] w fun e w' => Below w.heap.size w w' ∧
      ((¬ Fine (eachF s s.size 0) ∧ e = .returned (.tuple #[.slice none 0 0, .int .i64 2])) ∨
       (Fine (eachF s s.size 0) ∧ ∃ v, e = .returned (.tuple #[v, .int .i64 0]) ∧ w'.ownsRow w.heap.size 9 1 v (eachF s s.size 0).length (strs (eachF s s.size 0)))) := by
  refine (callsIn_wide (n := 5)).1 ?_
  obtain ⟨i0, hi, hz0, hz1, hz2⟩ := info_parts infoStr
  have hlt : 2 < w.heap.size := hl.lt
  refine callsIn_of_wp_marks Tryd.func13 rfl trivial ?_ rfl
  simp only [Tryd.ntmps13, List.size_toArray, List.length_cons, List.length_nil, Nat.reduceAdd, Nat.reduceSub, Array.replicate_succ, Array.replicate_zero, List.push_toArray, List.append_toArray, List.nil_append, List.cons_append]
  gi_wp2_with (refine ⟨trivial, ?_⟩; refine (callsIn_wide.2 (each_any s _)).mono ?_; rintro e w' ⟨rfl, rfl⟩)
  obtain ⟨N, hN⟩ : ∃ N, N = w.heap.size := ⟨_, rfl⟩
  have b0 := Boxed.new w 29 (.slice none 0 0)
  have b1 := Boxed.new (w.alloc (.cells #[.slice none 0 0] 29)) 24 (.int .i64 0)
  have b2 := Boxed.new ((w.alloc (.cells #[.slice none 0 0] 29)).alloc (.cells #[.int .i64 0] 24)) 29 (.slice none 0 0)
  have b3 := Boxed.new (((w.alloc (.cells #[.slice none 0 0] 29)).alloc (.cells #[.int .i64 0] 24)).alloc (.cells #[.slice none 0 0] 29)) 9 (.string s)
  simp only [World.size_alloc] at b1 b2 b3
  have b0' := ((b0.alloc (.cells #[.int .i64 0] 24)).alloc (.cells #[.slice none 0 0] 29)).alloc (.cells #[.string s] 9)
  have b1' := (b1.alloc (.cells #[.slice none 0 0] 29)).alloc (.cells #[.string s] 9)
  have b2' := b2.alloc (.cells #[.string s] 9)
  have hB0 : Below w.heap.size w ((((w.alloc (.cells #[.slice none 0 0] 29)).alloc (.cells #[.int .i64 0] 24)).alloc (.cells #[.slice none 0 0] 29)).alloc (.cells #[.string s] 9)) := ((((Below.refl _ w).alloc (Nat.le_refl _) _).alloc (by simp) _).alloc (by simp; omega) _).alloc (by simp; omega) _
  have hsz : ((((w.alloc (.cells #[.slice none 0 0] 29)).alloc (.cells #[.int .i64 0] 24)).alloc (.cells #[.slice none 0 0] 29)).alloc (.cells #[.string s] 9)).heap.size = N + 4 := by simp [hN]
  generalize ((((w.alloc (.cells #[.slice none 0 0] 29)).alloc (.cells #[.int .i64 0] 24)).alloc (.cells #[.slice none 0 0] 29)).alloc (.cells #[.string s] 9)) = W0 at b0' b1' b2' b3 hB0 hsz ⊢
  have hL0 : Laid2 W0 := hl.on hB0 (Nat.le_refl _)
  simp only [← hN] at b0' b1' b2' b3 hB0 hlt ⊢
  have hNw : N ≤ w.heap.size := by omega
  have HN := Lib.hid hN
  clear hN b0 b1 b2
  refine wpIn_rangeFunc_ownF rfl (by decide) (gf := 39) (lb := #[.pointer (some ⟨N + 1 + 1 + 1, 0, none⟩)]) rfl trivial (enters_of Tryd.func39 (by kernel_rfl) rfl)
    (each_stops 4 (N + 1 + 1 + 1) N s (by omega) (by decide) hlt W0 (by omega) (by omega) b3.cell hL0) kb_t (kb_b (by omega) (by omega)) (Below.refl _ _) (fun _ => rfl)
    (fun pre W => Fine pre ∧ (∃ v, Boxed W (N + 1 + 1) 29 v ∧ W.ownsRow (N + 4) 9 1 v pre.length (strs pre) ∧ True) ∧ Boxed W N 29 (.slice none 0 0) ∧ Boxed W (N + 1) 24 (.int .i64 0) ∧ Boxed W (N + 1 + 1 + 1) 9 (.string s) ∧ Below N w W)
    (fun c pre W => c = .ret ∧ ¬ Fine pre ∧ Boxed W N 29 (.slice none 0 0) ∧ Boxed W (N + 1) 24 (.int .i64 2) ∧ Below N w W)
    (OwnFrom.and (ownFrom_pure _ _) (OwnFrom.and (Own.from (holdsRow_own (N + 4) (N + 1 + 1) 29 9 1 (fun pre => pre.length) strs (fun _ _ => True)) _) (OwnFrom.and (Own.from (boxed_own _ _ _) _) (OwnFrom.and (Own.from (boxed_own _ _ _) _) (OwnFrom.and (Own.from (boxed_own _ _ _) _) (ownFrom_below hNw (by omega)))))))
    (fun c => OwnFrom.and (ownFrom_pure _ _) (OwnFrom.and (ownFrom_pure _ _) (OwnFrom.and (Own.from (boxed_own _ _ _) _) (OwnFrom.and (Own.from (boxed_own _ _ _) _) (ownFrom_below hNw (by omega))))))
    ⟨fun _ h => (by cases h), ⟨_, b2', World.ownsRow_nil _ _ _ _, trivial⟩, b0', b1', b3, hB0⟩
    (fun x => { tmps := #[.string s, undef, .pointer (some ⟨N, 0, none⟩), .pointer (some ⟨N + 1, 0, none⟩), .pointer (some ⟨N + 1 + 1, 0, none⟩), .string x.1, toldErr x.2, .string s, .func (.func 39) #[] #[.pointer (some ⟨N + 1 + 1 + 1, 0, none⟩)], .string x.1, toldErr x.2, undef, undef, undef, undef, undef, undef, undef, undef], defers := [] }) ?assign ?body ?done ?stop
  case assign =>
    intro l x W K hK
    simp only [toldEnc]
    gi_wp2
    exact hK
  case body =>
    rintro l pre x W ⟨hF, ⟨v, hv, hrow, _⟩, c0, c1, c3, hB⟩ hlen
    have hc := hv.cell
    have d0 := c0.cell
    have d1 := c1.cell
    have e0 := c0.frozen
    have e1 := c1.frozen
    rcases x with ⟨b, _ | er⟩
    · simp only [toldErr]
      have hlen2 := eachF_length s s.size 0
      have hpl : pre.length + 1 ≤ maxLen := by simp [maxLen]; omega
      have hpb : (pre.length + 1) * 16 ≤ 140737488355328 := by omega
      have hc3 := c3.lt
      have hWN : N ≤ W.heap.size := by omega
      have hW4 : N + 4 ≤ (W.alloc (.cells #[.string b] 9)).heap.size := by simp; omega
      have hne : ∀ i, i < N + 4 → some i ≠ v.ownBlock := fun i hi h => by have := (hrow.lt i h.symm).1; omega
      gi_wp2_with (first
        | (refine ⟨trivial, ?_⟩; refine (CallsIn.inRound l (callsIn_wide.2 (is_nil 2 _))).mono ?_; rintro e w' ⟨rfl, rfl⟩)
        | (gi_at_builtin; refine wpListIn_append_own _ rfl _ _ 29 rfl (N + 4) 9 i0 (.string ByteArray.empty) 1 16 Tryd.underlying29 hi hz0 hz1 hz2 rfl (by decide) _ _ _ rfl (hrow.alloc _) ⟨W.heap.size, 0, none⟩ 1 1 [.string b] rfl rfl (cell_one_new _ _ _) (by simp [Value.oneCell']) hpl hpb hW4 ?_; intro v' w1 hown' hgrow _; obtain ⟨g', cap', rfl⟩ := ownsRow_succ hown'; obtain ⟨hv1, hv2, hr2, hk2, hb2⟩ := hv.appended (by decide) (row_mono hrow (by omega)) hWN (by omega) (row_mono hown' (by omega)) hgrow; have hc1 := hv1.cell; have hf1 := hv1.frozen))
      have k0 := ((c0.alloc _).kept hgrow (hne N (by omega))).other (B' := N + 1 + 1) (by omega) (Value.slice (some ⟨g', 0, none⟩) (pre.length + 1) cap')
      have k1 := ((c1.alloc _).kept hgrow (hne (N + 1) (by omega))).other (B' := N + 1 + 1) (by omega) (Value.slice (some ⟨g', 0, none⟩) (pre.length + 1) cap')
      have k3 := ((c3.alloc _).kept hgrow (hne (N + 1 + 1 + 1) (by omega))).other (B' := N + 1 + 1) (by omega) (Value.slice (some ⟨g', 0, none⟩) (pre.length + 1) cap')
      have hown2 := hown'.kept (grownBy_setCell' w1 (N + 1 + 1) (Value.slice (some ⟨g', 0, none⟩) (pre.length + 1) cap')) (.inr (fun h => by have := (hown'.lt _ h).1; omega))
      refine ⟨hk2, ⟨hb2, k3.trans (Eq.symm c3)⟩, ?_, ⟨_, hv2, ?_, trivial⟩, k0, k1, k3, hB.trans hb2⟩
      · intro y hy
        rcases List.mem_append.1 hy with h | h
        · exact hF y h
        · rw [List.mem_singleton.1 h]
      · rw [List.length_append]
        rw [show strs pre ++ [.string b] = strs (pre ++ [(b, none)]) from strs_snoc pre (b, none)] at hown2
        exact hown2
    · simp only [toldErr, faultAt]
      gi_wp2_with (refine ⟨trivial, ?_⟩; refine (CallsIn.inRound l (callsIn_wide.2 (is_fault _ _))).mono ?_; rintro e w' ⟨rfl, hg⟩; have hc' := kept_cell hg hc; have d0' := kept_cell hg d0; have d1' := kept_cell hg d1; have e0' := kept_frozen hg d0 e0; have e1' := kept_frozen hg d1 e1)
      have m0 := c0.kept hg (by simp)
      have m1 := c1.kept hg (by simp)
      refine ⟨((KeepsOthers.of_grownBy hg (fun j o e => by cases e)).trans (KeepsOthers.setCell _ _ _)).trans (KeepsOthers.setCell _ _ _), rfl, ?_, (m0.set _).other (by omega) _, (m1.other (by omega) _).set _, ((Below.grownNone hB (by have := c0.lt; omega) hg).setCell (p := ⟨N, 0, none⟩) (Nat.le_refl _) _).setCell (p := ⟨N + 1, 0, none⟩) (by simp) _⟩
      intro hf
      have := hf (b, some er) (by simp)
      cases this
  case done =>
    rintro D ys W hD rfl ⟨hF, ⟨v, hv, hrow, _⟩, c0, c1, c3, hB⟩ hK
    obtain ⟨a, c, rfl, hsh⟩ := shape_of hrow
    have hc := hv.cell
    have d0 := c0.cell
    have d1 := c1.cell
    have e0 := c0.frozen
    have e1 := c1.frozen
    gi_wp2
    have hND : N + 4 ≤ D := by omega
    obtain ⟨W2, hW2⟩ : ∃ W2, W2 = (W.setCell ⟨N, 0, none⟩ (.slice a (eachF s s.size 0).length c)).setCell ⟨N + 1, 0, none⟩ (.int .i64 0) := ⟨_, rfl⟩
    have hK2 : W2.heap[D]? = some (.deferred (some [])) := by
      rw [hW2, Deep.blk_setCell_other _ _ _ _ (by simp; omega), Deep.blk_setCell_other _ _ _ _ (by simp; omega)]
      exact hK
    have q0 : Boxed W2 N 29 (.slice a (eachF s s.size 0).length c) := by rw [hW2]; exact (c0.set _).other (by omega) _
    have q1 : Boxed W2 (N + 1) 24 (.int .i64 0) := by rw [hW2]; exact (c1.other (by omega) _).set _
    have qr : W2.ownsRow (N + 4) 9 1 (.slice a (eachF s s.size 0).length c) (eachF s s.size 0).length (strs (eachF s s.size 0)) := by
      rw [hW2]
      refine (hrow.kept (grownBy_setCell' W N _) (.inr (fun h => by have := (hrow.lt _ h).1; omega))).kept (grownBy_setCell' _ (N + 1) _) (.inr (fun h => by have := (hrow.lt _ h).1; omega))
    have qB : Below N w W2 := by rw [hW2]; exact (hB.setCell (p := ⟨N, 0, none⟩) (Nat.le_refl _) _).setCell (p := ⟨N + 1, 0, none⟩) (by simp) _
    rw [← hW2]
    have p0 := q0.kept (grownBy_putObj' W2 D (.deferred none)) (by simp; omega)
    have p1 := q1.kept (grownBy_putObj' W2 D (.deferred none)) (by simp; omega)
    refine ⟨by simp, .inl ⟨_, _, rfl, run_takeDeferred hK2, ?_⟩⟩
    refine ⟨.tuple #[.slice a (eachF s s.size 0).length c, .int .i64 0], results_cells2 rfl _ _ N (N + 1) rfl rfl p0 p1, ?_, .inr ⟨hF, _, rfl, ?_⟩⟩
    · rw [← HN.out]; exact qB.trans (belowK_b (w := w) hNw W2 D _ _ (by have := HN.out; omega) hK2 rfl rfl)
    · rw [← HN.out]; exact row_mono (ownsRow_putObj qr _ hK2 rfl) (by omega)
  case stop =>
    rintro D c pre W hD hp ⟨rfl, hF, c0, c1, hB⟩ hK
    gi_wp2
    have hND : N + 4 ≤ D := by omega
    have p0 := c0.kept (grownBy_putObj' W D (.deferred none)) (by simp; omega)
    have p1 := c1.kept (grownBy_putObj' W D (.deferred none)) (by simp; omega)
    refine ⟨by simp, .inl ⟨_, _, rfl, run_takeDeferred hK, ?_⟩⟩
    refine ⟨.tuple #[.slice none 0 0, .int .i64 2], results_cells2 rfl _ _ N (N + 1) rfl rfl p0 p1, ?_, .inl ⟨?_, rfl⟩⟩
    · rw [← HN.out]; exact hB.trans (belowK_b (w := w) hNw W D _ _ (by have := HN.out; omega) hK rfl rfl)
    · intro hfine
      apply hF
      intro x hx
      exact hfine x (hp.subset hx)
end Go.Proofs.YtgeonbkoihegnaaDoor
