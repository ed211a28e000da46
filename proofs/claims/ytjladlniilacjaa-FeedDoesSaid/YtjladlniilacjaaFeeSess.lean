/-
  Package feed: Sessions.
-/
import Derived.Test.YtjladlniilacjaaFeeIter
import Derived.RangeFuncFrom
import Derived.RangeFuncBox
import Derived.Maps.AppendAt
import Derived.Maps.OwnIn
namespace Go.Proofs.Ytjladlniilacjaa
open Go.RowKit Go.Shelf Go.Proofs.Fee
attribute [local go_sem] Oper.semAt_some
set_option linter.unusedVariables false
set_option linter.unusedSimpArgs false
theorem infoIntF : (Try.prog.info? 3).map (fun i => (i.zero, i.size, i.bytes)) = some (some (.int .i64 0), 1, 8) := by kernel_rfl
theorem info_partsF {P : Program} {T : TypeId} {z : Value} {k bytes : Nat} (h : (P.info? T).map (fun i => (i.zero, i.size, i.bytes)) = some (some z, k, bytes)) : ∃ i0, P.info? T = some i0 ∧ i0.zero = some z ∧ i0.size = k ∧ i0.bytes = bytes := by
  cases hi : P.info? T with
  | none => rw [hi] at h; simp at h
  | some i =>
    rw [hi] at h
    simp only [Option.map_some, Option.some.injEq, Prod.mk.injEq] at h
    exact ⟨i, rfl, h.1, h.2.1, h.2.2⟩
theorem row_monoF {w : World} {base base' : Nat} {e : TypeId} {size : Nat} {v : Value} {n : Nat} {xs : List Value} (h : w.ownsRow base e size v n xs) (hb : base' ≤ base) : w.ownsRow base' e size v n xs := by
  refine ⟨h.1, h.2.imp id ?_⟩
  rintro ⟨g, cap, cur, rfl, h2, h3⟩
  exact ⟨g, cap, cur, rfl, Nat.le_trans hb h2, h3⟩
theorem ownFrom_sizeF {β : Type} (B m : Nat) : OwnFrom B (fun (_ : β) W => m ≤ W.heap.size) := fun _ _ _ _ hs hg _ => Nat.le_trans hs hg.size
/-- A round that appends onto the slice in the box. -/
theorem Kf.app {Bn m mp LB N : Nat} {T : TypeId} {W w1 : World} {v v' : Value} {o : Obj} (hv : Boxed W LB T v) (hN : ∀ k, v.ownBlock = some k → N ≤ k) (g : (W.alloc o).grownBy w1 v.ownBlock) (hb : v'.ownBlock = v.ownBlock ∨ v'.ownBlock = some (W.alloc o).heap.size) (h1 : Bn < W.heap.size ∧ Bn < N ∧ Bn ≠ LB) (h2 : m < W.heap.size ∧ m < N ∧ m ≠ LB) (h3 : mp < W.heap.size ∧ mp < N ∧ mp ≠ LB) (h4 : LB < N) :
    Kf Bn m mp LB W (w1.setCell ⟨LB, 0, none⟩ v') := by
  have hlb := hv.lt
  have key : ∀ j, j < W.heap.size → j ≠ LB → v.ownBlock ≠ some j → (w1.setCell ⟨LB, 0, none⟩ v').heap[j]? = W.heap[j]? := fun j hj hne hv2 => by
    rw [Below.heap_setCell _ _ _ _ (by simpa using hne), g.block j (by simp; omega) (fun e => hv2 e.symm), Below.heap_alloc _ _ _ hj]
  have hno : ∀ j, j < N → v.ownBlock ≠ some j := fun j hj e => by have := hN j e; omega
  have hB : Boxed (w1.setCell ⟨LB, 0, none⟩ v') LB T v' := ((hv.alloc o).kept g (fun e => hno LB h4 e.symm)).set v'
  refine ⟨?_, key _ h1.1 h1.2.2 (hno _ h1.2.1), key _ h2.1 h2.2.2 (hno _ h2.2.1), key _ h3.1 h3.2.2 (hno _ h3.2.1), fun j c hj hne hl => key j hj.lt hne (fun e => hl ⟨v, hv.cell, e⟩), fun j ⟨u, hu, e⟩ => ?_⟩
  · have := g.size
    simp at this ⊢
    omega
  · rw [hB.cell] at hu
    cases hu
    rcases hb with hb | hb
    · exact .inl ⟨v, hv.cell, by rw [← hb, e]⟩
    · rw [hb] at e
      injection e with e
      simp at e
      exact .inr (by omega)
theorem Kf.refl (Bn m mp LB : Nat) (W : World) : Kf Bn m mp LB W W := ⟨Nat.le_refl _, rfl, rfl, rfl, fun _ _ _ _ _ => rfl, fun _ h => .inl h⟩
/-- A round that stores a number into the box. -/
theorem Kf.num {Bn m mp LB : Nat} {T : TypeId} {W : World} {v : Value} (hv : Boxed W LB T v) (u : Value) (hu : u.ownBlock = none) (h1 : Bn ≠ LB) (h2 : m ≠ LB) (h3 : mp ≠ LB) : Kf Bn m mp LB W (W.setCell ⟨LB, 0, none⟩ u) := by
  have key : ∀ j, j ≠ LB → (W.setCell ⟨LB, 0, none⟩ u).heap[j]? = W.heap[j]? := fun j hne => Below.heap_setCell _ _ _ _ (by simpa using hne)
  refine ⟨by simp, key _ h1, key _ h2, key _ h3, fun j c hj hne hl => key j hne, fun j ⟨z, hz, e⟩ => ?_⟩
  rw [(hv.set u).cell] at hz
  cases hz
  rw [hu] at e
  cases e
def keyV {ks : Keyz Nat} (x : RowOf ks) : Value := .int .i64 x.1.1
theorem bareF_len {ks : Keyz Nat} (l : List (RowOf ks)) : (bareF l).length = l.length := by simp [bareF]
theorem keys_of {ks : Keyz Nat} (ys : List (RowOf ks)) (h : bareF ys = ks) : ys.map keyV = (ks.map Prod.fst).map (Value.int .i64) := by
  conv => rhs; rw [← h]
  simp [bareF, keyV, List.map_map, Function.comp_def]
section
variable {B m mp : Nat} {t : Tbl} {rs : Keyz Rw} {w : World}
theorem Fd.keys (h : Fd B m mp t rs w) : (mapK Rw.b rs).map Prod.fst = t.keys := by
  rw [mapK_keys]
  unfold Tbl.keys
  rw [← h.st, mapK_keys]
theorem Fd.len (h : Fd B m mp t rs w) : (mapK Rw.b rs).length = t.rows.length := by rw [mapK_length, ← h.st, mapK_length]
set_option maxRecDepth 100000 in
set_option maxHeartbeats 2000000 in
theorem sessions_any (h : Fd B m mp t rs w) (hn : t.rows.length ≤ 100000) :
    Calls Try.prog 34 #[.pointer (some ⟨m, 0, none⟩)] w fun e w' => ∃ v, e = .returned v ∧ w'.ownsRow w.heap.size 3 1 v t.keys.length (t.keys.map (Value.int .i64)) ∧ Below w.heap.size w w' := by
  have hblk0 := h.ft.blk
  have hmap0 := h.ft.map
  have hm0 := (h.ft.own m (.inl rfl)).2
  have hp0 := (h.ft.own mp (.inr (.inl rfl))).2
  have hkeys := h.keys
  have hlen : (mapK Rw.b rs).length ≤ 100000 := by rw [h.len]; exact hn
  have hkl : t.keys.length = (mapK Rw.b rs).length := by rw [← hkeys, List.length_map]
  rw [hkl, ← hkeys]
  clear hkl hkeys h
  generalize mapK Rw.b rs = ks at *
  refine (callsIn_wide (n := 7)).1 ?_
  obtain ⟨i0, hi, hz0, hz1, hz2⟩ := info_partsF infoIntF
  refine callsIn_of_wp_marks Try.func34 rfl trivial ?_ rfl
  simp only [Try.ntmps34, List.size_toArray, List.length_cons, List.length_nil, Nat.reduceAdd, Nat.reduceSub, Array.replicate_succ, Array.replicate_zero, List.push_toArray, List.append_toArray, List.nil_append, List.cons_append]
  gi_wp2_with (refine ⟨trivial, ?_⟩; refine (callsIn_wide.2 (order_any m _)).mono ?_; rintro e w' ⟨rfl, rfl⟩)
  obtain ⟨N, hN⟩ : ∃ N, N = w.heap.size := ⟨_, rfl⟩
  have b0 := (Boxed.new w 60 (.slice none 0 0)).alloc (.cells #[.pointer (some ⟨m, 0, none⟩)] 53)
  have b1 := Blk.new (w.alloc (.cells #[.slice none 0 0] 60)) 53 #[.pointer (some ⟨m, 0, none⟩)]
  have hB0 : Below w.heap.size w ((w.alloc (.cells #[.slice none 0 0] 60)).alloc (.cells #[.pointer (some ⟨m, 0, none⟩)] 53)) := ((Below.refl _ w).alloc (Nat.le_refl _) _).alloc (by simp) _
  have hsz : ((w.alloc (.cells #[.slice none 0 0] 60)).alloc (.cells #[.pointer (some ⟨m, 0, none⟩)] 53)).heap.size = N + 2 := by simp [hN]
  simp only [World.size_alloc] at b1
  generalize (w.alloc (.cells #[.slice none 0 0] 60)).alloc (.cells #[.pointer (some ⟨m, 0, none⟩)] 53) = W0 at b0 b1 hB0 hsz ⊢
  have hblk := hblk0.below hB0
  have hmap : Mk W0 mp ks := hmap0.below hB0
  have hmN : m < N := by omega
  have hpN : mp < N := by omega
  have hlag : ∀ k, Lag w.heap.size W0 k → k < W0.heap.size := fun k ⟨v, hv, hb⟩ => by
    rw [b0.cell] at hv
    cases hv
    cases hb
  simp only [← hN] at b0 b1 hB0 hlag ⊢
  have hNw : N ≤ w.heap.size := by omega
  have HN := Lib.hid hN
  clear hN hblk0 hmap0 hm0 hp0
  refine wpIn_rangeFunc_ownF rfl (by decide) (gf := 72) (lb := #[.pointer (some ⟨N + 1, 0, none⟩)]) rfl trivial (enters_of Try.func72 (by kernel_rfl) rfl)
    (order_stops (N + 1) m mp N ks _ hlen W0 b1 hblk hmap (by omega) hlag) kf_t (kf_b (by omega) (by omega) (by omega) (by omega)) (Below.refl _ _) (fun _ => rfl)
    (fun (pre : List (RowOf ks)) W => (∃ v, Boxed W N 60 v ∧ W.ownsRow (N + 2) 3 1 v pre.length (pre.map keyV) ∧ True) ∧ Below N w W ∧ N + 2 ≤ W.heap.size)
    (fun c pre W => False)
    (OwnFrom.and (Own.from (holdsRow_own (N + 2) N 60 3 1 (fun pre : List (RowOf ks) => pre.length) (fun pre => pre.map keyV) (fun _ _ => True)) _) (OwnFrom.and (ownFrom_below hNw (by omega)) (ownFrom_sizeF _ _)))
    (fun c => ownFrom_pure _ _)
    ⟨⟨_, b0, World.ownsRow_nil _ _ _ _, trivial⟩, hB0, by omega⟩
    (fun x => { tmps := #[.pointer (some ⟨m, 0, none⟩), undef, .slice none 0 0, .pointer (some ⟨N, 0, none⟩), .int .i64 x.1.1, .pointer (some ⟨m, 0, none⟩), .func (.func 72) #[] #[.pointer (some ⟨N + 1, 0, none⟩)], .int .i64 x.1.1, .pointer (some ⟨x.1.2, 0, none⟩), undef, undef, undef, undef, undef], defers := [] }) ?assign ?body ?done ?stop
  case assign =>
    intro l x W K hK
    simp only [encF]
    gi_wp2
    exact hK
  case body =>
    rintro l pre x W ⟨⟨v, hv, hrow, _⟩, hB, hM2⟩ hlt
    have hc := hv.cell
    have hpl : pre.length + 1 ≤ maxLen := by simp [maxLen]; omega
    have hpb : (pre.length + 1) * 8 ≤ 140737488355328 := by omega
    have hWN : N ≤ W.heap.size := by omega
    have hW2 : N + 2 ≤ (W.alloc (.cells #[.int .i64 x.1.1] 3)).heap.size := by simp; omega
    have HV := Lib.hid hv
    have HROW := Lib.hid hrow
    have HB := Lib.hid hB
    gi_wp2_with (gi_at_builtin; refine wpListIn_append_own_at _ rfl _ _ 60 rfl (N + 2) 3 i0 (.int .i64 0) 1 8 Try.underlying60 hi hz0 hz1 hz2 rfl (by decide) _ _ _ rfl (hrow.alloc _) ⟨W.heap.size, 0, none⟩ 1 1 [.int .i64 x.1.1] rfl rfl (cell_one_new _ _ _) (by simp [Value.oneCell']) hpl hpb hW2 ?_; intro v' w1 hown' hgrow _ hnil; obtain ⟨g', cap', rfl⟩ := ownsRow_succ hown'; obtain ⟨hv1, hv2, hr2, hk2, hb2⟩ := hv.appended (by decide) (row_monoF hrow (by omega)) hWN (by omega) (row_monoF hown' (by omega)) hgrow; have hc1 := hv1.cell; have hf1 := hv1.frozen)
    have hN2 : ∀ k, v.ownBlock = some k → N + 2 ≤ k := fun k hk => (HROW.out.lt k hk).1
    have hown2 := hown'.kept (grownBy_setCell' w1 N (Value.slice (some ⟨g', 0, none⟩) (pre.length + 1) cap')) (.inr (fun h => by have := (hown'.lt _ h).1; omega))
    refine ⟨hk2, Kf.app (N := N + 2) HV.out hN2 hgrow hnil ⟨by omega, by omega, by omega⟩ ⟨by omega, by omega, by omega⟩ ⟨by omega, by omega, by omega⟩ (by omega), ⟨_, hv2, ?_, trivial⟩, HB.out.trans hb2, ?_⟩
    · rw [List.length_append, List.map_append]
      exact hown2
    · have := hgrow.size
      simp at this ⊢
      omega
  case done =>
    rintro D ys W hD hys ⟨⟨v, hv, hrow, _⟩, hB, hM2⟩ hK
    have hc := hv.cell
    gi_wp2
    refine ⟨by simp, .inl ⟨_, _, rfl, run_takeDeferred hK, ?_⟩⟩
    refine ⟨_, results_tmp rfl _ _ _, v, rfl, ?_, ?_⟩
    · have e1 : ys.length = ks.length := by rw [← bareF_len ys, hys]
      rw [keys_of ys hys, e1] at hrow
      rw [← HN.out]
      exact row_monoF (ownsRow_putObj hrow _ hK rfl) (by omega)
    · rw [← HN.out]
      exact hB.trans (belowK_b (w := w) hNw W D _ _ (by have := HN.out; omega) hK rfl rfl)
  case stop =>
    rintro D c pre W hD hp hF hK
    exact hF.elim
end
end Go.Proofs.Ytjladlniilacjaa
