/-
  Package feed: what stands between the rounds of Push.
-/
import Derived.Test.YtjladlniilacjaaFeeNote
import Derived.Test.YtjladlniilacjaaWalkG
namespace Go.Proofs.Ytjladlniilacjaa
open Go.RowKit Go.Shelf Go.Proofs.Fee
set_option linter.unusedVariables false
set_option linter.unusedSimpArgs false
/-- Between two rounds. -/
structure PJ (B m mp N : Nat) (rs : Keyz Rw) (ks : Keyz Nat) (cn : Array Value) (w : World) (T : Tbl) (L : List Int) (rs' : Keyz Rw) (vL : Value) (W : World) : Prop where
  fd : Fd B m mp T rs' W
  bs : mapK Rw.b rs' = ks
  box : Boxed W (N + 2) 60 vL
  row : W.ownsRow (N + 4) 3 1 vL L.length (L.map (Value.int .i64))
  f0 : Blk W N 53 #[.pointer (some ⟨m, 0, none⟩)]
  f1 : Blk W (N + 1) 63 cn
  far : Far (OwnF m mp rs) w W
  new : ∀ k, OwnF m mp rs' k → OwnF m mp rs k ∨ N + 4 ≤ k
  size : N + 4 ≤ W.heap.size
  old : ∀ k, OwnF m mp rs k → k < N
  wN : w.heap.size = N
theorem keeps_far {S : Nat → Prop} {W W' : World} (F : Far S W W') (h : ∀ k o, W.heap[k]? = some o → S k → o.isCells = true) : KeepsOthers W W' :=
  ⟨F.size, fun k o hk ho => (F.block k (Array.getElem?_eq_some_iff.1 hk).1 (fun e => by rw [h k o hk e] at ho; cases ho)).trans hk⟩
theorem kf_far {Bn m mp LB : Nat} {S : Nat → Prop} {W W' : World} (F : Far S W W') (h1 : Bn < W.heap.size ∧ ¬ S Bn) (h2 : m < W.heap.size ∧ ¬ S m) (h3 : mp < W.heap.size ∧ ¬ S mp) (h4 : LB < W.heap.size ∧ ¬ S LB) (h5 : ∀ j c, Blk W j 3 c → ¬ S j) : Kf Bn m mp LB W W' where
  size := F.size
  bn := F.block _ h1.1 h1.2
  m := F.block _ h2.1 h2.2
  mp := F.block _ h3.1 h3.2
  int := fun j c hj _ _ => F.block j hj.lt (h5 j c hj)
  lag := fun j ⟨v, hv, hb⟩ => .inl ⟨v, by rw [← hv]; exact (World.cell?_of_block (F.block LB h4.1 h4.2)).symm, hb⟩
section
variable {B m mp N : Nat} {rs rs' : Keyz Rw} {ks : Keyz Nat} {cn : Array Value} {w W W' : World} {T : Tbl} {L : List Int} {vL : Value} {s : Int} {x y : Rw}
/-- What a row may turn: cells, of two types. -/
theorem PJ.cells (h : PJ B m mp N rs ks cn w T L rs' vL W) (hx : atK rs' s = some x) {k : Nat} (hk : k = x.b ∨ x.v.ownBlock = some k) : (∃ c, Blk W k 130 c ∨ Blk W k 63 c) := by
  have hr := h.fd.ft.each _ (atK_some hx)
  rcases hk with rfl | hk
  · exact ⟨_, .inl hr.blk⟩
  · obtain ⟨c, hc⟩ := own_type hr.row hk
    exact ⟨c, .inr hc⟩
theorem PJ.not (h : PJ B m mp N rs ks cn w T L rs' vL W) (hx : atK rs' s = some x) {k : Nat} {U : TypeId} {c : Array Value} (hb : Blk W k U c) (h1 : U ≠ 130) (h2 : U ≠ 63) : ¬ (k = x.b ∨ x.v.ownBlock = some k) := fun e => by
  obtain ⟨c', hc | hc⟩ := h.cells hx e
  · exact h1 (blk_type hb hc)
  · exact h2 (blk_type hb hc)
theorem PJ.own (h : PJ B m mp N rs ks cn w T L rs' vL W) (hx : atK rs' s = some x) {k : Nat} (hk : k = x.b ∨ x.v.ownBlock = some k) : k < N ∨ N + 4 ≤ k := by
  rcases h.new k (.inr (.inr ⟨_, atK_some hx, hk⟩)) with e | e
  · exact .inl (h.old k e)
  · exact .inr e
theorem PJ.turn (h : PJ B m mp N rs ks cn w T L rs' vL W) (hx : atK rs' s = some x) (hb : y.b = x.b) (F : Far (fun k => k = x.b ∨ x.v.ownBlock = some k) W W') (hy : RwOk B W' y) (hv : ∀ k, y.v.ownBlock = some k → x.v.ownBlock = some k ∨ W.heap.size ≤ k) (ok : (T.put s y.row).Ok) :
    PJ B m mp N rs ks cn w (T.put s y.row) L (putK rs' s y) vL W' ∧ KeepsOthers W W' ∧ Kf (N + 3) m mp (N + 2) W W' := by
  obtain ⟨u1, u2, u3⟩ := h.fd.turn hx hb F hy hv ok
  have hm := atK_some hx
  have hf := h.fd.ft
  have hsz := h.size
  have hbx : Blk W (N + 2) 60 #[vL] := h.box
  have n2 := h.not hx hbx (by decide) (by decide)
  have hml := h.old m (.inl rfl)
  have hpl := h.old mp (.inr (.inl rfl))
  have nN : ∀ j, N ≤ j → j < N + 4 → ¬ (j = x.b ∨ x.v.ownBlock = some j) := fun j h1 h2 e => by
    rcases h.own hx e with e | e <;> omega
  have vt : ∀ b, vL.ownBlock = some b → ¬ (b = x.b ∨ x.v.ownBlock = some b) := fun b hb => by
    obtain ⟨c, hc⟩ := own_type h.row hb
    exact h.not hx hc (by decide) (by decide)
  refine ⟨{ fd := u1, bs := ?_, box := (F.block _ (by omega) n2).trans h.box, row := own_far h.row F vt, f0 := h.f0.far F (nN N (Nat.le_refl _) (by omega)), f1 := h.f1.far F (nN (N + 1) (by omega) (by omega)), far := h.far.trans F (fun i hi e => ?_), new := fun k hk => ?_, size := Nat.le_trans hsz F.size, old := h.old, wN := h.wN }, keeps_far F (fun k o hk e => ?_), kf_far F ⟨by omega, nN _ (by omega) (by omega)⟩ ⟨by omega, ?_⟩ ⟨by omega, ?_⟩ ⟨by omega, n2⟩ (fun j c hj => h.not hx hj (by decide) (by decide))⟩
  · rw [mapK_put, h.bs, hb]
    refine putK_same (by rw [← h.bs]; exact hf.map.up) ?_
    rw [← h.bs]
    exact List.mem_map.2 ⟨_, hm, rfl⟩
  · rcases h.new i (.inr (.inr ⟨_, hm, e⟩)) with e | e
    · exact e
    · have := h.wN; omega
  · rcases u3 k hk with e | e
    · exact h.new k e
    · exact .inr (by omega)
  · obtain ⟨c, hc | hc⟩ := h.cells hx e
    · have := hk.symm.trans hc; injection this with this; rw [this]; rfl
    · have := hk.symm.trans hc; injection this with this; rw [this]; rfl
  · exact h.not hx hf.blk (by decide) (by decide)
  · intro e
    obtain ⟨es, clock, he⟩ := hf.map.obj
    obtain ⟨c, hc | hc⟩ := h.cells hx e
    · have := he.symm.trans hc; injection this with this; cases this
    · have := he.symm.trans hc; injection this with this; cases this
/-- One more lagged. -/
theorem PJ.lag (h : PJ B m mp N rs ks cn w T L rs' vL W) {w1 : World} {v' : Value} (own : w1.ownsRow (N + 4) 3 1 v' (L.length + 1) (L.map (Value.int .i64) ++ [.int .i64 s])) (g : (W.alloc (.cells #[.int .i64 s] 3)).grownBy w1 vL.ownBlock) (hb : v'.ownBlock = vL.ownBlock ∨ v'.ownBlock = some (W.alloc (.cells #[.int .i64 s] 3)).heap.size) :
    PJ B m mp N rs ks cn w T (L ++ [s]) rs' v' (w1.setCell ⟨N + 2, 0, none⟩ v') ∧ KeepsOthers W (w1.setCell ⟨N + 2, 0, none⟩ v') ∧ Kf (N + 3) m mp (N + 2) W (w1.setCell ⟨N + 2, 0, none⟩ v') := by
  have hsz := h.size
  have hml := h.old m (.inl rfl)
  have hpl := h.old mp (.inr (.inl rfl))
  have hvN : ∀ k, vL.ownBlock = some k → N + 4 ≤ k := fun k hk => (h.row.lt k hk).1
  have key : ∀ j, j < W.heap.size → j ≠ N + 2 → vL.ownBlock ≠ some j → (w1.setCell ⟨N + 2, 0, none⟩ v').heap[j]? = W.heap[j]? := fun j hj hne hv2 => by
    rw [Below.heap_setCell _ _ _ _ (by simpa using hne), g.block j (by simp; omega) (fun e => hv2 e.symm), Below.heap_alloc _ _ _ hj]
  have hsz1 : W.heap.size + 1 ≤ w1.heap.size := by have := g.size; simpa using this
  have ot : ∀ k, OwnF m mp rs' k → k ≠ N + 2 ∧ vL.ownBlock ≠ some k := fun k hk => by
    constructor
    · rintro rfl
      rcases h.new _ hk with e | e
      · have := h.old _ e; omega
      · omega
    · intro e
      obtain ⟨c, hc⟩ := own_type h.row e
      rcases hk with rfl | rfl | ⟨p, hp, rfl | hb⟩
      · exact absurd (blk_type hc h.fd.ft.blk) (by decide)
      · obtain ⟨es, clock, he⟩ := h.fd.ft.map.obj
        have := he.symm.trans hc; injection this with this; cases this
      · exact absurd (blk_type hc (h.fd.ft.each p hp).blk) (by decide)
      · obtain ⟨c2, hc2⟩ := own_type (h.fd.ft.each p hp).row hb
        exact absurd (blk_type hc hc2) (by decide)
  have hB : Boxed (w1.setCell ⟨N + 2, 0, none⟩ v') (N + 2) 60 v' := ((h.box.alloc _).kept g (fun e => by have := hvN _ e.symm; omega)).set v'
  have F2 : Far (fun j => j = N + 2) w1 (w1.setCell ⟨N + 2, 0, none⟩ v') := (Far.refl (fun j => j = N + 2) w1).setCell (p := ⟨N + 2, 0, none⟩) (fun _ => rfl) _
  have hox : ∀ b, v'.ownBlock = some b → N + 4 ≤ b := fun b hb => (own.lt b hb).1
  refine ⟨{ fd := ⟨h.fd.ft.same (fun k hk => key k (h.fd.ft.own k hk).2 (ot k hk).1 (ot k hk).2) (fun g' c hg => key g' hg.lt ?_ ?_), h.fd.st, h.fd.ok⟩, bs := h.bs, box := hB, row := ?_, f0 := (key N (by omega) (by omega) (fun e => by have := hvN _ e; omega)).trans h.f0, f1 := (key (N + 1) (by omega) (by omega) (fun e => by have := hvN _ e; omega)).trans h.f1, far := ?_, new := h.new, size := by simp; omega, old := h.old, wN := h.wN }, ?_, Kf.app (N := N + 4) h.box hvN g hb ⟨by omega, by omega, by omega⟩ ⟨by omega, by omega, by omega⟩ ⟨by omega, by omega, by omega⟩ (by omega)⟩
  · rintro rfl
    exact absurd (blk_type hg (show Blk W (N + 2) 60 #[vL] from h.box)) (by decide)
  · intro e
    obtain ⟨c2, hc2⟩ := own_type h.row e
    exact absurd (blk_type hg hc2) (by decide)
  · rw [List.length_append, List.map_append]
    exact own_same own (fun b hb2 => Below.heap_setCell _ _ _ _ (by have := hox b hb2; simp; omega))
  · refine ⟨?_, ?_, ?_, ?_, fun i hi hS => ?_⟩
    · rw [F2.os, g.os]; exact h.far.os
    · rw [F2.tape, g.tape]; exact h.far.tape
    · rw [F2.output, g.output]; exact h.far.output
    · have := h.far.size; simp; omega
    · have hwN := h.wN
      rw [key i (by omega) (by omega) (fun e => by have := hvN _ e; omega)]
      exact h.far.block i hi hS
  · refine ((KeepsOthers.alloc W _).trans (KeepsOthers.of_grownBy g fun j o ej hj => ?_)).trans (KeepsOthers.setCell _ _ _)
    obtain ⟨c, hc⟩ := own_type (World.ownsRow.alloc h.row _) ej
    have := hj.symm.trans hc; injection this with this; rw [this]; rfl
/-- A turn of a block that is no cells, and not old. -/
theorem PJ.other (h : PJ B m mp N rs ks cn w T L rs' vL W) {row : Option Nat} (g : W.grownBy W' row) (hr : ∀ r, row = some r → N + 4 ≤ r ∧ ∃ o : Obj, W.heap[r]? = some o ∧ o.isCells = false) : PJ B m mp N rs ks cn w T L rs' vL W' := by
  have hb : ∀ k U c, Blk W k U c → W'.heap[k]? = W.heap[k]? := fun k U c hk => g.block k hk.lt (fun e => by
    obtain ⟨_, o, ho, hc⟩ := hr k e.symm
    have := ho.symm.trans hk; injection this with this; rw [this] at hc; cases hc)
  have hsz := h.size
  have hpl := h.old mp (.inr (.inl rfl))
  have hwN := h.wN
  exact { fd := ⟨h.fd.ft.same (fun k hk => by
            rcases hk with rfl | rfl | ⟨p, hp, rfl | e⟩
            · exact hb _ _ _ h.fd.ft.blk
            · exact g.block _ (by omega) (fun e => by have := (hr _ e.symm).1; omega)
            · exact hb _ _ _ (h.fd.ft.each p hp).blk
            · obtain ⟨c, hc⟩ := own_type (h.fd.ft.each p hp).row e
              exact hb _ _ _ hc) (fun g' c hg => hb _ _ _ hg), h.fd.st, h.fd.ok⟩,
          bs := h.bs, box := (hb _ 60 #[vL] h.box).trans h.box, row := own_same h.row (fun b e => by
            obtain ⟨c, hc⟩ := own_type h.row e
            exact hb _ _ _ hc), f0 := (hb _ _ _ h.f0).trans h.f0, f1 := (hb _ _ _ h.f1).trans h.f1, far := h.far.grown g (fun i hi e => by have := (hr i e).1; omega), new := h.new, size := Nat.le_trans hsz g.size, old := h.old, wN := hwN }
def PI (B m mp N : Nat) (t : Tbl) (rs : Keyz Rw) (ks : Keyz Nat) (n : Ntc) (cn : Array Value) (w : World) (pre : List (RowOf ks)) (W : World) : Prop :=
  ∃ rs' vL, PJ B m mp N rs ks cn w (Tbl.pushL n (t, []) (pre.map (·.1.1))).1 (Tbl.pushL n (t, []) (pre.map (·.1.1))).2 rs' vL W
theorem PI.own (B m mp N : Nat) (t : Tbl) (rs : Keyz Rw) (ks : Keyz Nat) (n : Ntc) (cn : Array Value) (w : World) : OwnFrom (N + 4) (PI B m mp N t rs ks n cn w) :=
  fun pre X Y row ⟨rs', vL, h⟩ hg hr => ⟨rs', vL, h.other hg hr⟩
theorem PI.step {t : Tbl} {n : Ntc} {pre : List (RowOf ks)} {x : RowOf ks} {T' : Tbl} {L' : List Int} (h : PJ B m mp N rs ks cn w T' L' rs' vL W)
    (hT : T' = (Tbl.pushL n (t, []) (pre.map (·.1.1))).1.pushAt n x.1.1) (hL : L' = (Tbl.pushL n (t, []) (pre.map (·.1.1))).2 ++ lagR (Tbl.pushL n (t, []) (pre.map (·.1.1))).1.room x.1.1 ((Tbl.pushL n (t, []) (pre.map (·.1.1))).1.row x.1.1)) : PI B m mp N t rs ks n cn w (pre ++ [x]) W := by
  refine ⟨rs', vL, ?_⟩
  rw [List.map_append, List.map_cons, List.map_nil, pushL_snoc]
  simp only
  rw [← hT, ← hL]
  exact h
/-- The row that a round is of. -/
theorem PJ.hit (h : PJ B m mp N rs ks cn w T L rs' vL W) (x : RowOf ks) : ∃ z, atK rs' x.1.1 = some z ∧ z.b = x.1.2 := by
  have hu : Up ks := by rw [← h.bs]; exact h.fd.ft.map.up
  obtain ⟨⟨s, b⟩, hx⟩ := x
  have h1 : atK (mapK Rw.b rs') s = some b := by rw [h.bs]; exact atK_mem hu.nodup hx
  rw [mapK_at] at h1
  obtain ⟨z, hz, e⟩ := Option.map_eq_some_iff.1 h1
  exact ⟨z, hz, e⟩
theorem put_row {t : Tbl} {s : Int} {r : Row} (hu : Up t.rows) (h : atK t.rows s = some r) : t.put s r = t := by
  unfold Tbl.put
  rw [putK_same hu (atK_some h)]
theorem put_put_t {t : Tbl} (hu : Up t.rows) (s : Int) (r r' : Row) : (t.put s r).put s r' = t.put s r' := by
  unfold Tbl.put
  simp only
  rw [put_put hu]
end
end Go.Proofs.Ytjladlniilacjaa
