/-
  Package feed: a row is turned, added, let go.
-/
import Derived.Test.YtjladlniilacjaaFeeSess
namespace Go.Proofs.Fee
theorem putK_same {α : Type} {ks : Keyz α} (h : Up ks) {s : Int} {x : α} (hx : (s, x) ∈ ks) : putK ks s x = ks := by
  induction ks with
  | nil => cases hx
  | cons p r ih =>
    obtain ⟨h1, h2⟩ := List.pairwise_cons.1 h
    unfold putK
    by_cases hlt : p.1 < s
    · rw [if_pos hlt, ih h2]
      rcases List.mem_cons.1 hx with rfl | hx
      · exact absurd hlt (Int.lt_irrefl _)
      · exact hx
    · rw [if_neg hlt]
      by_cases he : p.1 = s
      · rw [if_pos he]
        rcases List.mem_cons.1 hx with rfl | hx
        · rfl
        · have := h1 _ hx; simp at this; omega
      · rw [if_neg he]
        rcases List.mem_cons.1 hx with rfl | hx
        · exact absurd rfl he
        · have := h1 _ hx; simp at this; omega
end Go.Proofs.Fee
namespace Go.Proofs.Ytjladlniilacjaa
open Go.RowKit Go.Shelf Go.Proofs.Fee
set_option linter.unusedVariables false
set_option linter.unusedSimpArgs false
section
variable {B m mp room : Nat} {rs rs' : Keyz Rw} {w w' w1 w2 W : World} {t t' : Tbl} {s : Int} {x y : Rw}
theorem Ft.put (h : Ft B m mp room rs w) (hm : w'.heap[m]? = w.heap[m]?) (hmp : Mk w' mp (putK (mapK Rw.b rs) s y.b)) (hy : RwOk B w' y) (ho : ∀ p ∈ rs, p.1 ≠ s → RwOk B w' p.2)
    (ap : ∀ p ∈ rs, p.1 ≠ s → p.2.b ≠ y.b ∧ ∀ k, p.2.v.ownBlock = some k → y.v.ownBlock ≠ some k) : Ft B m mp room (putK rs s y) w' := by
  refine { blk := hm.trans h.blk, map := by rw [mapK_put]; exact hmp, each := fun p hp => ?_, apart := fun p hp q hq hne => ?_, mB := h.mB, pB := h.pB }
  · rcases (putK_mem h.up).1 hp with rfl | ⟨hp, hne⟩
    · exact hy
    · exact ho p hp hne
  · rcases (putK_mem h.up).1 hp with rfl | ⟨hp, hp2⟩
    · rcases (putK_mem h.up).1 hq with rfl | ⟨hq, hq2⟩
      · exact absurd rfl hne
      · obtain ⟨h1, h2⟩ := ap q hq hq2
        exact ⟨fun e => h1 e.symm, fun k hk e => h2 k e hk⟩
    · rcases (putK_mem h.up).1 hq with rfl | ⟨hq, hq2⟩
      · exact ap p hp hp2
      · exact h.apart p hp q hq hne
theorem own_put (hu : Up rs) {k : Nat} (hk : OwnF m mp (putK rs s y) k) : OwnF m mp rs k ∨ k = y.b ∨ y.v.ownBlock = some k := by
  rcases hk with rfl | rfl | ⟨p, hp, hk⟩
  · exact .inl (.inl rfl)
  · exact .inl (.inr (.inl rfl))
  · rcases (putK_mem hu).1 hp with rfl | ⟨hp, _⟩
    · exact .inr hk
    · exact .inl (.inr (.inr ⟨p, hp, hk⟩))
/-- A row is turned. -/
theorem Fd.turn (h : Fd B m mp t rs w) (hx : atK rs s = some x) (hb : y.b = x.b) (F : Far (fun k => k = x.b ∨ x.v.ownBlock = some k) w w') (hy : RwOk B w' y) (hv : ∀ k, y.v.ownBlock = some k → x.v.ownBlock = some k ∨ w.heap.size ≤ k) (ok : (t.put s y.row).Ok) :
    Fd B m mp (t.put s y.row) (putK rs s y) w' ∧ Far (OwnF m mp rs) w w' ∧ ∀ k, OwnF m mp (putK rs s y) k → OwnF m mp rs k ∨ w.heap.size ≤ k := by
  have hm := atK_some hx
  have hf := h.ft
  have hmw : w'.heap[m]? = w.heap[m]? := F.block m hf.blk.lt (by rintro (e | e); exact hf.m_b hm e; exact hf.m_v hm e)
  have hpw : w'.heap[mp]? = w.heap[mp]? := F.block mp hf.map.lt (by rintro (e | e); exact hf.p_b hm e; exact hf.p_v hm e)
  have hc : ∀ g c, Blk w g 142 c → w'.heap[g]? = w.heap[g]? := fun g c hg => F.block g hg.lt (fun e => hf.chg hg (.inr (.inr ⟨_, hm, e⟩)))
  refine ⟨⟨hf.put hmw ?_ hy (fun p hp hne => ?_) (fun p hp hne => ?_), ?_, ok⟩, F.mono (fun k _ e => .inr (.inr ⟨_, hm, e⟩)), fun k hk => ?_⟩
  · rw [hb, putK_same hf.map.up (List.mem_map.2 ⟨_, hm, rfl⟩)]
    exact hf.map.same hpw
  · obtain ⟨a1, a2⟩ := hf.apart p hp _ hm hne
    refine (hf.each p hp).same (F.block _ (hf.each p hp).blk.lt ?_) (fun b hb2 => F.block b ((hf.each p hp).row.lt b hb2).2 ?_) hc
    · rintro (e | e)
      · exact a1 e
      · exact hf.b_v hp hm e
    · rintro (e | e)
      · rw [e] at hb2; exact hf.b_v hm hp hb2
      · exact a2 b hb2 e
  · obtain ⟨a1, a2⟩ := hf.apart p hp _ hm hne
    refine ⟨by rw [hb]; exact a1, fun k hk e => ?_⟩
    rcases hv k e with e | e
    · exact a2 k hk e
    · have := ((hf.each p hp).row.lt k hk).2; omega
  · show mapK Rw.row (putK rs s y) = putK t.rows s y.row
    rw [mapK_put, h.st]
  · rcases own_put hf.up hk with hk | hk | hk
    · exact .inl hk
    · exact .inl (.inr (.inr ⟨_, hm, .inl (hk.trans hb)⟩))
    · rcases hv k hk with e | e
      · exact .inl (.inr (.inr ⟨_, hm, .inr e⟩))
      · exact .inr e
theorem Fd.turned (h : Fd B m mp t rs w) (hx : atK rs s = some x) (hb : y.b = x.b) (F : Far (fun k => k = x.b ∨ x.v.ownBlock = some k) w w') (hy : RwOk B w' y) (hv : ∀ k, y.v.ownBlock = some k → x.v.ownBlock = some k ∨ w.heap.size ≤ k) (ok : (t.put s y.row).Ok) :
    Fs B m mp rs w (t.put s y.row) w' := ⟨_, h.turn hx hb F hy hv ok⟩
/-- Whether a row follows is set. -/
theorem Fd.set_fol (h : Fd B m mp t rs w) (hx : atK rs s = some x) (f : Bool) (ok : (t.put s ⟨f, x.row.q⟩).Ok) : Fs B m mp rs w (t.put s ⟨f, x.row.q⟩) (w.setCell ⟨x.b, 0, none⟩ (.bool f)) := by
  have hm := atK_some hx
  have hr := h.ft.each _ hm
  have F : Far (fun k => k = x.b ∨ x.v.ownBlock = some k) w (w.setCell ⟨x.b, 0, none⟩ (.bool f)) := (Far.refl _ w).setCell (p := ⟨x.b, 0, none⟩) (fun _ => .inl rfl) _
  have key : ∀ j, j ≠ x.b → (w.setCell ⟨x.b, 0, none⟩ (.bool f)).heap[j]? = w.heap[j]? := fun j hne => Below.heap_setCell _ _ _ _ (by simpa using hne)
  refine h.turned (y := ⟨f, x.q, x.b, x.v⟩) hx rfl F ⟨?_, own_same hr.row (fun b hb => key b (fun e => h.ft.b_v hm hm (by rw [hb, e]))), fun y hy => (hr.chs y hy).same (fun g c hg => key g (fun e => h.ft.chg hg (.inr (.inr ⟨_, hm, .inl e⟩)))), hr.bB⟩ (fun k hk => .inl hk) ok
  have := hr.blk.set 0 (.bool f)
  exact this
/-- A row is added. -/
theorem Fd.added (h : Fd B m mp t rs w) (hx : atK rs s = none) (F : Far (fun k => k = mp) w w') (hmp : Mk w' mp (putK (mapK Rw.b rs) s y.b)) (hy : RwOk B w' y) (nb : w.heap.size ≤ y.b) (hv : ∀ k, y.v.ownBlock = some k → w.heap.size ≤ k) (ok : (t.put s y.row).Ok) :
    Fs B m mp rs w (t.put s y.row) w' := by
  have hf := h.ft
  have hc : ∀ g c, Blk w g 142 c → w'.heap[g]? = w.heap[g]? := fun g c hg => F.block g hg.lt (fun e => hf.chg hg (.inr (.inl e)))
  refine ⟨putK rs s y, ⟨hf.put (F.block m hf.blk.lt hf.m_mp) hmp hy (fun p hp _ => ?_) (fun p hp hne => ?_), ?_, ok⟩, F.mono (fun k _ e => .inr (.inl e)), fun k hk => ?_⟩
  · refine (hf.each p hp).same (F.block _ (hf.each p hp).blk.lt (fun e => hf.p_b hp e.symm)) (fun b hb2 => F.block b ((hf.each p hp).row.lt b hb2).2 (fun e => hf.p_v hp (by rw [hb2, e]))) hc
  · refine ⟨fun e => ?_, fun k hk e => ?_⟩
    · have := (hf.each p hp).blk.lt; omega
    · have := ((hf.each p hp).row.lt k hk).2; have := hv k e; omega
  · show mapK Rw.row (putK rs s y) = putK t.rows s y.row
    rw [mapK_put, h.st]
  · rcases own_put hf.up hk with hk | hk | hk
    · exact .inl hk
    · exact .inr (by omega)
    · exact .inr (hv k hk)
/-- A row is let go. -/
theorem Fd.gone (h : Fd B m mp t rs w) (F : Far (fun k => k = mp) w w') (hmp : Mk w' mp (delK (mapK Rw.b rs) s)) : Fs B m mp rs w (t.del s) w' := by
  have hf := h.ft
  have hc : ∀ g c, Blk w g 142 c → w'.heap[g]? = w.heap[g]? := fun g c hg => F.block g hg.lt (fun e => hf.chg hg (.inr (.inl e)))
  refine ⟨delK rs s, ⟨{ blk := (F.block m hf.blk.lt hf.m_mp).trans hf.blk, map := by rw [mapK_del]; exact hmp, each := fun p hp => ?_, apart := fun p hp q hq => hf.apart p (delK_mem.1 hp).1 q (delK_mem.1 hq).1, mB := hf.mB, pB := hf.pB }, ?_, h.ok.del s⟩, F.mono (fun k _ e => .inr (.inl e)), fun k hk => .inl ?_⟩
  · have hp := (delK_mem.1 hp).1
    exact (hf.each p hp).same (F.block _ (hf.each p hp).blk.lt (fun e => hf.p_b hp e.symm)) (fun b hb2 => F.block b ((hf.each p hp).row.lt b hb2).2 (fun e => hf.p_v hp (by rw [hb2, e]))) hc
  · show mapK Rw.row (delK rs s) = delK t.rows s
    rw [mapK_del, h.st]
  · rcases hk with rfl | rfl | ⟨p, hp, hk⟩
    · exact .inl rfl
    · exact .inr (.inl rfl)
    · exact .inr (.inr ⟨p, (delK_mem.1 hp).1, hk⟩)
/-- From a world ahead. -/
theorem Fs.since (h : Fs B m mp rs W t' w') (k : Below w.heap.size w W) : Fs B m mp rs w t' w' := by
  obtain ⟨rs', h1, h2, h3⟩ := h
  refine ⟨rs', h1, ((far_of_belowF k).mono (S' := OwnF m mp rs) (fun _ _ e => e.elim)).trans h2 (fun _ _ e => e), fun j hj => ?_⟩
  rcases h3 j hj with e | e
  · exact .inl e
  · have := k.size; exact .inr (by omega)
theorem Ft.not_other (h : Ft B m mp room rs w) {D : Nat} {l} (hD : w.heap[D]? = some (.deferred l)) : ¬ OwnF m mp rs D := by
  rintro (rfl | rfl | ⟨p, hp, rfl | hb⟩)
  · have := hD.symm.trans h.blk; injection this with this; cases this
  · obtain ⟨es, clock, e⟩ := h.map.obj
    have := hD.symm.trans e; injection this with this; cases this
  · have := hD.symm.trans (h.each p hp).blk; injection this with this; cases this
  · obtain ⟨cur, hc⟩ := own_type (h.each p hp).row hb
    have := hD.symm.trans hc; injection this with this; cases this
/-- The block for what a loop's rounds put off is taken. -/
theorem Fs.took (h : Fs B m mp rs w t' w') {D : Nat} {l} (hD : w'.heap[D]? = some (.deferred l)) (hlt : w.heap.size ≤ D) (o : Obj) : Fs B m mp rs w t' (w'.putObj D o) := by
  obtain ⟨rs', h1, h2, h3⟩ := h
  have g := grownBy_putObj' w' D o
  refine ⟨rs', ⟨h1.ft.same (fun k hk => g.block k (h1.ft.own k hk).2 (fun e => by cases e; exact h1.ft.not_other hD hk)) (fun k c hk => g.block k hk.lt (fun e => by
    cases e
    have := hD.symm.trans hk; injection this with this; cases this)), h1.st, h1.ok⟩, h2.grown g (fun i hi e => by cases e; omega), h3⟩
theorem dfr_set {D b c : Nat} {T : TypeId} {cs : Array Value} {l} (hD : w.heap[D]? = some (.deferred l)) (hb : Blk w b T cs) (u : Value) : (w.setCell ⟨b, c, none⟩ u).heap[D]? = some (.deferred l) := by
  rw [Below.heap_setCell _ _ _ _ (by
    intro e
    simp only at e
    subst e
    have := hD.symm.trans hb
    injection this with this
    cases this)]
  exact hD
end
end Go.Proofs.Ytjladlniilacjaa
