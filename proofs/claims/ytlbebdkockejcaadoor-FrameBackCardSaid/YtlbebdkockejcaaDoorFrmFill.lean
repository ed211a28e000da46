/-
  Package frame: places are filled with what is read.
-/
import Derived.Test.YtlbebdkockejcaaDoorFrmRd
import Derived.Test.YtlbebdkockejcaaDoorGaMdA
import Derived.LoopIn
import Derived.Handy
namespace Go.Proofs.YtlbebdkockejcaaDoor
open Go.RowKit Go.Proofs.Frm
set_option linter.unusedVariables false
set_option linter.unusedSimpArgs false
/-- Places are filled, one by one. -/
inductive Fills {α : Type} (f : Rd → α × Rd) (mk : α → Value) (M b : Nat) : Rd → List Addr → World → Rd → World → Prop where
  | nil {r : Rd} {w : World} : Fills f mk M b r [] w r w
  | cons {r r' : Rd} {p : Addr} {ps : List Addr} {w w1 w' : World} : Far (fun i => i = b) w w1 → Fills f mk M b (f r).2 ps (w1.setCell p (mk (f r).1)) r' w' → Fills f mk M b r (p :: ps) w r' w'
/-- What the cells of block X are then. -/
def fillC {α : Type} (f : Rd → α × Rd) (mk : α → Value) (X : Nat) : Rd → List Addr → Array Value → Array Value
  | _, [], cs => cs
  | r, p :: ps, cs => fillC f mk X (f r).2 ps (if p.block = X then cs.setIfInBounds p.off (mk (f r).1) else cs)
def fillR {α : Type} (f : Rd → α × Rd) : Rd → List Addr → Rd
  | r, [] => r
  | r, _ :: ps => fillR f (f r).2 ps
section
variable {α : Type} {f : Rd → α × Rd} {mk : α → Value} {M b : Nat}
theorem Fills.rd {r r' : Rd} {ps : List Addr} {w w' : World} (h : Fills f mk M b r ps w r' w') : r' = fillR f r ps := by
  induction h with
  | nil => rfl
  | cons _ _ ih => exact ih
theorem set_here {w : World} {X : Nat} {T : TypeId} {cs : Array Value} (h : Blk w X T cs) (p : Addr) (hp : p.spot = none) (v : Value) : Blk (w.setCell p v) X T (if p.block = X then cs.setIfInBounds p.off v else cs) := by
  obtain ⟨pb, po, pp⟩ := p
  simp only at hp
  subst hp
  simp only
  split
  · next e => subst e; exact h.set po v
  · next e => exact h.other (p := ⟨pb, po, none⟩) (fun x => e x.symm) v
theorem Fills.blk {r r' : Rd} {ps : List Addr} {w w' : World} (h : Fills f mk M b r ps w r' w') (hp : ∀ p ∈ ps, p.spot = none) {X : Nat} (hX : X ≠ b) {T : TypeId} : ∀ {cs : Array Value}, Blk w X T cs → Blk w' X T (fillC f mk X r ps cs) := by
  induction h with
  | nil => exact fun h => h
  | cons hF _ ih => exact fun h => ih (fun p h => hp p (List.mem_cons_of_mem _ h)) (set_here (h.far hF hX) _ (hp _ List.mem_cons_self) _)
theorem Fills.far {r r' : Rd} {ps : List Addr} {w w' : World} (h : Fills f mk M b r ps w r' w') : Far (fun i => i = b ∨ ∃ p ∈ ps, p.block = i) w w' := by
  induction h with
  | nil => exact Far.refl _ _
  | @cons r r' p ps w w1 w' hF _ ih =>
    refine Far.trans (Far.setCell (S := fun i => i = b ∨ ∃ q ∈ p :: ps, q.block = i) (hF.mono (fun _ _ e => .inl e)) (fun _ => .inr ⟨_, List.mem_cons_self, rfl⟩) _) ih ?_
    rintro i _ (e | ⟨q, hq, e⟩)
    · exact .inl e
    · exact .inr ⟨q, List.mem_cons_of_mem _ hq, e⟩
end
/-- A place that may be stored into. -/
def Spot (w : World) (p : Addr) : Prop := p.spot = none ∧ ∃ T cs, Blk w p.block T cs ∧ p.off < cs.size
theorem Spot.far {S : Nat → Prop} {w w' : World} {p : Addr} (h : Spot w p) (F : Far S w w') (hS : ¬ S p.block) : Spot w' p := by
  obtain ⟨h0, T, cs, h1, h2⟩ := h
  exact ⟨h0, T, cs, h1.far F hS, h2⟩
theorem Spot.set {w : World} {p q : Addr} (h : Spot w p) (hq : q.spot = none) (v : Value) : Spot (w.setCell q v) p := by
  obtain ⟨h0, T, cs, h1, h2⟩ := h
  exact ⟨h0, T, _, set_here h1 q hq v, by split <;> simp [h2]⟩
theorem Spot.cell {w : World} {p : Addr} (h : Spot w p) : (∃ v, w.cell? p = some v) ∧ w.frozen? p = false := by
  obtain ⟨h0, T, cs, h1, h2⟩ := h
  obtain ⟨pb, po, pp⟩ := p
  simp only at h0 h1 h2
  subst h0
  exact ⟨⟨cs[po], by rw [h1.cell]; exact Array.getElem?_eq_getElem h2⟩, h1.frozen po⟩
set_option maxRecDepth 100000 in
set_option maxHeartbeats 2000000 in
/-- fill: numbers. -/
theorem fillNum_any {M b bk o c : Nat} {r : Rd} {ps : List Addr} {w : World} (h : Rm M w b r) (hps : ∀ p ∈ ps, Spot w p ∧ M ≤ p.block) (hb : bk ≠ b) (hk : ∀ p ∈ ps, p.block ≠ bk) (hbk : bk < w.heap.size) (hn : ps.length ≤ 100)
    (hc : ∀ j p, ps[j]? = some p → w.cell? ⟨bk, o + j, none⟩ = some (.pointer (some p))) :
    Calls Tryd.prog 48 #[.func (.func 45) #[.pointer (some ⟨b, 0, none⟩)] #[], .slice (some ⟨bk, o, none⟩) ps.length c] w fun e w' => e = .returned (.tuple #[]) ∧ Rm M w' b (fillR rdNum r ps) ∧ Fills rdNum (Value.int .i64) M b r ps w (fillR rdNum r ps) w' := by
  have HP := Lib.hid hps
  have HK := Lib.hid hk
  have HC := Lib.hid hc
  have HR := Lib.hid h
  have HB := Lib.hid hb
  have HL := Lib.hid hbk
  have hMb := h.ltM
  clear hps hk hc h hb hbk
  obtain ⟨z, hz⟩ : ∃ z, z = ps.length := ⟨_, rfl⟩
  rw [← hz] at hn ⊢
  have HZ := Lib.hid hz
  clear hz
  go_enter Tryd.func48, Tryd.ntmps48
  go_wp2_with fail
  go_loopw [8] (fun vi wr => ∃ k : Nat, vi = .int .i64 (k : Int) ∧ k ≤ z ∧ ∃ rk, Hid (Rm M wr b rk ∧ w.heap.size ≤ wr.heap.size ∧ (∀ p ∈ ps, Spot wr p) ∧ (∀ j p, ps[j]? = some p → wr.cell? ⟨bk, o + j, none⟩ = some (.pointer (some p))) ∧ ∀ r' w', Fills rdNum (Value.int .i64) M b rk (ps.drop k) wr r' w' → Fills rdNum (Value.int .i64) M b r ps w r' w')) (fun vi _ => z - (intOf vi).toNat)
  case atStart => exact ⟨0, rfl, Nat.zero_le _, r, Lib.hid ⟨HR.out, Nat.le_refl _, fun p hp => (HP.out p hp).1, HC.out, fun r' w' h => h⟩⟩
  case round =>
    obtain ⟨k, rfl, hk, rk, HI⟩ := hrel
    by_cases hlt : k < z
    · obtain ⟨p, hp⟩ : ∃ p, ps[k]? = some p := ⟨_, List.getElem?_eq_getElem (by rw [← HZ.out]; exact hlt)⟩
      have hc0 := HI.out.2.2.2.1 k p hp
      have hpm : p ∈ ps := List.mem_of_getElem? hp
      have SP := Lib.hid (HI.out.2.2.1 p hpm)
      have HPK := Lib.hid hp
      have HPM := Lib.hid hpm
      have i1 : (k : Int) < (z : Int) := by omega
      have wk : IntKind.i64.wrap ((k : Int) + 1) = (k : Int) + 1 := IntWalk.i64_in _ (by omega)
      clear hp hpm
      go_wp2_with (first
        | (go_at_call 45; refine (rdNum_any HI.out.1).mono ?_; rintro e w1 ⟨rfl, hr, hf⟩; have R1 := Lib.hid hr; have F1 := Lib.hid hf; have SQ := Lib.hid (SP.out.far hf (fun e => by have := (HP.out p HPM.out).2; omega)); obtain ⟨⟨vq, cq⟩, fq⟩ := SQ.out.cell; clear hr hf))
      refine ⟨⟨k + 1, rfl, hlt, (rdNum rk).2, Lib.hid ⟨?_, ?_, ?_, ?_, ?_⟩⟩, by simp [intOf]; omega⟩
      · exact R1.out.far (S := fun i => i = p.block) (Far.setCell (S := fun i => i = p.block) (Far.refl _ _) (fun _ => rfl) _) (fun e => by have := (HP.out p HPM.out).2; omega) (fun i hi _ e => by have := (HP.out p HPM.out).2; omega)
      · exact Nat.le_trans HI.out.2.1 (Nat.le_trans F1.out.size (by simp [World.setCell]))
      · exact fun q hq => ((HI.out.2.2.1 q hq).far F1.out (fun e => by have := (HP.out q hq).2; omega)).set SP.out.1 _
      · intro j q hq
        rw [World.cell?_setCell_far _ _ _ _ (by exact fun e => HK.out p HPM.out e)]
        rw [far_cell F1.out (p := ⟨bk, o + j, none⟩) (Nat.lt_of_lt_of_le HL.out HI.out.2.1) HB.out]
        exact HI.out.2.2.2.1 j q hq
      · intro r' w' hF
        refine HI.out.2.2.2.2 r' w' ?_
        have hd : ps.drop k = p :: ps.drop (k + 1) := by
          have h1 := (List.getElem?_eq_some_iff.1 HPK.out)
          rw [← h1.2]
          exact List.drop_eq_getElem_cons h1.1
        rw [hd]
        exact Fills.cons F1.out hF
    · have i1 : ¬ (k : Int) < (z : Int) := by omega
      go_wp2_with fail
      go_returns
      have hF := HI.out.2.2.2.2 rk wr (by
        rw [List.drop_eq_nil_of_le (by have := HZ.out; omega)]
        exact Fills.nil)
      have := hF.rd
      rw [← this]
      exact ⟨rfl, HI.out.1, hF⟩
set_option maxRecDepth 100000 in
set_option maxHeartbeats 2000000 in
/-- fill: texts. -/
theorem fillText_any {M b bk o c : Nat} {r : Rd} {ps : List Addr} {w : World} (h : Rm M w b r) (hl : Laid2 w) (hg : 0 ≠ b) (hgp : ∀ p ∈ ps, p.block ≠ 0) (hps : ∀ p ∈ ps, Spot w p ∧ M ≤ p.block) (hb : bk ≠ b) (hk : ∀ p ∈ ps, p.block ≠ bk) (hbk : bk < w.heap.size) (hn : ps.length ≤ 100)
    (hc : ∀ j p, ps[j]? = some p → w.cell? ⟨bk, o + j, none⟩ = some (.pointer (some p))) :
    Calls Tryd.prog 49 #[.func (.func 50) #[.pointer (some ⟨b, 0, none⟩)] #[], .slice (some ⟨bk, o, none⟩) ps.length c] w fun e w' => e = .returned (.tuple #[]) ∧ Rm M w' b (fillR rdText r ps) ∧ Fills rdText Value.string M b r ps w (fillR rdText r ps) w' := by
  have HP := Lib.hid hps
  have HK := Lib.hid hk
  have HC := Lib.hid hc
  have HR := Lib.hid h
  have HB := Lib.hid hb
  have HL := Lib.hid hbk
  have LD := Lib.hid hl
  have LG := Lib.hid hg
  have LP := Lib.hid hgp
  clear hl hg hgp
  have hMb := h.ltM
  clear hps hk hc h hb hbk
  obtain ⟨z, hz⟩ : ∃ z, z = ps.length := ⟨_, rfl⟩
  rw [← hz] at hn ⊢
  have HZ := Lib.hid hz
  clear hz
  go_enter Tryd.func49, Tryd.ntmps49
  go_wp2_with fail
  go_loopw [8] (fun vi wr => ∃ k : Nat, vi = .int .i64 (k : Int) ∧ k ≤ z ∧ ∃ rk, Hid (Rm M wr b rk ∧ w.heap.size ≤ wr.heap.size ∧ (∀ p ∈ ps, Spot wr p) ∧ (∀ j p, ps[j]? = some p → wr.cell? ⟨bk, o + j, none⟩ = some (.pointer (some p))) ∧ Laid2 wr ∧ ∀ r' w', Fills rdText Value.string M b rk (ps.drop k) wr r' w' → Fills rdText Value.string M b r ps w r' w')) (fun vi _ => z - (intOf vi).toNat)
  case atStart => exact ⟨0, rfl, Nat.zero_le _, r, Lib.hid ⟨HR.out, Nat.le_refl _, fun p hp => (HP.out p hp).1, HC.out, LD.out, fun r' w' h => h⟩⟩
  case round =>
    obtain ⟨k, rfl, hk, rk, HI⟩ := hrel
    by_cases hlt : k < z
    · obtain ⟨p, hp⟩ : ∃ p, ps[k]? = some p := ⟨_, List.getElem?_eq_getElem (by rw [← HZ.out]; exact hlt)⟩
      have hc0 := HI.out.2.2.2.1 k p hp
      have hpm : p ∈ ps := List.mem_of_getElem? hp
      have SP := Lib.hid (HI.out.2.2.1 p hpm)
      have HPK := Lib.hid hp
      have HPM := Lib.hid hpm
      have i1 : (k : Int) < (z : Int) := by omega
      have wk : IntKind.i64.wrap ((k : Int) + 1) = (k : Int) + 1 := IntWalk.i64_in _ (by omega)
      clear hp hpm
      go_wp2_with (first
        | (go_at_call 50; refine (rdText_any HI.out.1 HI.out.2.2.2.2.1 LG.out).mono ?_; rintro e w1 ⟨rfl, hr, hf⟩; have R1 := Lib.hid hr; have F1 := Lib.hid hf; have SQ := Lib.hid (SP.out.far hf (fun e => by have := (HP.out p HPM.out).2; omega)); obtain ⟨⟨vq, cq⟩, fq⟩ := SQ.out.cell; clear hr hf))
      refine ⟨⟨k + 1, rfl, hlt, (rdText rk).2, Lib.hid ⟨?_, ?_, ?_, ?_, ?_, ?_⟩⟩, by simp [intOf]; omega⟩
      · exact R1.out.far (S := fun i => i = p.block) (Far.setCell (S := fun i => i = p.block) (Far.refl _ _) (fun _ => rfl) _) (fun e => by have := (HP.out p HPM.out).2; omega) (fun i hi _ e => by have := (HP.out p HPM.out).2; omega)
      · exact Nat.le_trans HI.out.2.1 (Nat.le_trans F1.out.size (by simp [World.setCell]))
      · exact fun q hq => ((HI.out.2.2.1 q hq).far F1.out (fun e => by have := (HP.out q hq).2; omega)).set SP.out.1 _
      · intro j q hq
        rw [World.cell?_setCell_far _ _ _ _ (by exact fun e => HK.out p HPM.out e)]
        rw [far_cell F1.out (p := ⟨bk, o + j, none⟩) (Nat.lt_of_lt_of_le HL.out HI.out.2.1) HB.out]
        exact HI.out.2.2.2.1 j q hq
      · exact (HI.out.2.2.2.2.1.far F1.out LG.out).far (S := fun i => i = p.block) (Far.setCell (S := fun i => i = p.block) (Far.refl _ _) (fun _ => rfl) _) (fun e => LP.out p HPM.out e.symm)
      · intro r' w' hF
        refine HI.out.2.2.2.2.2 r' w' ?_
        have hd : ps.drop k = p :: ps.drop (k + 1) := by
          have h1 := (List.getElem?_eq_some_iff.1 HPK.out)
          rw [← h1.2]
          exact List.drop_eq_getElem_cons h1.1
        rw [hd]
        exact Fills.cons F1.out hF
    · have i1 : ¬ (k : Int) < (z : Int) := by omega
      go_wp2_with fail
      go_returns
      have hF := HI.out.2.2.2.2.2 rk wr (by
        rw [List.drop_eq_nil_of_le (by have := HZ.out; omega)]
        exact Fills.nil)
      have := hF.rd
      rw [← this]
      exact ⟨rfl, HI.out.1, hF⟩
end Go.Proofs.YtlbebdkockejcaaDoor
