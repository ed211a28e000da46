/-
  Merged: FrmBase, FrmFill, FrmBox, FrmEnt.
-/
import Derived.Test.YtlbebdkockejcaaGreatDoorFrmPlain
import Derived.Test.YtlbebdkockejcaaGreatDoorGaRlp
import Derived.Test.YtlbebdkockejcaaGreatDoorGaFar
import Derived.Test.YtlbebdkockejcaaGreatDoorGaRun
import Derived.Test.YtlbebdkockejcaaGreatDoorGaFrA
import Derived.Test.YtlbebdkockejcaaGreatDoorGaMdA
import Derived.LoopIn
import Derived.Handy
import Derived.Test.YtlbebdkockejcaaGreatDoorRowK
import Derived.Deep.Cut
import Derived.Deep.CutBlock
namespace Go.Proofs.YtlbebdkockejcaaGreatDoor
open Go.RowKit Go.Proofs.Frm
set_option linter.unusedVariables false
set_option linter.unusedSimpArgs false
set_option maxRecDepth 100000 in
set_option maxHeartbeats 1000000 in
/-- within. -/
theorem within_any (n a b : Int) (w : World) :
    Calls Tryz.prog 38 #[.int .i64 n, .int .i64 a, .int .i64 b] w fun e w' => e = .returned (.bool (wi n a b)) ∧ w = w' := by
  unfold wi
  by_cases h1 : a ≤ n
  · have d1 : decide (a ≤ n) = true := decide_eq_true h1
    go_enter Tryz.func38, Tryz.ntmps38
    go_wp2_with fail
    go_ret
    refine ⟨?_, rfl⟩
    simp [h1]
  · have d1 : decide (a ≤ n) = false := decide_eq_false h1
    go_enter Tryz.func38, Tryz.ntmps38
    go_wp2_with fail
    go_ret
    refine ⟨?_, rfl⟩
    simp [h1]
set_option maxRecDepth 100000 in
set_option maxHeartbeats 1000000 in
/-- isRoot. -/
theorem isRoot_any (s : ByteArray) (w : World) :
    Calls Tryz.prog 39 #[.string s] w fun e w' => e = .returned (.bool (rootOk s)) ∧ w = w' := by
  have hl : s.toList.length = s.size := by rw [Lib.toList_data]; simp
  unfold rootOk
  by_cases h0 : s.size = 0
  · have e0 : s.toList.isEmpty = true := by rw [List.isEmpty_iff, ← List.length_eq_zero_iff, hl, h0]
    have e1 : s.toList = [] := List.isEmpty_iff.1 e0
    go_enter Tryz.func39, Tryz.ntmps39
    go_wp2_with fail
    all_goals go_ret
    all_goals (refine ⟨?_, rfl⟩; simp [h0, e0, e1])
  · have e0 : s.toList.isEmpty = false := by rw [Bool.eq_false_iff, Ne, List.isEmpty_iff, ← List.length_eq_zero_iff, hl]; exact h0
    have e1 : ¬ s.toList = [] := fun e => by rw [e] at e0; cases e0
    go_enter Tryz.func39, Tryz.ntmps39
    go_wp2_with fail
    all_goals go_ret
    all_goals (refine ⟨?_, rfl⟩; simp [h0, e0, e1]; try (rw [Bool.eq_iff_iff]; simp; omega))
set_option maxRecDepth 100000 in
set_option maxHeartbeats 1000000 in
/-- isLarge. -/
theorem isLarge_any (k v : ByteArray) (w : World) :
    Calls Tryz.prog 42 #[.string k, .string v] w fun e w' => e = .returned (.bool (!(decide (k.size ≤ 6) && decide (v.size ≤ 80)))) ∧ w = w' := by
  go_enter Tryz.func42, Tryz.ntmps42
  go_wp2_with fail
  all_goals go_ret
  all_goals (refine ⟨congrArg (fun b => Ending.returned (Value.bool b)) (?_ : (_ : Bool) = _), rfl⟩)
  all_goals (rw [Bool.eq_iff_iff]; simp; try omega)
set_option maxRecDepth 100000 in
set_option maxHeartbeats 1000000 in
/-- A number as an item. -/
theorem number_any (n : Int) (w : World) (h0 : 0 ≤ n) (h1 : n ≤ 9223372036854775807) :
    Calls Tryz.prog 29 #[.int .i64 n] w fun e w' => e = .returned (.string (numZ n)) ∧ Below w.heap.size w w' := by
  obtain ⟨m, rfl⟩ := Int.eq_ofNat_of_zero_le h0
  have HN := Lib.hid (num_any m w (by omega))
  go_enter Tryz.func29, Tryz.ntmps29
  go_wp2_with (first
    | (go_at_call 59; refine HN.out.mono ?_; rintro e w1 ⟨rfl, hb⟩; have B1 := Lib.hid hb; clear hb))
  go_ret
  exact ⟨rfl, B1.out⟩
set_option maxRecDepth 100000 in
set_option maxHeartbeats 1000000 in
/-- A flag as an item. -/
theorem flag_any (b : Bool) (w : World) :
    Calls Tryz.prog 34 #[.bool b] w fun e w' => e = .returned (.string (flagB b)) ∧ Below w.heap.size w w' := by
  have HN := Lib.hid (number_any (if b then 1 else 0) w (by split <;> decide) (by split <;> decide))
  unfold flagB
  cases b <;>
  (go_enter Tryz.func34, Tryz.ntmps34
   go_wp2_with (first
    | (go_at_call 29; refine HN.out.mono ?_; rintro e w1 ⟨rfl, hb⟩; have B1 := Lib.hid hb; clear hb))
   go_ret
   exact ⟨rfl, B1.out⟩)
end Go.Proofs.YtlbebdkockejcaaGreatDoor
namespace Go.Proofs.YtlbebdkockejcaaGreatDoor
open Go.RowKit Go.Proofs.Frm
set_option linter.unusedVariables false
set_option linter.unusedSimpArgs false
/-- Places are filled, one by one. -/
inductive Fills {α : Type} (f : Rd → α × Rd) (mk : α → Value) (M b : Nat) : Rd → List Addr → World → Rd → World → Prop where
  | nil {r : Rd} {w : World} : Fills f mk M b r [] w r w
  | cons {r r' : Rd} {p : Addr} {ps : List Addr} {w w1 w' : World} : Far (fun i => i = b) w w1 → Fills f mk M b (f r).2 ps (w1.setCell p (mk (f r).1)) r' w' → Fills f mk M b r (p :: ps) w r' w'
/-- What the cells of block X are then. -/
def fillC {α : Type} (f : Rd → α × Rd) (mk : α → Value) (X : Nat) : Rd → List Addr → Array Value → Array Value
  | _, [], cs => cs
  | r, p :: ps, cs => fillC f mk X (f r).2 ps (if p.block = X then cs.setIfInBounds p.off (mk (f r).1) else cs)
def fillR {α : Type} (f : Rd → α × Rd) : Rd → List Addr → Rd
  | r, [] => r
  | r, _ :: ps => fillR f (f r).2 ps
section
variable {α : Type} {f : Rd → α × Rd} {mk : α → Value} {M b : Nat}
theorem Fills.rd {r r' : Rd} {ps : List Addr} {w w' : World} (h : Fills f mk M b r ps w r' w') : r' = fillR f r ps := by
  induction h with
  | nil => rfl
  | cons _ _ ih => exact ih
theorem set_here {w : World} {X : Nat} {T : TypeId} {cs : Array Value} (h : Blk w X T cs) (p : Addr) (hp : p.spot = none) (v : Value) : Blk (w.setCell p v) X T (if p.block = X then cs.setIfInBounds p.off v else cs) := by
  obtain ⟨pb, po, pp⟩ := p
  simp only at hp
  subst hp
  simp only
  split
  · next e => subst e; exact h.set po v
  · next e => exact h.other (p := ⟨pb, po, none⟩) (fun x => e x.symm) v
theorem Fills.blk {r r' : Rd} {ps : List Addr} {w w' : World} (h : Fills f mk M b r ps w r' w') (hp : ∀ p ∈ ps, p.spot = none) {X : Nat} (hX : X ≠ b) {T : TypeId} : ∀ {cs : Array Value}, Blk w X T cs → Blk w' X T (fillC f mk X r ps cs) := by
  induction h with
  | nil => exact fun h => h
  | cons hF _ ih => exact fun h => ih (fun p h => hp p (List.mem_cons_of_mem _ h)) (set_here (h.far hF hX) _ (hp _ List.mem_cons_self) _)
theorem Fills.far {r r' : Rd} {ps : List Addr} {w w' : World} (h : Fills f mk M b r ps w r' w') : Far (fun i => i = b ∨ ∃ p ∈ ps, p.block = i) w w' := by
  induction h with
  | nil => exact Far.refl _ _
  | @cons r r' p ps w w1 w' hF _ ih =>
    refine Far.trans (Far.setCell (S := fun i => i = b ∨ ∃ q ∈ p :: ps, q.block = i) (hF.mono (fun _ _ e => .inl e)) (fun _ => .inr ⟨_, List.mem_cons_self, rfl⟩) _) ih ?_
    rintro i _ (e | ⟨q, hq, e⟩)
    · exact .inl e
    · exact .inr ⟨q, List.mem_cons_of_mem _ hq, e⟩
end
/-- A place that may be stored into. -/
def Spot (w : World) (p : Addr) : Prop := p.spot = none ∧ ∃ T cs, Blk w p.block T cs ∧ p.off < cs.size
theorem Spot.far {S : Nat → Prop} {w w' : World} {p : Addr} (h : Spot w p) (F : Far S w w') (hS : ¬ S p.block) : Spot w' p := by
  obtain ⟨h0, T, cs, h1, h2⟩ := h
  exact ⟨h0, T, cs, h1.far F hS, h2⟩
theorem Spot.set {w : World} {p q : Addr} (h : Spot w p) (hq : q.spot = none) (v : Value) : Spot (w.setCell q v) p := by
  obtain ⟨h0, T, cs, h1, h2⟩ := h
  exact ⟨h0, T, _, set_here h1 q hq v, by split <;> simp [h2]⟩
theorem Spot.cell {w : World} {p : Addr} (h : Spot w p) : (∃ v, w.cell? p = some v) ∧ w.frozen? p = false := by
  obtain ⟨h0, T, cs, h1, h2⟩ := h
  obtain ⟨pb, po, pp⟩ := p
  simp only at h0 h1 h2
  subst h0
  exact ⟨⟨cs[po], by rw [h1.cell]; exact Array.getElem?_eq_getElem h2⟩, h1.frozen po⟩
set_option maxRecDepth 100000 in
set_option maxHeartbeats 2000000 in
/-- fill: numbers. -/
theorem fillNum_any {M b bk o c : Nat} {r : Rd} {ps : List Addr} {w : World} (h : Rm M w b r) (hps : ∀ p ∈ ps, Spot w p ∧ M ≤ p.block) (hb : bk ≠ b) (hk : ∀ p ∈ ps, p.block ≠ bk) (hbk : bk < w.heap.size) (hn : ps.length ≤ 100)
    (hc : ∀ j p, ps[j]? = some p → w.cell? ⟨bk, o + j, none⟩ = some (.pointer (some p))) :
    Calls Tryz.prog 69 #[.func (.func 66) #[.pointer (some ⟨b, 0, none⟩)] #[], .slice (some ⟨bk, o, none⟩) ps.length c] w fun e w' => e = .returned (.tuple #[]) ∧ Rm M w' b (fillR rdNum r ps) ∧ Fills rdNum (Value.int .i64) M b r ps w (fillR rdNum r ps) w' := by
  have HP := Lib.hid hps
  have HK := Lib.hid hk
  have HC := Lib.hid hc
  have HR := Lib.hid h
  have HB := Lib.hid hb
  have HL := Lib.hid hbk
  have hMb := h.ltM
  clear hps hk hc h hb hbk
  obtain ⟨z, hz⟩ : ∃ z, z = ps.length := ⟨_, rfl⟩
  rw [← hz] at hn ⊢
  have HZ := Lib.hid hz
  clear hz
  go_enter Tryz.func69, Tryz.ntmps69
  go_wp2_with fail
  go_loopw [8] (fun vi wr => ∃ k : Nat, vi = .int .i64 (k : Int) ∧ k ≤ z ∧ ∃ rk, Hid (Rm M wr b rk ∧ w.heap.size ≤ wr.heap.size ∧ (∀ p ∈ ps, Spot wr p) ∧ (∀ j p, ps[j]? = some p → wr.cell? ⟨bk, o + j, none⟩ = some (.pointer (some p))) ∧ ∀ r' w', Fills rdNum (Value.int .i64) M b rk (ps.drop k) wr r' w' → Fills rdNum (Value.int .i64) M b r ps w r' w')) (fun vi _ => z - (intOf vi).toNat)
  case atStart => exact ⟨0, rfl, Nat.zero_le _, r, Lib.hid ⟨HR.out, Nat.le_refl _, fun p hp => (HP.out p hp).1, HC.out, fun r' w' h => h⟩⟩
  case round =>
    obtain ⟨k, rfl, hk, rk, HI⟩ := hrel
    by_cases hlt : k < z
    · obtain ⟨p, hp⟩ : ∃ p, ps[k]? = some p := ⟨_, List.getElem?_eq_getElem (by rw [← HZ.out]; exact hlt)⟩
      have hc0 := HI.out.2.2.2.1 k p hp
      have hpm : p ∈ ps := List.mem_of_getElem? hp
      have SP := Lib.hid (HI.out.2.2.1 p hpm)
      have HPK := Lib.hid hp
      have HPM := Lib.hid hpm
      have i1 : (k : Int) < (z : Int) := by omega
      have wk : IntKind.i64.wrap ((k : Int) + 1) = (k : Int) + 1 := IntWalk.i64_in _ (by omega)
      clear hp hpm
      go_wp2_with (first
        | (go_at_call 66; refine (rdNum_any HI.out.1).mono ?_; rintro e w1 ⟨rfl, hr, hf⟩; have R1 := Lib.hid hr; have F1 := Lib.hid hf; have SQ := Lib.hid (SP.out.far hf (fun e => by have := (HP.out p HPM.out).2; omega)); obtain ⟨⟨vq, cq⟩, fq⟩ := SQ.out.cell; clear hr hf))
      refine ⟨⟨k + 1, rfl, hlt, (rdNum rk).2, Lib.hid ⟨?_, ?_, ?_, ?_, ?_⟩⟩, by simp [intOf]; omega⟩
      · exact R1.out.far (S := fun i => i = p.block) (Far.setCell (S := fun i => i = p.block) (Far.refl _ _) (fun _ => rfl) _) (fun e => by have := (HP.out p HPM.out).2; omega) (fun i hi _ e => by have := (HP.out p HPM.out).2; omega)
      · exact Nat.le_trans HI.out.2.1 (Nat.le_trans F1.out.size (by simp [World.setCell]))
      · exact fun q hq => ((HI.out.2.2.1 q hq).far F1.out (fun e => by have := (HP.out q hq).2; omega)).set SP.out.1 _
      · intro j q hq
        rw [World.cell?_setCell_far _ _ _ _ (by exact fun e => HK.out p HPM.out e)]
        rw [far_cell F1.out (p := ⟨bk, o + j, none⟩) (Nat.lt_of_lt_of_le HL.out HI.out.2.1) HB.out]
        exact HI.out.2.2.2.1 j q hq
      · intro r' w' hF
        refine HI.out.2.2.2.2 r' w' ?_
        have hd : ps.drop k = p :: ps.drop (k + 1) := by
          have h1 := (List.getElem?_eq_some_iff.1 HPK.out)
          rw [← h1.2]
          exact List.drop_eq_getElem_cons h1.1
        rw [hd]
        exact Fills.cons F1.out hF
    · have i1 : ¬ (k : Int) < (z : Int) := by omega
      go_wp2_with fail
      go_returns
      have hF := HI.out.2.2.2.2 rk wr (by
        rw [List.drop_eq_nil_of_le (by have := HZ.out; omega)]
        exact Fills.nil)
      have := hF.rd
      rw [← this]
      exact ⟨rfl, HI.out.1, hF⟩
set_option maxRecDepth 100000 in
set_option maxHeartbeats 2000000 in
/-- fill: texts. -/
theorem fillText_any {M b bk o c : Nat} {r : Rd} {ps : List Addr} {w : World} (h : Rm M w b r) (hl : Laid2 w) (hg : 0 ≠ b) (hgp : ∀ p ∈ ps, p.block ≠ 0) (hps : ∀ p ∈ ps, Spot w p ∧ M ≤ p.block) (hb : bk ≠ b) (hk : ∀ p ∈ ps, p.block ≠ bk) (hbk : bk < w.heap.size) (hn : ps.length ≤ 100)
    (hc : ∀ j p, ps[j]? = some p → w.cell? ⟨bk, o + j, none⟩ = some (.pointer (some p))) :
    Calls Tryz.prog 70 #[.func (.func 71) #[.pointer (some ⟨b, 0, none⟩)] #[], .slice (some ⟨bk, o, none⟩) ps.length c] w fun e w' => e = .returned (.tuple #[]) ∧ Rm M w' b (fillR rdText r ps) ∧ Fills rdText Value.string M b r ps w (fillR rdText r ps) w' := by
  have HP := Lib.hid hps
  have HK := Lib.hid hk
  have HC := Lib.hid hc
  have HR := Lib.hid h
  have HB := Lib.hid hb
  have HL := Lib.hid hbk
  have LD := Lib.hid hl
  have LG := Lib.hid hg
  have LP := Lib.hid hgp
  clear hl hg hgp
  have hMb := h.ltM
  clear hps hk hc h hb hbk
  obtain ⟨z, hz⟩ : ∃ z, z = ps.length := ⟨_, rfl⟩
  rw [← hz] at hn ⊢
  have HZ := Lib.hid hz
  clear hz
  go_enter Tryz.func70, Tryz.ntmps70
  go_wp2_with fail
  go_loopw [8] (fun vi wr => ∃ k : Nat, vi = .int .i64 (k : Int) ∧ k ≤ z ∧ ∃ rk, Hid (Rm M wr b rk ∧ w.heap.size ≤ wr.heap.size ∧ (∀ p ∈ ps, Spot wr p) ∧ (∀ j p, ps[j]? = some p → wr.cell? ⟨bk, o + j, none⟩ = some (.pointer (some p))) ∧ Laid2 wr ∧ ∀ r' w', Fills rdText Value.string M b rk (ps.drop k) wr r' w' → Fills rdText Value.string M b r ps w r' w')) (fun vi _ => z - (intOf vi).toNat)
  case atStart => exact ⟨0, rfl, Nat.zero_le _, r, Lib.hid ⟨HR.out, Nat.le_refl _, fun p hp => (HP.out p hp).1, HC.out, LD.out, fun r' w' h => h⟩⟩
  case round =>
    obtain ⟨k, rfl, hk, rk, HI⟩ := hrel
    by_cases hlt : k < z
    · obtain ⟨p, hp⟩ : ∃ p, ps[k]? = some p := ⟨_, List.getElem?_eq_getElem (by rw [← HZ.out]; exact hlt)⟩
      have hc0 := HI.out.2.2.2.1 k p hp
      have hpm : p ∈ ps := List.mem_of_getElem? hp
      have SP := Lib.hid (HI.out.2.2.1 p hpm)
      have HPK := Lib.hid hp
      have HPM := Lib.hid hpm
      have i1 : (k : Int) < (z : Int) := by omega
      have wk : IntKind.i64.wrap ((k : Int) + 1) = (k : Int) + 1 := IntWalk.i64_in _ (by omega)
      clear hp hpm
      go_wp2_with (first
        | (go_at_call 71; refine (rdText_any HI.out.1 HI.out.2.2.2.2.1 LG.out).mono ?_; rintro e w1 ⟨rfl, hr, hf⟩; have R1 := Lib.hid hr; have F1 := Lib.hid hf; have SQ := Lib.hid (SP.out.far hf (fun e => by have := (HP.out p HPM.out).2; omega)); obtain ⟨⟨vq, cq⟩, fq⟩ := SQ.out.cell; clear hr hf))
      refine ⟨⟨k + 1, rfl, hlt, (rdText rk).2, Lib.hid ⟨?_, ?_, ?_, ?_, ?_, ?_⟩⟩, by simp [intOf]; omega⟩
      · exact R1.out.far (S := fun i => i = p.block) (Far.setCell (S := fun i => i = p.block) (Far.refl _ _) (fun _ => rfl) _) (fun e => by have := (HP.out p HPM.out).2; omega) (fun i hi _ e => by have := (HP.out p HPM.out).2; omega)
      · exact Nat.le_trans HI.out.2.1 (Nat.le_trans F1.out.size (by simp [World.setCell]))
      · exact fun q hq => ((HI.out.2.2.1 q hq).far F1.out (fun e => by have := (HP.out q hq).2; omega)).set SP.out.1 _
      · intro j q hq
        rw [World.cell?_setCell_far _ _ _ _ (by exact fun e => HK.out p HPM.out e)]
        rw [far_cell F1.out (p := ⟨bk, o + j, none⟩) (Nat.lt_of_lt_of_le HL.out HI.out.2.1) HB.out]
        exact HI.out.2.2.2.1 j q hq
      · exact (HI.out.2.2.2.2.1.far F1.out LG.out).far (S := fun i => i = p.block) (Far.setCell (S := fun i => i = p.block) (Far.refl _ _) (fun _ => rfl) _) (fun e => LP.out p HPM.out e.symm)
      · intro r' w' hF
        refine HI.out.2.2.2.2.2 r' w' ?_
        have hd : ps.drop k = p :: ps.drop (k + 1) := by
          have h1 := (List.getElem?_eq_some_iff.1 HPK.out)
          rw [← h1.2]
          exact List.drop_eq_getElem_cons h1.1
        rw [hd]
        exact Fills.cons F1.out hF
    · have i1 : ¬ (k : Int) < (z : Int) := by omega
      go_wp2_with fail
      go_returns
      have hF := HI.out.2.2.2.2.2 rk wr (by
        rw [List.drop_eq_nil_of_le (by have := HZ.out; omega)]
        exact Fills.nil)
      have := hF.rd
      rw [← this]
      exact ⟨rfl, HI.out.1, hF⟩
end Go.Proofs.YtlbebdkockejcaaGreatDoor
namespace Go.Proofs.YtlbebdkockejcaaGreatDoor
open Go.RowKit
set_option linter.unusedVariables false
set_option linter.unusedSimpArgs false
theorem load_blkL {w : World} {g : Nat} {T : TypeId} (cs : List Value) (hf : Blk w g T cs.toArray) : (loadCells ⟨g, 0, none⟩ cs.length).run Tryz.prog w = .ok cs.toArray w := by
  have := run_loadCells_list (P := Tryz.prog) w ⟨g, 0, none⟩ cs (fun j v hj => by
    have h := hf.cell j
    have e : (⟨g, 0, none⟩ : Addr).add j = ⟨g, j, none⟩ := by
      unfold Addr.add
      by_cases hj0 : j = 0
      · subst hj0; rfl
      · simp [hj0]
    rw [e, h]
    simpa using hj)
  simpa using this
theorem results_b1 {fn : Func} {s : Tmp} {ty : TypeId} (h : fn.results = #[.cell s ty]) (hA : ∀ w : World, (isAgg ty).run Tryz.prog w = .ok true w) {k : Nat} (hS : ∀ w : World, (sizeOf ty).run Tryz.prog w = .ok k w) (tmps : Array Value) (w : World) (g : Nat) (h4 : tmps[s]?.getD undef = .pointer (some ⟨g, 0, none⟩)) {T : TypeId} {cs : List Value} (hf : Blk w g T cs.toArray) (hk : cs.length = k) :
    (results fn tmps).run Tryz.prog w = .ok (.agg cs.toArray) w := by
  subst hk
  simp [results, h, h4, loadVar, hA, hS, asAddr, load_blkL cs hf, Result.andThen]
theorem results_b2 {fn : Func} {s s5 : Tmp} {ty : TypeId} (h : fn.results = #[.cell s ty, .tmp s5]) (hA : ∀ w : World, (isAgg ty).run Tryz.prog w = .ok true w) {k : Nat} (hS : ∀ w : World, (sizeOf ty).run Tryz.prog w = .ok k w) (tmps : Array Value) (w : World) (g : Nat) (h4 : tmps[s]?.getD undef = .pointer (some ⟨g, 0, none⟩)) {y : Value} (h5 : tmps[s5]?.getD undef = y) {T : TypeId} {cs : List Value} (hf : Blk w g T cs.toArray) (hk : cs.length = k) :
    (results fn tmps).run Tryz.prog w = .ok (.tuple #[.agg cs.toArray, y]) w := by
  subst hk
  simp [results, h, h4, h5, loadVar, hA, hS, asAddr, load_blkL cs hf, Result.andThen]
theorem box_new (w : World) (T : TypeId) (cs : Array Value) : ∃ W g, W = w.alloc (.cells cs T) ∧ g = w.heap.size ∧ Below w.heap.size w W ∧ Blk W g T cs ∧ W.heap.size = g + 1 :=
  ⟨_, _, rfl, rfl, (Below.refl _ _).alloc (Nat.le_refl _) _, Blk.new _ _ _, by simp⟩
theorem boxes2 (w : World) (T0 T1 : TypeId) (c0 c1 : Array Value) : ∃ (W : World) (g0 g1 : Nat), W = ((w.alloc (.cells c0 T0)).alloc (.cells c1 T1)) ∧ g0 = w.heap.size ∧ g1 = w.heap.size + 1 ∧ Below w.heap.size w W ∧ Blk W g0 T0 c0 ∧ Blk W g1 T1 c1 ∧ W.heap.size = w.heap.size + 1 + 1 := by
  have h0 := Blk.new w T0 c0
  have h1 := Blk.new (w.alloc (.cells c0 T0)) T1 c1
  simp only [World.size_alloc] at h0 h1
  exact ⟨_, _, _, rfl, rfl, rfl, ((Bl.start w) |>.alloc _ |>.alloc _).1, (h0).alloc (.cells c1 T1), h1, by simp⟩
theorem boxes3 (w : World) (T0 T1 T2 : TypeId) (c0 c1 c2 : Array Value) : ∃ (W : World) (g0 g1 g2 : Nat), W = (((w.alloc (.cells c0 T0)).alloc (.cells c1 T1)).alloc (.cells c2 T2)) ∧ g0 = w.heap.size ∧ g1 = w.heap.size + 1 ∧ g2 = w.heap.size + 1 + 1 ∧ Below w.heap.size w W ∧ Blk W g0 T0 c0 ∧ Blk W g1 T1 c1 ∧ Blk W g2 T2 c2 ∧ W.heap.size = w.heap.size + 1 + 1 + 1 := by
  have h0 := Blk.new w T0 c0
  have h1 := Blk.new (w.alloc (.cells c0 T0)) T1 c1
  have h2 := Blk.new ((w.alloc (.cells c0 T0)).alloc (.cells c1 T1)) T2 c2
  simp only [World.size_alloc] at h0 h1 h2
  exact ⟨_, _, _, _, rfl, rfl, rfl, rfl, ((Bl.start w) |>.alloc _ |>.alloc _ |>.alloc _).1, ((h0).alloc (.cells c1 T1)).alloc (.cells c2 T2), (h1).alloc (.cells c2 T2), h2, by simp⟩
theorem boxes4 (w : World) (T0 T1 T2 T3 : TypeId) (c0 c1 c2 c3 : Array Value) : ∃ (W : World) (g0 g1 g2 g3 : Nat), W = ((((w.alloc (.cells c0 T0)).alloc (.cells c1 T1)).alloc (.cells c2 T2)).alloc (.cells c3 T3)) ∧ g0 = w.heap.size ∧ g1 = w.heap.size + 1 ∧ g2 = w.heap.size + 1 + 1 ∧ g3 = w.heap.size + 1 + 1 + 1 ∧ Below w.heap.size w W ∧ Blk W g0 T0 c0 ∧ Blk W g1 T1 c1 ∧ Blk W g2 T2 c2 ∧ Blk W g3 T3 c3 ∧ W.heap.size = w.heap.size + 1 + 1 + 1 + 1 := by
  have h0 := Blk.new w T0 c0
  have h1 := Blk.new (w.alloc (.cells c0 T0)) T1 c1
  have h2 := Blk.new ((w.alloc (.cells c0 T0)).alloc (.cells c1 T1)) T2 c2
  have h3 := Blk.new (((w.alloc (.cells c0 T0)).alloc (.cells c1 T1)).alloc (.cells c2 T2)) T3 c3
  simp only [World.size_alloc] at h0 h1 h2 h3
  exact ⟨_, _, _, _, _, rfl, rfl, rfl, rfl, rfl, ((Bl.start w) |>.alloc _ |>.alloc _ |>.alloc _ |>.alloc _).1, (((h0).alloc (.cells c1 T1)).alloc (.cells c2 T2)).alloc (.cells c3 T3), ((h1).alloc (.cells c2 T2)).alloc (.cells c3 T3), (h2).alloc (.cells c3 T3), h3, by simp⟩
theorem boxes5 (w : World) (T0 T1 T2 T3 T4 : TypeId) (c0 c1 c2 c3 c4 : Array Value) : ∃ (W : World) (g0 g1 g2 g3 g4 : Nat), W = (((((w.alloc (.cells c0 T0)).alloc (.cells c1 T1)).alloc (.cells c2 T2)).alloc (.cells c3 T3)).alloc (.cells c4 T4)) ∧ g0 = w.heap.size ∧ g1 = w.heap.size + 1 ∧ g2 = w.heap.size + 1 + 1 ∧ g3 = w.heap.size + 1 + 1 + 1 ∧ g4 = w.heap.size + 1 + 1 + 1 + 1 ∧ Below w.heap.size w W ∧ Blk W g0 T0 c0 ∧ Blk W g1 T1 c1 ∧ Blk W g2 T2 c2 ∧ Blk W g3 T3 c3 ∧ Blk W g4 T4 c4 ∧ W.heap.size = w.heap.size + 1 + 1 + 1 + 1 + 1 := by
  have h0 := Blk.new w T0 c0
  have h1 := Blk.new (w.alloc (.cells c0 T0)) T1 c1
  have h2 := Blk.new ((w.alloc (.cells c0 T0)).alloc (.cells c1 T1)) T2 c2
  have h3 := Blk.new (((w.alloc (.cells c0 T0)).alloc (.cells c1 T1)).alloc (.cells c2 T2)) T3 c3
  have h4 := Blk.new ((((w.alloc (.cells c0 T0)).alloc (.cells c1 T1)).alloc (.cells c2 T2)).alloc (.cells c3 T3)) T4 c4
  simp only [World.size_alloc] at h0 h1 h2 h3 h4
  exact ⟨_, _, _, _, _, _, rfl, rfl, rfl, rfl, rfl, rfl, ((Bl.start w) |>.alloc _ |>.alloc _ |>.alloc _ |>.alloc _ |>.alloc _).1, ((((h0).alloc (.cells c1 T1)).alloc (.cells c2 T2)).alloc (.cells c3 T3)).alloc (.cells c4 T4), (((h1).alloc (.cells c2 T2)).alloc (.cells c3 T3)).alloc (.cells c4 T4), ((h2).alloc (.cells c3 T3)).alloc (.cells c4 T4), (h3).alloc (.cells c4 T4), h4, by simp⟩
end Go.Proofs.YtlbebdkockejcaaGreatDoor
namespace Go.Proofs.YtlbebdkockejcaaGreatDoor
open Go.RowKit Go.Proofs.Frm Go.Proofs.Mdl
set_option linter.unusedVariables false
set_option linter.unusedSimpArgs false
theorem isAggE (w : World) : (isAgg 52).run Tryz.prog w = .ok true w := by kernel_rfl
theorem sizeE (w : World) : (sizeOf 52).run Tryz.prog w = .ok 2 w := by kernel_rfl
theorem isAggC (w : World) : (isAgg 54).run Tryz.prog w = .ok true w := by kernel_rfl
theorem sizeC (w : World) : (sizeOf 54).run Tryz.prog w = .ok 3 w := by kernel_rfl
set_option maxRecDepth 100000 in
set_option maxHeartbeats 2000000 in
/-- An entry is read. -/
theorem entR_any {M b : Nat} {r : Rd} {w : World} (h : Rm M w b r) (hM : M ≤ w.heap.size) (hl : Laid2 w) (hg : 0 ≠ b) :
    Calls Tryz.prog 75 #[.pointer (some ⟨b, 0, none⟩)] w fun e w' => e = .returned (.agg #[.string (entR r).1.k, .string (entR r).1.v]) ∧ Rm M w' b (entR r).2 ∧ Far (fun i => i = b) w w' := by
  obtain ⟨w2, g, p, hw, hg0, hp, hb, b1, b2, hz⟩ := boxes2 w 52 52 #[.string ⟨#[]⟩, .string ⟨#[]⟩] #[.string ⟨#[]⟩, .string ⟨#[]⟩]
  have hlt := h.lt
  have hgl := hl.lt
  have n1 : g ≠ b ∧ p ≠ b ∧ p ≠ g ∧ w.heap.size ≤ g ∧ w.heap.size ≤ p ∧ p ≠ w2.heap.size ∧ g ≠ w2.heap.size ∧ 0 ≠ p ∧ 0 ≠ g ∧ b ≠ w2.heap.size := by omega
  have FT := Lib.hid (fillText_any (M := M) (r := r) (w := w2.alloc (.cells #[.pointer (some ⟨p, 0, none⟩), .pointer (some ⟨p, 1, none⟩)] 103)) (bk := w2.heap.size) (o := 0) (c := 2) (ps := [⟨p, 0, none⟩, ⟨p, 1, none⟩]) (h.below (hb.alloc (by omega) _)) (hl.on (hb.alloc (by omega) _) (Nat.le_refl _)) hg (by intro q hq; simp only [List.mem_cons, List.not_mem_nil, or_false] at hq; rcases hq with rfl | rfl <;> simp only <;> omega)
    (by intro q hq; simp only [List.mem_cons, List.not_mem_nil, or_false] at hq; rcases hq with rfl | rfl <;> exact ⟨⟨rfl, _, _, b2.alloc _, by simp⟩, by simp only; omega⟩) (by omega) (by intro q hq; simp only [List.mem_cons, List.not_mem_nil, or_false] at hq; rcases hq with rfl | rfl <;> simp only <;> omega) (by simp) (by simp)
    (by
      intro j q hq
      rw [Nat.zero_add, (Blk.new w2 _ _).cell]
      match j, hq with
      | 0, hq => cases hq; rfl
      | 1, hq => cases hq; rfl
      | j + 2, hq => simp at hq))
  have B1 := Lib.hid (b1.alloc (.cells #[.pointer (some ⟨p, 0, none⟩), .pointer (some ⟨p, 1, none⟩)] 103))
  have B2 := Lib.hid (b2.alloc (.cells #[.pointer (some ⟨p, 0, none⟩), .pointer (some ⟨p, 1, none⟩)] 103))
  have HB := Lib.hid (hb.alloc (by omega) (.cells #[.pointer (some ⟨p, 0, none⟩), .pointer (some ⟨p, 1, none⟩)] 103))
  have NE := Lib.hid n1
  have HM := Lib.hid hM
  clear h hM hl hg b1 b2 hb hlt hgl n1 hz
  go_enter Tryz.func75, Tryz.ntmps75
  go_upto_region 2 with (fail)
  rw [← hw, ← hp, ← hg0]
  clear hw hp hg0
  go_upto_region 3 with (first
    | (go_at_call 70; refine FT.out.mono ?_; rintro e w4 ⟨rfl, hr, hF⟩; skip))
  have hpth : ∀ q ∈ ([⟨p, 0, none⟩, ⟨p, 1, none⟩] : List Addr), q.spot = none := by intro q hq; simp only [List.mem_cons, List.not_mem_nil, or_false] at hq; rcases hq with rfl | rfl <;> rfl
  have bp := hF.blk hpth (X := p) NE.out.2.1 B2.out
  have bg := hF.blk hpth (X := g) NE.out.1 B1.out
  simp only [fillC, if_true, if_neg NE.out.2.2.1] at bp bg
  have R4 := Lib.hid hr
  have F4 := Lib.hid hF.far
  clear hr hF hpth
  have BG := Lib.hid bg
  have p0 := bp.cell 0
  have p1 := bp.cell 1
  have g0 := bg.cell 0
  have g1 := bg.cell 1
  have fg0 := bg.frozen 0
  have fg1 := bg.frozen 1
  clear bp bg
  simp at p0 p1 g0 g1
  go_wp2_with fail
  have h5 : Blk ((w4.setCell ⟨g, 0, none⟩ (.string (rdText r).1)).setCell ⟨g, 1, none⟩ (.string (rdText (rdText r).2).1)) g 52 [Value.string (rdText r).1, Value.string (rdText (rdText r).2).1].toArray := (BG.out.set 0 _).set 1 _
  have f5 : Far (fun i => i = g) w4 ((w4.setCell ⟨g, 0, none⟩ (.string (rdText r).1)).setCell ⟨g, 1, none⟩ (.string (rdText (rdText r).2).1)) := (set_far _ _ _ _).trans (set_far _ _ _ _) (fun _ _ e => e)
  refine bodyPost_ret (results_b1 rfl isAggE sizeE _ _ g rfl h5 rfl) rfl ?_
  have hM := HM.out
  obtain ⟨n0, n1, n2, n3, n4, -⟩ := NE.out
  have f1 : Far (fun i => i = b) w w4 := ((far_of_below HB.out).mono (S' := fun i => i = b) (fun _ _ e => e.elim)).trans F4.out (fun i hi e => by
    rcases e with e | ⟨q, hq, e⟩
    · exact e
    · simp only [List.mem_cons, List.not_mem_nil, or_false] at hq
      rcases hq with rfl | rfl <;> (simp only at e; omega))
  exact ⟨rfl, R4.out.far f5 (fun e => n0 e.symm) (fun i hi _ e => by omega), f1.trans f5 (fun i hi e => by omega)⟩
end Go.Proofs.YtlbebdkockejcaaGreatDoor
