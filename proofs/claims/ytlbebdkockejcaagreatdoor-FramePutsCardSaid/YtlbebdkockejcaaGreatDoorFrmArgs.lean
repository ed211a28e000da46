/-
  The arguments of frame's laws, opened: an ask, a reply, a notice (written by makers/frmargs.py).
-/
import Derived.Test.YtlbebdkockejcaaGreatDoorCanArgs
import Derived.Test.YtlbebdkockejcaaGreatDoorFrmAsk
import Derived.Test.YtlbebdkockejcaaGreatDoorFrmRep
import Derived.Test.YtlbebdkockejcaaGreatDoorFrmNtc
set_option maxRecDepth 100000
namespace Go.Proofs.YtlbebdkockejcaaGreatDoor
open Go.RowKit Go.ChangeShapes Go.WideShapes Go.Proofs.Mdl
set_option linter.unusedVariables false
set_option linter.unusedSimpArgs false
theorem listN5 {α : Type} {cs : List α} (h : cs.length = 5) : ∃ c0 c1 c2 c3 c4, cs = [c0, c1, c2, c3, c4] := by
  match cs, h with
  | [c0, c1, c2, c3, c4], _ => exact ⟨c0, c1, c2, c3, c4, rfl⟩
theorem structN5 {H : Type} {enc : TypeId × Value → H} {P : Program} {w : World} {base : Nat} {spare : Nat → Bool} {held : Bool} {t : TypeId} {f0 f1 f2 f3 f4 : Field} {fuel : Nat} {cs : List Value} {x : DataW H × List MemPlace} (ht : P.underlying t = some (.struct #[f0, f1, f2, f3, f4])) (h : DataW.trod enc P w base spare held fuel t cs = some x) :
    ∃ y0 y1 y2 y3 y4 n, DataW.trod enc P w base spare held n f0.type ((cs.drop f0.offset).take (P.cellsOf f0.type)) = some y0 ∧ DataW.trod enc P w base spare held n f1.type ((cs.drop f1.offset).take (P.cellsOf f1.type)) = some y1 ∧ DataW.trod enc P w base spare held n f2.type ((cs.drop f2.offset).take (P.cellsOf f2.type)) = some y2 ∧ DataW.trod enc P w base spare held n f3.type ((cs.drop f3.offset).take (P.cellsOf f3.type)) = some y3 ∧ DataW.trod enc P w base spare held n f4.type ((cs.drop f4.offset).take (P.cellsOf f4.type)) = some y4 := by
  obtain ⟨xs, n, _, rfl, hl, hlen, hf⟩ := DataW.trod_struct ht h
  obtain ⟨y0, y1, y2, y3, y4, rfl⟩ := listN5 (by simpa using hlen)
  exact ⟨y0, y1, y2, y3, y4, n, by simpa using hf 0 f0 rfl, by simpa using hf 1 f1 rfl, by simpa using hf 2 f2 rfl, by simpa using hf 3 f3 rfl, by simpa using hf 4 f4 rfl⟩
theorem listN7 {α : Type} {cs : List α} (h : cs.length = 7) : ∃ c0 c1 c2 c3 c4 c5 c6, cs = [c0, c1, c2, c3, c4, c5, c6] := by
  match cs, h with
  | [c0, c1, c2, c3, c4, c5, c6], _ => exact ⟨c0, c1, c2, c3, c4, c5, c6, rfl⟩
theorem structN7 {H : Type} {enc : TypeId × Value → H} {P : Program} {w : World} {base : Nat} {spare : Nat → Bool} {held : Bool} {t : TypeId} {f0 f1 f2 f3 f4 f5 f6 : Field} {fuel : Nat} {cs : List Value} {x : DataW H × List MemPlace} (ht : P.underlying t = some (.struct #[f0, f1, f2, f3, f4, f5, f6])) (h : DataW.trod enc P w base spare held fuel t cs = some x) :
    ∃ y0 y1 y2 y3 y4 y5 y6 n, DataW.trod enc P w base spare held n f0.type ((cs.drop f0.offset).take (P.cellsOf f0.type)) = some y0 ∧ DataW.trod enc P w base spare held n f1.type ((cs.drop f1.offset).take (P.cellsOf f1.type)) = some y1 ∧ DataW.trod enc P w base spare held n f2.type ((cs.drop f2.offset).take (P.cellsOf f2.type)) = some y2 ∧ DataW.trod enc P w base spare held n f3.type ((cs.drop f3.offset).take (P.cellsOf f3.type)) = some y3 ∧ DataW.trod enc P w base spare held n f4.type ((cs.drop f4.offset).take (P.cellsOf f4.type)) = some y4 ∧ DataW.trod enc P w base spare held n f5.type ((cs.drop f5.offset).take (P.cellsOf f5.type)) = some y5 ∧ DataW.trod enc P w base spare held n f6.type ((cs.drop f6.offset).take (P.cellsOf f6.type)) = some y6 := by
  obtain ⟨xs, n, _, rfl, hl, hlen, hf⟩ := DataW.trod_struct ht h
  obtain ⟨y0, y1, y2, y3, y4, y5, y6, rfl⟩ := listN7 (by simpa using hlen)
  exact ⟨y0, y1, y2, y3, y4, y5, y6, n, by simpa using hf 0 f0 rfl, by simpa using hf 1 f1 rfl, by simpa using hf 2 f2 rfl, by simpa using hf 3 f3 rfl, by simpa using hf 4 f4 rfl, by simpa using hf 5 f5 rfl, by simpa using hf 6 f6 rfl⟩
theorem listN8 {α : Type} {cs : List α} (h : cs.length = 8) : ∃ c0 c1 c2 c3 c4 c5 c6 c7, cs = [c0, c1, c2, c3, c4, c5, c6, c7] := by
  match cs, h with
  | [c0, c1, c2, c3, c4, c5, c6, c7], _ => exact ⟨c0, c1, c2, c3, c4, c5, c6, c7, rfl⟩
theorem structN8 {H : Type} {enc : TypeId × Value → H} {P : Program} {w : World} {base : Nat} {spare : Nat → Bool} {held : Bool} {t : TypeId} {f0 f1 f2 f3 f4 f5 f6 f7 : Field} {fuel : Nat} {cs : List Value} {x : DataW H × List MemPlace} (ht : P.underlying t = some (.struct #[f0, f1, f2, f3, f4, f5, f6, f7])) (h : DataW.trod enc P w base spare held fuel t cs = some x) :
    ∃ y0 y1 y2 y3 y4 y5 y6 y7 n, DataW.trod enc P w base spare held n f0.type ((cs.drop f0.offset).take (P.cellsOf f0.type)) = some y0 ∧ DataW.trod enc P w base spare held n f1.type ((cs.drop f1.offset).take (P.cellsOf f1.type)) = some y1 ∧ DataW.trod enc P w base spare held n f2.type ((cs.drop f2.offset).take (P.cellsOf f2.type)) = some y2 ∧ DataW.trod enc P w base spare held n f3.type ((cs.drop f3.offset).take (P.cellsOf f3.type)) = some y3 ∧ DataW.trod enc P w base spare held n f4.type ((cs.drop f4.offset).take (P.cellsOf f4.type)) = some y4 ∧ DataW.trod enc P w base spare held n f5.type ((cs.drop f5.offset).take (P.cellsOf f5.type)) = some y5 ∧ DataW.trod enc P w base spare held n f6.type ((cs.drop f6.offset).take (P.cellsOf f6.type)) = some y6 ∧ DataW.trod enc P w base spare held n f7.type ((cs.drop f7.offset).take (P.cellsOf f7.type)) = some y7 := by
  obtain ⟨xs, n, _, rfl, hl, hlen, hf⟩ := DataW.trod_struct ht h
  obtain ⟨y0, y1, y2, y3, y4, y5, y6, y7, rfl⟩ := listN8 (by simpa using hlen)
  exact ⟨y0, y1, y2, y3, y4, y5, y6, y7, n, by simpa using hf 0 f0 rfl, by simpa using hf 1 f1 rfl, by simpa using hf 2 f2 rfl, by simpa using hf 3 f3 rfl, by simpa using hf 4 f4 rfl, by simpa using hf 5 f5 rfl, by simpa using hf 6 f6 rfl, by simpa using hf 7 f7 rfl⟩
/-- An ask that is handed in. -/
def AskV (W : World) (v : Value) (a : Frm.Ask) : Prop := v = .agg (cellA a).toArray
theorem arg_ask {H : Type} {enc : TypeId × Value → H} {W : World} {v : Value} {d : DataW H} {p : List MemPlace} (hv : Value.okWide Tryz.prog W .any 0 23 v) (h : DataW.Trod enc Tryz.prog W 0 (fun _ => true) true 23 v d p) :
    ∃ x : Frm.Ask, AskV W v x := by
  obtain ⟨cs, rfl, hsz⟩ := okWide_struct Tryz.underlying23 hv
  obtain ⟨fuel, hf⟩ := h
  have hC : Tryz.prog.cellsOf 23 = 7 := by kernel_rfl
  have h_i : Tryz.prog.cellsOf 3 = 1 := by kernel_rfl
  have h_s : Tryz.prog.cellsOf 9 = 1 := by kernel_rfl
  obtain ⟨l⟩ := cs
  obtain ⟨v0, v1, v2, v3, v4, v5, v6, rfl⟩ := listN7 (show l.length = 7 from hsz.trans hC)
  have hf' : DataW.trod enc Tryz.prog W 0 (fun _ => true) true fuel 23 [v0, v1, v2, v3, v4, v5, v6] = some (d, p) := hf
  obtain ⟨y0, y1, y2, y3, y4, y5, y6, q, t0, t1, t2, t3, t4, t5, t6⟩ := structN7 Tryz.underlying23 hf'
  simp only [h_i, h_s, List.drop, List.take] at t0 t1 t2 t3 t4 t5 t6
  obtain ⟨r0, e0, _, _⟩ := DataW.trod_int Tryz.underlying3 t0
  cases e0
  obtain ⟨r1, e1, _, _⟩ := DataW.trod_int Tryz.underlying3 t1
  cases e1
  obtain ⟨r2, e2, _, _⟩ := DataW.trod_int Tryz.underlying3 t2
  cases e2
  obtain ⟨r3, e3, _, _⟩ := DataW.trod_int Tryz.underlying3 t3
  cases e3
  obtain ⟨r4, e4, _, _⟩ := DataW.trod_string Tryz.underlying9 t4
  cases e4
  obtain ⟨r5, e5, _, _⟩ := DataW.trod_string Tryz.underlying9 t5
  cases e5
  obtain ⟨r6, e6, _, _⟩ := DataW.trod_int Tryz.underlying3 t6
  cases e6
  exact ⟨⟨r0, r1, r2, r3, r4, r5, r6⟩, rfl⟩
/-- A reply that is handed in. -/
def RepV (W : World) (v : Value) (r : Frm.Rep) : Prop := ∃ vl, v = .agg (Go.Proofs.YtlbebdkockejcaaGreatDoor.cellR r vl).toArray ∧ Es W vl r.entries
theorem arg_rep {H : Type} {enc : TypeId × Value → H} {W : World} {v : Value} {d : DataW H} {p : List MemPlace} (hv : Value.okWide Tryz.prog W .any 0 27 v) (h : DataW.Trod enc Tryz.prog W 0 (fun _ => true) true 27 v d p) :
    ∃ x : Frm.Rep, RepV W v x := by
  obtain ⟨cs, rfl, hsz⟩ := okWide_struct Tryz.underlying27 hv
  obtain ⟨fuel, hf⟩ := h
  have hC : Tryz.prog.cellsOf 27 = 8 := by kernel_rfl
  have h_i : Tryz.prog.cellsOf 3 = 1 := by kernel_rfl
  have h_e : Tryz.prog.cellsOf 24 = 1 := by kernel_rfl
  have h_s : Tryz.prog.cellsOf 9 = 1 := by kernel_rfl
  have h_E : Tryz.prog.cellsOf 25 = 1 := by kernel_rfl
  have h_b : Tryz.prog.cellsOf 4 = 1 := by kernel_rfl
  obtain ⟨l⟩ := cs
  obtain ⟨v0, v1, v2, v3, v4, v5, v6, v7, rfl⟩ := listN8 (show l.length = 8 from hsz.trans hC)
  have hf' : DataW.trod enc Tryz.prog W 0 (fun _ => true) true fuel 27 [v0, v1, v2, v3, v4, v5, v6, v7] = some (d, p) := hf
  obtain ⟨y0, y1, y2, y3, y4, y5, y6, y7, q, t0, t1, t2, t3, t4, t5, t6, t7⟩ := structN8 Tryz.underlying27 hf'
  simp only [h_i, h_e, h_s, h_E, h_b, List.drop, List.take] at t0 t1 t2 t3 t4 t5 t6 t7
  obtain ⟨r0, e0, _, _⟩ := DataW.trod_int Tryz.underlying3 t0
  cases e0
  obtain ⟨r1, e1, _, _⟩ := DataW.trod_int Tryz.underlying3 t1
  cases e1
  obtain ⟨r2, e2, _, _⟩ := DataW.trod_int Tryz.underlying24 t2
  cases e2
  obtain ⟨r3, e3, _, _⟩ := DataW.trod_int Tryz.underlying3 t3
  cases e3
  obtain ⟨r4, e4, _, _⟩ := DataW.trod_string Tryz.underlying9 t4
  cases e4
  obtain ⟨r5, hl5⟩ := open_ents t5
  obtain ⟨r6, e6, _, _⟩ := DataW.trod_string Tryz.underlying9 t6
  cases e6
  obtain ⟨r7, e7, _⟩ := DataW.trod_bool Tryz.underlying4 t7
  cases e7
  exact ⟨⟨r0, r1, r2, r3, r4, r5, r6, r7⟩, v5, rfl, hl5⟩
/-- A notice that is handed in. -/
def NtcV (W : World) (v : Value) (n : Frm.Ntc) : Prop := ∃ vl, v = .agg (cellN n vl).toArray ∧ Cs W vl n.changes
theorem arg_ntc {H : Type} {enc : TypeId × Value → H} {W : World} {v : Value} {d : DataW H} {p : List MemPlace} (hv : Value.okWide Tryz.prog W .any 0 30 v) (h : DataW.Trod enc Tryz.prog W 0 (fun _ => true) true 30 v d p) :
    ∃ x : Frm.Ntc, NtcV W v x := by
  obtain ⟨cs, rfl, hsz⟩ := okWide_struct Tryz.underlying30 hv
  obtain ⟨fuel, hf⟩ := h
  have hC : Tryz.prog.cellsOf 30 = 5 := by kernel_rfl
  have h_i : Tryz.prog.cellsOf 3 = 1 := by kernel_rfl
  have h_e : Tryz.prog.cellsOf 24 = 1 := by kernel_rfl
  have h_s : Tryz.prog.cellsOf 9 = 1 := by kernel_rfl
  have h_C : Tryz.prog.cellsOf 28 = 1 := by kernel_rfl
  obtain ⟨l⟩ := cs
  obtain ⟨v0, v1, v2, v3, v4, rfl⟩ := listN5 (show l.length = 5 from hsz.trans hC)
  have hf' : DataW.trod enc Tryz.prog W 0 (fun _ => true) true fuel 30 [v0, v1, v2, v3, v4] = some (d, p) := hf
  obtain ⟨y0, y1, y2, y3, y4, q, t0, t1, t2, t3, t4⟩ := structN5 Tryz.underlying30 hf'
  simp only [h_i, h_e, h_s, h_C, List.drop, List.take] at t0 t1 t2 t3 t4
  obtain ⟨r0, e0, _, _⟩ := DataW.trod_int Tryz.underlying3 t0
  cases e0
  obtain ⟨r1, e1, _, _⟩ := DataW.trod_int Tryz.underlying24 t1
  cases e1
  obtain ⟨r2, e2, _, _⟩ := DataW.trod_int Tryz.underlying3 t2
  cases e2
  obtain ⟨r3, e3, _, _⟩ := DataW.trod_string Tryz.underlying9 t3
  cases e3
  obtain ⟨r4, hl4⟩ := open_chgs t4
  exact ⟨⟨r0, r1, r2, r3, r4⟩, v4, rfl, hl4⟩
end Go.Proofs.YtlbebdkockejcaaGreatDoor
