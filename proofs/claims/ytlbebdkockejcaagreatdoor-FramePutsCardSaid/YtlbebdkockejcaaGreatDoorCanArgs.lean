/-
  The arguments of canon's laws, opened: entries, changes, one entry.
-/
import Derived.Test.YtlbebdkockejcaaGreatDoorArgs
import Derived.Test.YtlbebdkockejcaaGreatDoorGaMdA
import Derived.Lib.SmallJoins
import Derived.Deep.Strs
namespace Go.Proofs.Mdl
instance : Inhabited Chg := ⟨⟨e0, e0, false⟩⟩
instance : Inhabited Ent := ⟨⟨e0, e0⟩⟩
end Go.Proofs.Mdl
set_option maxRecDepth 100000
namespace Go.Proofs.YtlbebdkockejcaaGreatDoor
open Go.RowKit Go.ChangeShapes Go.WideShapes Go.Proofs.Mdl
set_option linter.unusedVariables false
set_option linter.unusedSimpArgs false
theorem list3 {α : Type} {cs : List α} (h : cs.length = 3) : ∃ c0 c1 c2, cs = [c0, c1, c2] := by
  match cs, h with
  | [c0, c1, c2], _ => exact ⟨c0, c1, c2, rfl⟩
theorem struct3 {H : Type} {enc : TypeId × Value → H} {P : Program} {w : World} {base : Nat} {spare : Nat → Bool} {held : Bool} {t : TypeId} {f0 f1 f2 : Field} {fuel : Nat} {cs : List Value} {x : DataW H × List MemPlace} (ht : P.underlying t = some (.struct #[f0, f1, f2])) (h : DataW.trod enc P w base spare held fuel t cs = some x) :
    ∃ y0 y1 y2 n, x = (.agg [y0.1, y1.1, y2.1], y0.2 ++ y1.2 ++ y2.2) ∧ DataW.trod enc P w base spare held n f0.type ((cs.drop f0.offset).take (P.cellsOf f0.type)) = some y0 ∧
      DataW.trod enc P w base spare held n f1.type ((cs.drop f1.offset).take (P.cellsOf f1.type)) = some y1 ∧ DataW.trod enc P w base spare held n f2.type ((cs.drop f2.offset).take (P.cellsOf f2.type)) = some y2 := by
  obtain ⟨xs, n, _, rfl, hl, hlen, hf⟩ := DataW.trod_struct ht h
  obtain ⟨y0, y1, y2, rfl⟩ := list3 (by simpa using hlen)
  exact ⟨y0, y1, y2, n, by simp, by simpa using hf 0 f0 rfl, by simpa using hf 1 f1 rfl, by simpa using hf 2 f2 rfl⟩
theorem flatC_get : ∀ (l : List Chg) (t : Nat) (x : Value), (flatC l)[t]? = some x → ∃ c, l[t / 3]? = some c ∧ (cellC c)[t % 3]? = some x
  | [], t, x, h => by simp [flatC] at h
  | e :: r, 0, x, h => ⟨e, rfl, h⟩
  | e :: r, 1, x, h => ⟨e, rfl, h⟩
  | e :: r, 2, x, h => ⟨e, rfl, h⟩
  | e :: r, t + 3, x, h => by
    rw [flatC_cons, List.getElem?_append_right (by simp [cellC])] at h
    rw [show t + 3 - (cellC e).length = t by simp [cellC]] at h
    obtain ⟨c, h1, h2⟩ := flatC_get r t x h
    exact ⟨c, by rw [show (t + 3) / 3 = t / 3 + 1 by omega]; simpa using h1, by rw [show (t + 3) % 3 = t % 3 by omega]; exact h2⟩
set_option maxRecDepth 100000 in
theorem open_chgs {H : Type} {enc : TypeId × Value → H} {W : World} {v : Value} {fuel : Nat} {y : DataW H × List MemPlace} (h : DataW.trod enc Tryz.prog W 0 (fun _ => true) true fuel 28 [v] = some y) : ∃ cs, Cs W v cs := by
  have hC : Tryz.prog.cellsOf 54 = 3 := by kernel_rfl
  have hS : Tryz.prog.cellsOf 9 = 1 := by kernel_rfl
  have hB : Tryz.prog.cellsOf 4 = 1 := by kernel_rfl
  rcases Go.Deep.open_slice Tryz.underlying28 h with ⟨hcs, hx⟩ | ⟨a, len, cap, m, n, D, Pl, hcs, _, hl, hm, hmm, hx, hall⟩
  · simp at hcs
    subst hcs
    exact ⟨[], Cs.nil W⟩
  · simp at hcs
    subst hcs
    simp only [if_true] at hmm
    subst hmm
    have each : ∀ i, i < len → ∃ x : Chg, W.cell? (a.add (i * 3)) = some (.string x.k) ∧ W.cell? (a.add (i * 3 + 1)) = some (.string x.v) ∧ W.cell? (a.add (i * 3 + 2)) = some (.bool x.gone) := by
      intro i hi
      obtain ⟨cs', h1, h2⟩ := hall i (by omega)
      rw [hC] at h1
      obtain ⟨_, hlen, hc⟩ := World.cells?_some h1
      obtain ⟨v0, v1, v2, rfl⟩ := list3 hlen
      obtain ⟨y0, y1, y2, q, _, t0, t1, t2⟩ := struct3 Tryz.underlying54 h2
      simp only [hB, hS, List.drop, List.take] at t0 t1 t2
      obtain ⟨r0, e0, _, _⟩ := DataW.trod_string Tryz.underlying9 t0
      obtain ⟨r1, e1, _, _⟩ := DataW.trod_string Tryz.underlying9 t1
      obtain ⟨r2, e2, _⟩ := DataW.trod_bool Tryz.underlying4 t2
      cases e0; cases e1; cases e2
      refine ⟨⟨r0, r1, r2⟩, ?_, ?_, ?_⟩
      · have := hc 0 (by omega); simpa [Addr.add_add] using this
      · have := hc 1 (by omega); simpa [Addr.add_add] using this
      · have := hc 2 (by omega); simpa [Addr.add_add] using this
    obtain ⟨f, hfx⟩ := Go.Deep.choose_lt (α := Chg) each
    refine ⟨(List.range len).map f, some a, _, by simp; rfl, by simp; exact hl, ?_⟩
    rcases Nat.eq_zero_or_pos len with h0 | h0
    · subst h0; exact .inl rfl
    · have hc0 := (hfx 0 h0).1
      obtain ⟨b, o, rfl⟩ := spot_none (a := a) (by simpa using hc0)
      rw [Addr.add_mid] at hc0
      refine .inr ⟨b, o, rfl, ?_, fun j x hx => ?_⟩
      · rcases Nat.lt_or_ge b W.heap.size with h | h
        · exact h
        · simp [World.cell?, h] at hc0
      · obtain ⟨c, h1, h2⟩ := flatC_get _ j x hx
        have hj : j / 3 < len := by have := (List.getElem?_eq_some_iff.1 h1).1; simpa using this
        rw [List.getElem?_map, List.getElem?_range hj] at h1
        obtain rfl := Option.some.inj h1
        obtain ⟨d0, d1, d2⟩ := hfx (j / 3) hj
        simp only [Addr.add_mid] at d0 d1 d2
        have hm3 : j % 3 < 3 := Nat.mod_lt _ (by decide)
        have hje : j = (j / 3) * 3 + j % 3 := by omega
        generalize j / 3 = q at *
        generalize j % 3 = r at *
        subst hje
        match r, hm3, h2 with
        | 0, _, h2 => cases h2; exact d0
        | 1, _, h2 => cases h2; exact d1
        | 2, _, h2 => cases h2; exact d2
theorem listTwo {α : Type} {cs : List α} (h : cs.length = 2) : ∃ c0 c1, cs = [c0, c1] := by
  match cs, h with
  | [c0, c1], _ => exact ⟨c0, c1, rfl⟩
theorem structTwo {H : Type} {enc : TypeId × Value → H} {P : Program} {w : World} {base : Nat} {spare : Nat → Bool} {held : Bool} {t : TypeId} {f0 f1 : Field} {fuel : Nat} {cs : List Value} {x : DataW H × List MemPlace} (ht : P.underlying t = some (.struct #[f0, f1])) (h : DataW.trod enc P w base spare held fuel t cs = some x) :
    ∃ y0 y1 n, DataW.trod enc P w base spare held n f0.type ((cs.drop f0.offset).take (P.cellsOf f0.type)) = some y0 ∧ DataW.trod enc P w base spare held n f1.type ((cs.drop f1.offset).take (P.cellsOf f1.type)) = some y1 := by
  obtain ⟨xs, n, _, rfl, hl, hlen, hf⟩ := DataW.trod_struct ht h
  obtain ⟨y0, y1, rfl⟩ := listTwo (by simpa using hlen)
  exact ⟨y0, y1, n, by simpa using hf 0 f0 rfl, by simpa using hf 1 f1 rfl⟩
theorem flatE_getA : ∀ (l : List Ent) (t : Nat) (x : Value), (flatE l)[t]? = some x → ∃ c, l[t / 2]? = some c ∧ (cellE c)[t % 2]? = some x
  | [], t, x, h => by simp [flatE] at h
  | e :: r, 0, x, h => ⟨e, rfl, h⟩
  | e :: r, 1, x, h => ⟨e, rfl, h⟩
  | e :: r, t + 2, x, h => by
    rw [flatE_cons, List.getElem?_append_right (by simp [cellE])] at h
    rw [show t + 2 - (cellE e).length = t by simp [cellE]] at h
    obtain ⟨c, h1, h2⟩ := flatE_getA r t x h
    exact ⟨c, by rw [show (t + 2) / 2 = t / 2 + 1 by omega]; simpa using h1, by rw [show (t + 2) % 2 = t % 2 by omega]; exact h2⟩
set_option maxRecDepth 100000 in
theorem open_entsL {H : Type} {enc : TypeId × Value → H} {W : World} {v : Value} {fuel : Nat} {y : DataW H × List MemPlace} (h : DataW.trod enc Tryz.prog W 0 (fun _ => true) true fuel 25 [v] = some y) : ∃ cs : List Ent, Es W v cs ∧ cs.length ≤ maxLen := by
  have hC : Tryz.prog.cellsOf 52 = 2 := by kernel_rfl
  have hS : Tryz.prog.cellsOf 9 = 1 := by kernel_rfl
  rcases Go.Deep.open_slice Tryz.underlying25 h with ⟨hcs, hx⟩ | ⟨a, len, cap, m, n, D, Pl, hcs, _, hl, hm, hmm, hx, hall⟩
  · simp at hcs
    subst hcs
    exact ⟨[], Es.nil W, Nat.zero_le _⟩
  · simp at hcs
    subst hcs
    simp only [if_true] at hmm
    subst hmm
    have each : ∀ i, i < len → ∃ x : Ent, W.cell? (a.add (i * 2)) = some (.string x.k) ∧ W.cell? (a.add (i * 2 + 1)) = some (.string x.v) := by
      intro i hi
      obtain ⟨cs', h1, h2⟩ := hall i (by omega)
      rw [hC] at h1
      obtain ⟨_, hlen, hc⟩ := World.cells?_some h1
      obtain ⟨v0, v1, rfl⟩ := listTwo hlen
      obtain ⟨y0, y1, q, t0, t1⟩ := structTwo Tryz.underlying52 h2
      simp only [hS, List.drop, List.take] at t0 t1
      obtain ⟨r0, e0, _, _⟩ := DataW.trod_string Tryz.underlying9 t0
      obtain ⟨r1, e1, _, _⟩ := DataW.trod_string Tryz.underlying9 t1
      cases e0; cases e1
      refine ⟨⟨r0, r1⟩, ?_, ?_⟩
      · have := hc 0 (by omega); simpa [Addr.add_add] using this
      · have := hc 1 (by omega); simpa [Addr.add_add] using this
    obtain ⟨f, hfx⟩ := Go.Deep.choose_lt (α := Ent) each
    refine ⟨(List.range len).map f, ⟨some a, _, by simp; rfl, by simp; exact hl, ?_⟩, by simp; omega⟩
    rcases Nat.eq_zero_or_pos len with h0 | h0
    · subst h0; exact .inl rfl
    · have hc0 := (hfx 0 h0).1
      obtain ⟨b, o, rfl⟩ := spot_none (a := a) (by simpa using hc0)
      rw [Addr.add_mid] at hc0
      refine .inr ⟨b, o, rfl, ?_, fun j x hx => ?_⟩
      · rcases Nat.lt_or_ge b W.heap.size with h | h
        · exact h
        · simp [World.cell?, h] at hc0
      · obtain ⟨c, h1, h2⟩ := flatE_getA _ j x hx
        have hj : j / 2 < len := by have := (List.getElem?_eq_some_iff.1 h1).1; simpa using this
        rw [List.getElem?_map, List.getElem?_range hj] at h1
        obtain rfl := Option.some.inj h1
        obtain ⟨d0, d1⟩ := hfx (j / 2) hj
        simp only [Addr.add_mid] at d0 d1
        have hm3 : j % 2 < 2 := Nat.mod_lt _ (by decide)
        have hje : j = (j / 2) * 2 + j % 2 := by omega
        generalize j / 2 = q at *
        generalize j % 2 = r at *
        subst hje
        match r, hm3, h2 with
        | 0, _, h2 => cases h2; exact d0
        | 1, _, h2 => cases h2; exact d1
theorem open_ents {H : Type} {enc : TypeId × Value → H} {W : World} {v : Value} {fuel : Nat} {y : DataW H × List MemPlace} (h : DataW.trod enc Tryz.prog W 0 (fun _ => true) true fuel 25 [v] = some y) : ∃ cs, Es W v cs := by
  obtain ⟨cs, h, _⟩ := open_entsL h
  exact ⟨cs, h⟩
theorem arg_ents {H : Type} {enc : TypeId × Value → H} {W : World} {v : Value} {d : DataW H} {p : List MemPlace} (hv : Value.okWide Tryz.prog W .any 0 25 v) (h : DataW.Trod enc Tryz.prog W 0 (fun _ => true) true 25 v d p) :
    ∃ l : List Ent, Es W v l := by
  obtain ⟨a0, len, cap, rfl⟩ := okWide_slice Tryz.underlying25 hv
  obtain ⟨fuel, hf⟩ := h
  exact open_ents hf
theorem arg_chgs {H : Type} {enc : TypeId × Value → H} {W : World} {v : Value} {d : DataW H} {p : List MemPlace} (hv : Value.okWide Tryz.prog W .any 0 28 v) (h : DataW.Trod enc Tryz.prog W 0 (fun _ => true) true 28 v d p) :
    ∃ l : List Chg, Cs W v l := by
  obtain ⟨a0, len, cap, rfl⟩ := okWide_slice Tryz.underlying28 hv
  obtain ⟨fuel, hf⟩ := h
  exact open_chgs hf
/-- Entries that are handed in, no matter how many. -/
def EsM (W : World) (v : Value) (l : List Ent) : Prop := Es W v l ∧ l.length ≤ 9223372036854775807
theorem arg_entsM {H : Type} {enc : TypeId × Value → H} {W : World} {v : Value} {d : DataW H} {p : List MemPlace} (hv : Value.okWide Tryz.prog W .any 0 25 v) (h : DataW.Trod enc Tryz.prog W 0 (fun _ => true) true 25 v d p) :
    ∃ l : List Ent, EsM W v l := by
  obtain ⟨a0, len, cap, rfl⟩ := okWide_slice Tryz.underlying25 hv
  obtain ⟨fuel, hf⟩ := h
  obtain ⟨l, h1, h2⟩ := open_entsL hf
  exact ⟨l, h1, Nat.le_trans h2 (by decide)⟩
/-- An entry that is handed in. -/
def EnV (W : World) (v : Value) (x : Ent) : Prop := v = .agg #[.string x.k, .string x.v]
theorem arg_ent {H : Type} {enc : TypeId × Value → H} {W : World} {v : Value} {d : DataW H} {p : List MemPlace} (hv : Value.okWide Tryz.prog W .any 0 52 v) (h : DataW.Trod enc Tryz.prog W 0 (fun _ => true) true 52 v d p) :
    ∃ x : Ent, EnV W v x := by
  obtain ⟨cs, rfl, hsz⟩ := okWide_struct Tryz.underlying52 hv
  obtain ⟨fuel, hf⟩ := h
  have hC : Tryz.prog.cellsOf 52 = 2 := by kernel_rfl
  have hS : Tryz.prog.cellsOf 9 = 1 := by kernel_rfl
  obtain ⟨l⟩ := cs
  obtain ⟨v0, v1, rfl⟩ := listTwo (show l.length = 2 from hsz.trans hC)
  have hf' : DataW.trod enc Tryz.prog W 0 (fun _ => true) true fuel 52 [v0, v1] = some (d, p) := hf
  obtain ⟨y0, y1, q, t0, t1⟩ := structTwo Tryz.underlying52 hf'
  simp only [hS, List.drop, List.take] at t0 t1
  obtain ⟨r0, e0, _, _⟩ := DataW.trod_string Tryz.underlying9 t0
  obtain ⟨r1, e1, _, _⟩ := DataW.trod_string Tryz.underlying9 t1
  cases e0; cases e1
  exact ⟨⟨r0, r1⟩, rfl⟩
end Go.Proofs.YtlbebdkockejcaaGreatDoor
