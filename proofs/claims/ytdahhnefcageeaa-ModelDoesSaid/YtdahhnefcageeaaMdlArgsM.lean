/-
  A law's model, and act, opened.
-/
import Derived.Test.YtdahhnefcageeaaGaMdR5
namespace Go.Proofs.Mdl
instance : Inhabited Ent := ⟨⟨e0, e0⟩⟩
instance : Inhabited Ver := ⟨⟨0, [], [], 0⟩⟩
end Go.Proofs.Mdl
namespace Go.Proofs.Ytdahhnefcageeaa
open Go.RowKit Go.ChangeShapes Go.WideShapes Go.Proofs.Mdl
set_option linter.unusedVariables false
set_option linter.unusedSimpArgs false
theorem listTwo {α : Type} {cs : List α} (h : cs.length = 2) : ∃ c0 c1, cs = [c0, c1] := by
  match cs, h with
  | [c0, c1], _ => exact ⟨c0, c1, rfl⟩
theorem listFour {α : Type} {cs : List α} (h : cs.length = 4) : ∃ c0 c1 c2 c3, cs = [c0, c1, c2, c3] := by
  match cs, h with
  | [c0, c1, c2, c3], _ => exact ⟨c0, c1, c2, c3, rfl⟩
theorem structTwo {H : Type} {enc : TypeId × Value → H} {P : Program} {w : World} {base : Nat} {spare : Nat → Bool} {held : Bool} {t : TypeId} {f0 f1 : Field} {fuel : Nat} {cs : List Value} {x : DataW H × List MemPlace} (ht : P.underlying t = some (.struct #[f0, f1])) (h : DataW.trod enc P w base spare held fuel t cs = some x) :
    ∃ y0 y1 n, DataW.trod enc P w base spare held n f0.type ((cs.drop f0.offset).take (P.cellsOf f0.type)) = some y0 ∧ DataW.trod enc P w base spare held n f1.type ((cs.drop f1.offset).take (P.cellsOf f1.type)) = some y1 := by
  obtain ⟨xs, n, _, rfl, hl, hlen, hf⟩ := DataW.trod_struct ht h
  obtain ⟨y0, y1, rfl⟩ := listTwo (by simpa using hlen)
  exact ⟨y0, y1, n, by simpa using hf 0 f0 rfl, by simpa using hf 1 f1 rfl⟩
theorem structFour {H : Type} {enc : TypeId × Value → H} {P : Program} {w : World} {base : Nat} {spare : Nat → Bool} {held : Bool} {t : TypeId} {f0 f1 f2 f3 : Field} {fuel : Nat} {cs : List Value} {x : DataW H × List MemPlace} (ht : P.underlying t = some (.struct #[f0, f1, f2, f3])) (h : DataW.trod enc P w base spare held fuel t cs = some x) :
    ∃ y0 y1 y2 y3 n, DataW.trod enc P w base spare held n f0.type ((cs.drop f0.offset).take (P.cellsOf f0.type)) = some y0 ∧ DataW.trod enc P w base spare held n f1.type ((cs.drop f1.offset).take (P.cellsOf f1.type)) = some y1 ∧
      DataW.trod enc P w base spare held n f2.type ((cs.drop f2.offset).take (P.cellsOf f2.type)) = some y2 ∧ DataW.trod enc P w base spare held n f3.type ((cs.drop f3.offset).take (P.cellsOf f3.type)) = some y3 := by
  obtain ⟨xs, n, _, rfl, hl, hlen, hf⟩ := DataW.trod_struct ht h
  obtain ⟨y0, y1, y2, y3, rfl⟩ := listFour (by simpa using hlen)
  exact ⟨y0, y1, y2, y3, n, by simpa using hf 0 f0 rfl, by simpa using hf 1 f1 rfl, by simpa using hf 2 f2 rfl, by simpa using hf 3 f3 rfl⟩
theorem flatE_getA : ∀ (l : List Ent) (t : Nat) (x : Value), (flatE l)[t]? = some x → ∃ c, l[t / 2]? = some c ∧ (cellE c)[t % 2]? = some x
  | [], t, x, h => by simp [flatE] at h
  | e :: r, 0, x, h => ⟨e, rfl, h⟩
  | e :: r, 1, x, h => ⟨e, rfl, h⟩
  | e :: r, t + 2, x, h => by
    rw [flatE_cons, List.getElem?_append_right (by simp [cellE])] at h
    rw [show t + 2 - (cellE e).length = t by simp [cellE]] at h
    obtain ⟨c, h1, h2⟩ := flatE_getA r t x h
    exact ⟨c, by rw [show (t + 2) / 2 = t / 2 + 1 by omega]; simpa using h1, by rw [show (t + 2) % 2 = t % 2 by omega]; exact h2⟩
theorem flatR_getA : ∀ (l : List Raw) (t : Nat) (x : Value), (flatR l)[t]? = some x → ∃ c, l[t / 4]? = some c ∧ (cellR c)[t % 4]? = some x
  | [], t, x, h => by simp [flatR] at h
  | e :: r, 0, x, h => ⟨e, rfl, h⟩
  | e :: r, 1, x, h => ⟨e, rfl, h⟩
  | e :: r, 2, x, h => ⟨e, rfl, h⟩
  | e :: r, 3, x, h => ⟨e, rfl, h⟩
  | e :: r, t + 4, x, h => by
    rw [flatR_cons, List.getElem?_append_right (by simp [cellR])] at h
    rw [show t + 4 - (cellR e).length = t by simp [cellR]] at h
    obtain ⟨c, h1, h2⟩ := flatR_getA r t x h
    exact ⟨c, by rw [show (t + 4) / 4 = t / 4 + 1 by omega]; simpa using h1, by rw [show (t + 4) % 4 = t % 4 by omega]; exact h2⟩
set_option maxRecDepth 100000 in
theorem open_ents {H : Type} {enc : TypeId × Value → H} {W : World} {v : Value} {fuel : Nat} {y : DataW H × List MemPlace} (h : DataW.trod enc Try.prog W 0 (fun _ => true) true fuel 43 [v] = some y) : ∃ cs, Es W v cs := by
  have hC : Try.prog.cellsOf 84 = 2 := by kernel_rfl
  have hS : Try.prog.cellsOf 9 = 1 := by kernel_rfl
  rcases Go.Deep.open_slice Try.underlying43 h with ⟨hcs, hx⟩ | ⟨a, len, cap, m, n, D, Pl, hcs, _, hl, hm, hmm, hx, hall⟩
  · simp at hcs
    subst hcs
    exact ⟨[], Es.nil W⟩
  · simp at hcs
    subst hcs
    simp only [if_true] at hmm
    subst hmm
    have each : ∀ i, i < len → ∃ x : Ent, W.cell? (a.add (i * 2)) = some (.string x.k) ∧ W.cell? (a.add (i * 2 + 1)) = some (.string x.v) := by
      intro i hi
      obtain ⟨cs', h1, h2⟩ := hall i (by omega)
      rw [hC] at h1
      obtain ⟨_, hlen, hc⟩ := World.cells?_some h1
      obtain ⟨v0, v1, rfl⟩ := listTwo hlen
      obtain ⟨y0, y1, q, t0, t1⟩ := structTwo Try.underlying84 h2
      simp only [hS, List.drop, List.take] at t0 t1
      obtain ⟨r0, e0, _, _⟩ := DataW.trod_string Try.underlying9 t0
      obtain ⟨r1, e1, _, _⟩ := DataW.trod_string Try.underlying9 t1
      cases e0; cases e1
      refine ⟨⟨r0, r1⟩, ?_, ?_⟩
      · have := hc 0 (by omega); simpa [Addr.add_add] using this
      · have := hc 1 (by omega); simpa [Addr.add_add] using this
    obtain ⟨f, hfx⟩ := Go.Deep.choose_lt (α := Ent) each
    refine ⟨(List.range len).map f, some a, _, by simp; rfl, by simp; exact hl, ?_⟩
    rcases Nat.eq_zero_or_pos len with h0 | h0
    · subst h0; exact .inl rfl
    · have hc0 := (hfx 0 h0).1
      obtain ⟨b, o, rfl⟩ := spot_none (a := a) (by simpa using hc0)
      rw [Addr.add_mid] at hc0
      refine .inr ⟨b, o, rfl, ?_, fun j x hx => ?_⟩
      · rcases Nat.lt_or_ge b W.heap.size with h | h
        · exact h
        · simp [World.cell?, h] at hc0
      · obtain ⟨c, h1, h2⟩ := flatE_getA _ j x hx
        have hj : j / 2 < len := by have := (List.getElem?_eq_some_iff.1 h1).1; simpa using this
        rw [List.getElem?_map, List.getElem?_range hj] at h1
        obtain rfl := Option.some.inj h1
        obtain ⟨d0, d1⟩ := hfx (j / 2) hj
        simp only [Addr.add_mid] at d0 d1
        have hm3 : j % 2 < 2 := Nat.mod_lt _ (by decide)
        have hje : j = (j / 2) * 2 + j % 2 := by omega
        generalize j / 2 = q at *
        generalize j % 2 = r at *
        subst hje
        match r, hm3, h2 with
        | 0, _, h2 => cases h2; exact d0
        | 1, _, h2 => cases h2; exact d1
theorem open_ents1 {H : Type} {enc : TypeId × Value → H} {W : World} {cs : List Value} {fuel : Nat} {y : DataW H × List MemPlace} (hl : cs.length = 1) (h : DataW.trod enc Try.prog W 0 (fun _ => true) true fuel 43 cs = some y) : ∃ v l, cs = [v] ∧ Es W v l := by
  match cs, hl with
  | [v], _ =>
    obtain ⟨l, hc⟩ := open_ents h
    exact ⟨v, l, rfl, hc⟩
/-- A version, with what its cells tell. -/
structure RV where
  r : Raw
  V : Ver
instance : Inhabited RV := ⟨⟨⟨0, .slice none 0 0, .slice none 0 0, 0⟩, ⟨0, [], [], 0⟩⟩⟩
set_option maxRecDepth 100000 in
theorem open_vers {H : Type} {enc : TypeId × Value → H} {W : World} {v : Value} {fuel : Nat} {y : DataW H × List MemPlace} (h : DataW.trod enc Try.prog W 0 (fun _ => true) true fuel 22 [v] = some y) : ∃ L, Vl (fun _ => True) W v L := by
  have hC : Try.prog.cellsOf 62 = 4 := by kernel_rfl
  have hI : Try.prog.cellsOf 3 = 1 := by kernel_rfl
  have hE : Try.prog.cellsOf 43 = 1 := by kernel_rfl
  have hG : Try.prog.cellsOf 25 = 1 := by kernel_rfl
  rcases Go.Deep.open_slice Try.underlying22 h with ⟨hcs, hx⟩ | ⟨a, len, cap, m, n, D, Pl, hcs, _, hl, hm, hmm, hx, hall⟩
  · simp at hcs
    subst hcs
    exact ⟨[], none, 0, [], rfl, Nat.le_refl _, .inl rfl, Rv.nil⟩
  · simp at hcs
    subst hcs
    simp only [if_true] at hmm
    subst hmm
    have each : ∀ i, i < len → ∃ x : RV, W.cell? (a.add (i * 4)) = some (.int .i64 x.r.b) ∧ W.cell? (a.add (i * 4 + 1)) = some x.r.e ∧ W.cell? (a.add (i * 4 + 2)) = some x.r.c ∧ W.cell? (a.add (i * 4 + 3)) = some (.int .i64 x.r.p) ∧ Sh (fun _ => True) W x.r x.V := by
      intro i hi
      obtain ⟨cs', h1, h2⟩ := hall i (by omega)
      rw [hC] at h1
      obtain ⟨_, hlen, hc⟩ := World.cells?_some h1
      obtain ⟨v0, v1, v2, v3, rfl⟩ := listFour hlen
      obtain ⟨y0, y1, y2, y3, q, t0, t1, t2, t3⟩ := structFour Try.underlying62 h2
      simp only [hI, hE, hG, List.drop, List.take] at t0 t1 t2 t3
      obtain ⟨r0, e0, _, _⟩ := DataW.trod_int Try.underlying3 t0
      obtain ⟨es, hes⟩ := open_ents t1
      obtain ⟨cs, hcs⟩ := open_chgs t2
      obtain ⟨r3, e3, _, _⟩ := DataW.trod_int Try.underlying3 t3
      cases e0; cases e3
      refine ⟨⟨⟨r0, v1, v2, r3⟩, ⟨r0, es, cs, r3⟩⟩, ?_, ?_, ?_, ?_, ⟨rfl, rfl, hes.all, hcs.all⟩⟩
      · have := hc 0 (by omega); simpa [Addr.add_add] using this
      · have := hc 1 (by omega); simpa [Addr.add_add] using this
      · have := hc 2 (by omega); simpa [Addr.add_add] using this
      · have := hc 3 (by omega); simpa [Addr.add_add] using this
    obtain ⟨f, hfx⟩ := Go.Deep.choose_lt (α := RV) each
    have hRv : Rv (fun _ => True) W ((List.range len).map (fun i => (f i).r)) ((List.range len).map (fun i => (f i).V)) := by
      refine ⟨by simp, fun j r V h1 h2 => ?_⟩
      have hj : j < len := by have := (List.getElem?_eq_some_iff.1 h1).1; simpa using this
      rw [List.getElem?_map, List.getElem?_range hj] at h1 h2
      obtain rfl := Option.some.inj h1
      obtain rfl := Option.some.inj h2
      exact (hfx j hj).2.2.2.2
    refine ⟨(List.range len).map (fun i => (f i).V), some a, _, (List.range len).map (fun i => (f i).r), by simp; rfl, by simp; exact hl, ?_, hRv⟩
    rcases Nat.eq_zero_or_pos len with h0 | h0
    · subst h0; exact .inl rfl
    · have hc0 := (hfx 0 h0).1
      obtain ⟨b, o, rfl⟩ := spot_none (a := a) (by simpa using hc0)
      rw [Addr.add_mid] at hc0
      refine .inr ⟨b, o, rfl, trivial, ?_, fun j x hx => ?_⟩
      · rcases Nat.lt_or_ge b W.heap.size with h | h
        · exact h
        · simp [World.cell?, h] at hc0
      · obtain ⟨c, h1, h2⟩ := flatR_getA _ j x hx
        have hj : j / 4 < len := by have := (List.getElem?_eq_some_iff.1 h1).1; simpa using this
        rw [List.getElem?_map, List.getElem?_range hj] at h1
        obtain rfl := Option.some.inj h1
        obtain ⟨d0, d1, d2, d3, _⟩ := hfx (j / 4) hj
        simp only [Addr.add_mid] at d0 d1 d2 d3
        have hm3 : j % 4 < 4 := Nat.mod_lt _ (by decide)
        have hje : j = (j / 4) * 4 + j % 4 := by omega
        generalize j / 4 = q at *
        generalize j % 4 = r at *
        subst hje
        match r, hm3, h2 with
        | 0, _, h2 => cases h2; exact d0
        | 1, _, h2 => cases h2; exact d1
        | 2, _, h2 => cases h2; exact d2
        | 3, _, h2 => cases h2; exact d3
set_option maxRecDepth 100000 in
theorem arg_model {H : Type} {enc : TypeId × Value → H} {W : World} {v : Value} {d : DataW H} {p : List MemPlace} (hv : Value.okWide Try.prog W .any 0 24 v) (h : DataW.Trod enc Try.prog W 0 (fun _ => true) true 24 v d p) :
    ∃ M : Mod, Md (fun _ => True) W v M := by
  obtain ⟨cs, rfl, hsz⟩ := okWide_struct Try.underlying24 hv
  obtain ⟨fuel, hf⟩ := h
  have hC : Try.prog.cellsOf 24 = 3 := by kernel_rfl
  have hI : Try.prog.cellsOf 3 = 1 := by kernel_rfl
  have hS : Try.prog.cellsOf 22 = 1 := by kernel_rfl
  obtain ⟨l⟩ := cs
  obtain ⟨v0, v1, v2, rfl⟩ := list3 (show l.length = 3 from hsz.trans hC)
  have hf' : DataW.trod enc Try.prog W 0 (fun _ => true) true fuel 24 [v0, v1, v2] = some (d, p) := hf
  obtain ⟨y0, y1, y2, q, hx, t0, t1, t2⟩ := struct3 Try.underlying24 hf'
  simp only [hI, hS, List.drop, List.take] at t0 t1 t2
  obtain ⟨k, e0, _, _⟩ := DataW.trod_int Try.underlying3 t0
  obtain ⟨s, e1, _, _⟩ := DataW.trod_int Try.underlying3 t1
  obtain ⟨L, hL⟩ := open_vers t2
  cases e0; cases e1
  exact ⟨⟨k, s, L⟩, v2, rfl, hL⟩
/-- An act that is handed in. -/
def AcV (W : World) (v : Value) (a : Mdl.Act) : Prop := ∃ vc, v = .agg #[.int .i64 a.k, vc, .int .i64 a.n] ∧ Cs W vc a.c
set_option maxRecDepth 100000 in
theorem arg_act {H : Type} {enc : TypeId × Value → H} {W : World} {v : Value} {d : DataW H} {p : List MemPlace} (hv : Value.okWide Try.prog W .any 0 27 v) (h : DataW.Trod enc Try.prog W 0 (fun _ => true) true 27 v d p) :
    ∃ a : Mdl.Act, AcV W v a := by
  obtain ⟨cs, rfl, hsz⟩ := okWide_struct Try.underlying27 hv
  obtain ⟨fuel, hf⟩ := h
  have hC : Try.prog.cellsOf 27 = 3 := by kernel_rfl
  have hI : Try.prog.cellsOf 3 = 1 := by kernel_rfl
  have hS : Try.prog.cellsOf 25 = 1 := by kernel_rfl
  obtain ⟨l⟩ := cs
  obtain ⟨v0, v1, v2, rfl⟩ := list3 (show l.length = 3 from hsz.trans hC)
  have hf' : DataW.trod enc Try.prog W 0 (fun _ => true) true fuel 27 [v0, v1, v2] = some (d, p) := hf
  obtain ⟨y0, y1, y2, q, hx, t0, t1, t2⟩ := struct3 Try.underlying27 hf'
  simp only [hI, hS, List.drop, List.take] at t0 t1 t2
  obtain ⟨k, e0, _, _⟩ := DataW.trod_int Try.underlying3 t0
  obtain ⟨cs, hcs⟩ := open_chgs t1
  obtain ⟨s, e1, _, _⟩ := DataW.trod_int Try.underlying3 t2
  cases e0; cases e1
  exact ⟨⟨k, cs, s⟩, v1, rfl, hcs⟩
end Go.Proofs.Ytdahhnefcageeaa
