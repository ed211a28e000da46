/-
  Package frame: a reader in memory.
-/
import Derived.Test.YtlbebdkockejcaaDoorFrmPlain
import Derived.Test.YtlbebdkockejcaaDoorGaItems
import Derived.Test.YtlbebdkockejcaaDoorGaFar
import Derived.Test.YtlbebdkockejcaaDoorRowK
import Derived.Test.YtlbebdkockejcaaDoorGaRun
namespace Go.Proofs.YtlbebdkockejcaaDoor
open Go.RowKit Go.Proofs.Frm
set_option linter.unusedVariables false
set_option linter.unusedSimpArgs false
/-- What is wrong, as a reader keeps it. -/
def Er (e : Value) (bad : Bool) : Prop := (bad = false ∧ e = .nilIface) ∨ (bad = true ∧ ∃ s : ByteArray, e = .iface 121 (.agg #[.string s, .int .i64 2]))
theorem Er.fault (s : ByteArray) : Er (.iface 121 (.agg #[.string s, .int .i64 2])) true := .inr ⟨rfl, s, rfl⟩
/-- What a slice of texts shows. -/
def Ss (w : World) (v : Value) (l : List ByteArray) : Prop := ∃ A c, v = .slice A l.length c ∧ l.length ≤ c ∧ Vs w A (l.map Value.string)
section
variable {w w' : World} {v : Value} {l : List ByteArray}
theorem Ss.nil (w : World) : Ss w (.slice none 0 0) [] := ⟨none, 0, rfl, Nat.le_refl _, .inl rfl⟩
theorem Ss.of_own {base : Nat} {T : TypeId} (h : w.ownsRow base T 1 v l.length (l.map Value.string)) : Ss w v l := Vs.of_own h (by simp)
theorem Ss.far {S : Nat → Prop} (h : Ss w v l) (F : Far S w w') (hS : ∀ i, v.ownBlock = some i → ¬ S i) : Ss w' v l := by
  obtain ⟨A, c, rfl, h2, h3⟩ := h
  refine ⟨A, c, rfl, h2, ?_⟩
  rcases h3 with h | ⟨b, o, rfl, hb, hc⟩
  · exact .inl h
  · refine .inr ⟨b, o, rfl, Nat.lt_of_lt_of_le hb F.size, fun j x hx => ?_⟩
    rw [← hc j x hx]
    unfold World.cell?
    rw [F.block b hb (hS b rfl)]
theorem Ss.below (h : Ss w v l) (F : Below w.heap.size w w') : Ss w' v l := h.far (far_of_below F) (fun _ _ e => e)
theorem Ss.at_ (h : Ss w v l) {k : Nat} {x : ByteArray} (hk : l[k]? = some x) : ∃ b o c, v = .slice (some ⟨b, o, none⟩) l.length c ∧ b < w.heap.size ∧ w.cell? ⟨b, o + k, none⟩ = some (.string x) := by
  obtain ⟨A, c, rfl, h2, h3⟩ := h
  have hk' : (l.map Value.string)[k]? = some (.string x) := by rw [List.getElem?_map, hk]; rfl
  obtain ⟨b, o, rfl, hb, hc⟩ := h3.at_ _ _ hk'
  exact ⟨b, o, c, rfl, hb, hc _ _ hk'⟩
end
theorem Laid2.far {S : Nat → Prop} {w w' : World} (h : Laid2 w) (F : Far S w w') (hS : ¬ S 0) : Laid2 w' := by
  have hl := h.lt
  unfold Laid2 at *
  rw [← h]
  unfold World.cell?
  rw [F.block _ hl hS]
theorem split_ok {s : ByteArray} {w : World} (hs : s.size ≤ 70368744177664) (hl : Laid2 w) {l : Bool} {f n : Nat} (h : Rlp.first s.data.toList = .ok (l, f, n)) :
    Calls Tryd.prog 61 #[.string s] w fun e w' => e = .returned (.tuple #[.bool l, .string (s.extract f (f + n)), .string (s.extract (f + n) s.size), .int .i64 0]) ∧ Below w.heap.size w w' := by
  have := split_any s w hs hl
  rw [h] at this
  exact this
theorem split_err {s : ByteArray} {w : World} (hs : s.size ≤ 70368744177664) (hl : Laid2 w) {n : Nat} (h : Rlp.first s.data.toList = .error n) :
    Calls Tryd.prog 61 #[.string s] w fun e w' => e = .returned (.tuple #[.bool false, .string ByteArray.empty, .string ByteArray.empty, .int .i64 2]) ∧ Below w.heap.size w w' := by
  have := split_any s w hs hl
  rw [h] at this
  exact this
/-- A reader in block b: its items lie in a block below M. -/
def Rm (M : Nat) (w : World) (b : Nat) (r : Rd) : Prop :=
  ∃ v e, Blk w b 92 #[v, e] ∧ Ss w v r.items ∧ (∀ i, v.ownBlock = some i → i < M ∧ i ≠ b) ∧ b < M ∧ Er e r.bad ∧ (∀ x ∈ r.items, x.size ≤ 999999) ∧ r.items.length ≤ 999999
section
variable {M M' b : Nat} {w w' : World} {r : Rd}
theorem Rm.lt (h : Rm M w b r) : b < w.heap.size := by
  obtain ⟨v, e, h1, _⟩ := h
  exact h1.lt
theorem Rm.ltM (h : Rm M w b r) : b < M := by
  obtain ⟨v, e, h1, _, _, h4, _⟩ := h
  exact h4
theorem Rm.far {S : Nat → Prop} (h : Rm M w b r) (F : Far S w w') (hb : ¬ S b) (hS : ∀ i, i < M → i ≠ b → ¬ S i) : Rm M w' b r := by
  obtain ⟨v, e, h1, h2, h3, h4, h5⟩ := h
  exact ⟨v, e, h1.far F hb, h2.far F (fun i hi => hS i (h3 i hi).1 (h3 i hi).2), h3, h4, h5⟩
theorem Rm.below (h : Rm M w b r) (F : Below w.heap.size w w') : Rm M w' b r := h.far (far_of_below F) (fun e => e) (fun _ _ _ e => e)
theorem Rm.mono (h : Rm M w b r) (hM : M ≤ M') : Rm M' w b r := by
  obtain ⟨v, e, h1, h2, h3, h4, h5⟩ := h
  exact ⟨v, e, h1, h2, fun i hi => ⟨Nat.lt_of_lt_of_le (h3 i hi).1 hM, (h3 i hi).2⟩, Nat.lt_of_lt_of_le h4 hM, h5⟩
theorem set_far (w : World) (b c : Nat) (u : Value) : Far (fun i => i = b) w (w.setCell ⟨b, c, none⟩ u) := Far.setCell (S := fun i => i = b) (Far.refl _ w) (p := ⟨b, c, none⟩) (fun _ => rfl) u
/-- What is wrong is kept. -/
theorem Rm.err (h : Rm M w b r) {e : Value} {bad : Bool} (he : Er e bad) : Rm M (w.setCell ⟨b, 1, none⟩ e) b ⟨r.items, bad⟩ := by
  obtain ⟨v, e', h1, h2, h3, h4, h5, h6⟩ := h
  exact ⟨v, e, h1.set 1 e, h2.far (set_far w b 1 e) (fun i hi e => (h3 i hi).2 e), h3, h4, he, h6⟩
/-- The first item is read. -/
theorem Rm.step {x : ByteArray} {t : List ByteArray} {bad : Bool} (h : Rm M w b ⟨x :: t, bad⟩) {bk o c : Nat} (hv : w.cell? ⟨b, 0, none⟩ = some (.slice (some ⟨bk, o, none⟩) (t.length + 1) c)) {vn : Value}
    (hvn : vn = .slice (if c = 1 then some ⟨bk, o, none⟩ else some ⟨bk, o + 1, none⟩) (t.length + 1 - 1) (c - 1)) :
    Rm M (w.setCell ⟨b, 0, none⟩ vn) b ⟨t, bad⟩ := by
  obtain ⟨v, e', h1, h2, h3, h4, h5, h6, h7⟩ := h
  have c0 := h1.cell 0
  simp only [List.getElem?_toArray, List.getElem?_cons_zero] at c0
  obtain rfl := Option.some.inj (c0.symm.trans hv)
  have hb := h3 bk rfl
  have h2' := h2.far (set_far w b 0 vn) (fun i hi e => (h3 i hi).2 e)
  refine ⟨_, e', h1.set 0 _, ?_, ?_, h4, h5, fun y hy => h6 y (List.mem_cons_of_mem _ hy), by simp only [List.length_cons] at h7 ⊢; omega⟩
  · obtain ⟨A, c', e, hc, hV⟩ := h2'
    simp only [List.length_cons, Value.slice.injEq, true_and] at e
    obtain ⟨rfl, rfl⟩ := e
    simp only [List.length_cons] at hc
    rcases t with _ | ⟨y, t⟩
    · exact ⟨_, _, hvn, Nat.zero_le _, .inl rfl⟩
    · simp only [List.length_cons] at hc
      rw [if_neg (by omega)] at hvn
      refine ⟨_, _, hvn, by simp only [List.length_cons]; omega, ?_⟩
      rcases hV with hV | ⟨b', o', e, hb', hcell⟩
      · cases hV
      · simp only [Option.some.injEq, Addr.mk.injEq, and_true] at e
        obtain ⟨rfl, rfl⟩ := e
        refine .inr ⟨bk, o + 1, rfl, hb', fun j z hz => ?_⟩
        have := hcell (j + 1) z (by simpa using hz)
        rw [← this]
        congr 2
        omega
  · intro i hi
    have : i = bk := by
      rw [hvn] at hi
      split at hi <;> (simp [Value.ownBlock] at hi; exact hi.symm)
    rw [this]
    exact hb
end
set_option maxRecDepth 100000 in
set_option maxHeartbeats 1000000 in
/-- fail. -/
theorem fail_any {M b : Nat} {r : Rd} {w : World} (h : Rm M w b r) (s : ByteArray) :
    Calls Tryd.prog 46 #[.pointer (some ⟨b, 0, none⟩), .string s] w fun e w' => e = .returned (.tuple #[]) ∧ Rm M w' b ⟨r.items, true⟩ ∧ Far (fun i => i = b) w w' := by
  have HL := Lib.hid h
  obtain ⟨v, e, h1, -⟩ := h
  have c1 := h1.cell 1
  have f1 := h1.frozen 1
  simp only [List.getElem?_toArray, List.getElem?_cons_succ, List.getElem?_cons_zero] at c1
  clear h1
  go_enter Tryd.func46, Tryd.ntmps46
  go_wp2_with fail
  go_returns
  exact ⟨rfl, HL.out.err (Er.fault s), set_far _ _ _ _⟩
set_option maxRecDepth 100000 in
set_option maxHeartbeats 1000000 in
/-- next. -/
theorem next_any {M b : Nat} {r : Rd} {w : World} (h : Rm M w b r) :
    Calls Tryd.prog 64 #[.pointer (some ⟨b, 0, none⟩)] w fun e w' => e = .returned (.string (Frm.next r).1) ∧ Rm M w' b (Frm.next r).2 ∧ Far (fun i => i = b) w w' := by
  have HL := Lib.hid h
  have FA := Lib.hid (fail_any h)
  obtain ⟨v, e, h1, h2, h3, h4, h5, h6, h7⟩ := h
  have c0 := h1.cell 0
  have f0 := h1.frozen 0
  simp only [List.getElem?_toArray, List.getElem?_cons_succ, List.getElem?_cons_zero] at c0
  obtain ⟨A, c, rfl, hc, hA⟩ := h2
  rcases r with ⟨items, bad⟩
  simp only at c0 hA h5 h6 h7 HL FA h3
  rcases items with _ | ⟨x, t⟩
  · simp only [List.length_nil] at c0
    clear h1 h3 hA hc h6 h7
    go_enter Tryd.func64, Tryd.ntmps64
    go_wp2_with (first
      | (go_at_call 46; refine (FA.out _).mono ?_; rintro e w1 ⟨rfl, hr, hf⟩; have R1 := Lib.hid hr; have F1 := Lib.hid hf; clear hr hf))
    go_ret
    exact ⟨rfl, R1.out, F1.out⟩
  · rcases hA with hA | ⟨bk, o, rfl, hbk, hcell⟩
    · cases hA
    simp only [List.length_cons] at c0
    have cx := hcell 0 (.string x) rfl
    rw [Nat.add_zero] at cx
    obtain ⟨An, nn, cn, hvn⟩ : ∃ An nn cn, Value.slice An nn cn = Value.slice (if c = 1 then some ⟨bk, o, none⟩ else some ⟨bk, o + 1, none⟩) (t.length + 1 - 1) (c - 1) := ⟨_, _, _, rfl⟩
    have SL : ∀ W : World, (Instr.slice 67 (.slice (some ⟨bk, o, none⟩) (t.length + 1) c) (some (.int .i64 1)) none none).run Tryd.prog W = .ok (.slice An nn cn) W := fun W => by
      rw [hvn]
      exact slice_low bk o (t.length + 1) c 1 (by omega) W
    have ST := Lib.hid (HL.out.step c0 hvn)
    clear h1 hcell h3 hc hvn hbk h7 h6
    have hpos : ¬ ((t.length : Int) + 1 = 0) := by omega
    go_enter Tryd.func64, Tryd.ntmps64
    go_wp2_with fail
    go_ret
    exact ⟨rfl, ST.out, set_far _ _ _ _⟩
end Go.Proofs.YtlbebdkockejcaaDoor
