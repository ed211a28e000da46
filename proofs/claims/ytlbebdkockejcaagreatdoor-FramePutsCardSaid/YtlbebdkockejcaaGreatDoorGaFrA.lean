/-
  Merged: FrmSt, FrmRd, FrmNew.
-/
import Derived.Test.YtlbebdkockejcaaGreatDoorFrmPlain
import Derived.Test.YtlbebdkockejcaaGreatDoorGaItems
import Derived.Test.YtlbebdkockejcaaGreatDoorGaFar
import Derived.Test.YtlbebdkockejcaaGreatDoorRowK
import Derived.Test.YtlbebdkockejcaaGreatDoorGaRun
import Derived.Test.YtlbebdkockejcaaGreatDoorGaMore
namespace Go.Proofs.YtlbebdkockejcaaGreatDoor
open Go.RowKit Go.Proofs.Frm
set_option linter.unusedVariables false
set_option linter.unusedSimpArgs false
/-- What is wrong, as a reader keeps it. -/
def Er (e : Value) (bad : Bool) : Prop := (bad = false ∧ e = .nilIface) ∨ (bad = true ∧ ∃ s : ByteArray, e = .iface 121 (.agg #[.string s, .int .i64 2]))
theorem Er.fault (s : ByteArray) : Er (.iface 121 (.agg #[.string s, .int .i64 2])) true := .inr ⟨rfl, s, rfl⟩
/-- What a slice of texts shows. -/
def Ss (w : World) (v : Value) (l : List ByteArray) : Prop := ∃ A c, v = .slice A l.length c ∧ l.length ≤ c ∧ Vs w A (l.map Value.string)
section
variable {w w' : World} {v : Value} {l : List ByteArray}
theorem Ss.nil (w : World) : Ss w (.slice none 0 0) [] := ⟨none, 0, rfl, Nat.le_refl _, .inl rfl⟩
theorem Ss.of_own {base : Nat} {T : TypeId} (h : w.ownsRow base T 1 v l.length (l.map Value.string)) : Ss w v l := Vs.of_own h (by simp)
theorem Ss.far {S : Nat → Prop} (h : Ss w v l) (F : Far S w w') (hS : ∀ i, v.ownBlock = some i → ¬ S i) : Ss w' v l := by
  obtain ⟨A, c, rfl, h2, h3⟩ := h
  refine ⟨A, c, rfl, h2, ?_⟩
  rcases h3 with h | ⟨b, o, rfl, hb, hc⟩
  · exact .inl h
  · refine .inr ⟨b, o, rfl, Nat.lt_of_lt_of_le hb F.size, fun j x hx => ?_⟩
    rw [← hc j x hx]
    unfold World.cell?
    rw [F.block b hb (hS b rfl)]
theorem Ss.below (h : Ss w v l) (F : Below w.heap.size w w') : Ss w' v l := h.far (far_of_below F) (fun _ _ e => e)
theorem Ss.at_ (h : Ss w v l) {k : Nat} {x : ByteArray} (hk : l[k]? = some x) : ∃ b o c, v = .slice (some ⟨b, o, none⟩) l.length c ∧ b < w.heap.size ∧ w.cell? ⟨b, o + k, none⟩ = some (.string x) := by
  obtain ⟨A, c, rfl, h2, h3⟩ := h
  have hk' : (l.map Value.string)[k]? = some (.string x) := by rw [List.getElem?_map, hk]; rfl
  obtain ⟨b, o, rfl, hb, hc⟩ := h3.at_ _ _ hk'
  exact ⟨b, o, c, rfl, hb, hc _ _ hk'⟩
end
theorem Laid2.far {S : Nat → Prop} {w w' : World} (h : Laid2 w) (F : Far S w w') (hS : ¬ S 0) : Laid2 w' := by
  have hl := h.lt
  unfold Laid2 at *
  rw [← h]
  unfold World.cell?
  rw [F.block _ hl hS]
theorem split_ok {s : ByteArray} {w : World} (hs : s.size ≤ 70368744177664) (hl : Laid2 w) {l : Bool} {f n : Nat} (h : Rlp.first s.data.toList = .ok (l, f, n)) :
    Calls Tryz.prog 83 #[.string s] w fun e w' => e = .returned (.tuple #[.bool l, .string (s.extract f (f + n)), .string (s.extract (f + n) s.size), .int .i64 0]) ∧ Below w.heap.size w w' := by
  have := split_any s w hs hl
  rw [h] at this
  exact this
theorem split_err {s : ByteArray} {w : World} (hs : s.size ≤ 70368744177664) (hl : Laid2 w) {n : Nat} (h : Rlp.first s.data.toList = .error n) :
    Calls Tryz.prog 83 #[.string s] w fun e w' => e = .returned (.tuple #[.bool false, .string ByteArray.empty, .string ByteArray.empty, .int .i64 2]) ∧ Below w.heap.size w w' := by
  have := split_any s w hs hl
  rw [h] at this
  exact this
/-- A reader in block b: its items lie in a block below M. -/
def Rm (M : Nat) (w : World) (b : Nat) (r : Rd) : Prop :=
  ∃ v e, Blk w b 96 #[v, e] ∧ Ss w v r.items ∧ (∀ i, v.ownBlock = some i → i < M ∧ i ≠ b) ∧ b < M ∧ Er e r.bad ∧ (∀ x ∈ r.items, x.size ≤ 999999) ∧ r.items.length ≤ 999999
section
variable {M M' b : Nat} {w w' : World} {r : Rd}
theorem Rm.lt (h : Rm M w b r) : b < w.heap.size := by
  obtain ⟨v, e, h1, _⟩ := h
  exact h1.lt
theorem Rm.ltM (h : Rm M w b r) : b < M := by
  obtain ⟨v, e, h1, _, _, h4, _⟩ := h
  exact h4
theorem Rm.far {S : Nat → Prop} (h : Rm M w b r) (F : Far S w w') (hb : ¬ S b) (hS : ∀ i, i < M → i ≠ b → ¬ S i) : Rm M w' b r := by
  obtain ⟨v, e, h1, h2, h3, h4, h5⟩ := h
  exact ⟨v, e, h1.far F hb, h2.far F (fun i hi => hS i (h3 i hi).1 (h3 i hi).2), h3, h4, h5⟩
theorem Rm.below (h : Rm M w b r) (F : Below w.heap.size w w') : Rm M w' b r := h.far (far_of_below F) (fun e => e) (fun _ _ _ e => e)
theorem Rm.mono (h : Rm M w b r) (hM : M ≤ M') : Rm M' w b r := by
  obtain ⟨v, e, h1, h2, h3, h4, h5⟩ := h
  exact ⟨v, e, h1, h2, fun i hi => ⟨Nat.lt_of_lt_of_le (h3 i hi).1 hM, (h3 i hi).2⟩, Nat.lt_of_lt_of_le h4 hM, h5⟩
theorem set_far (w : World) (b c : Nat) (u : Value) : Far (fun i => i = b) w (w.setCell ⟨b, c, none⟩ u) := Far.setCell (S := fun i => i = b) (Far.refl _ w) (p := ⟨b, c, none⟩) (fun _ => rfl) u
/-- What is wrong is kept. -/
theorem Rm.err (h : Rm M w b r) {e : Value} {bad : Bool} (he : Er e bad) : Rm M (w.setCell ⟨b, 1, none⟩ e) b ⟨r.items, bad⟩ := by
  obtain ⟨v, e', h1, h2, h3, h4, h5, h6⟩ := h
  exact ⟨v, e, h1.set 1 e, h2.far (set_far w b 1 e) (fun i hi e => (h3 i hi).2 e), h3, h4, he, h6⟩
/-- The first item is read. -/
theorem Rm.step {x : ByteArray} {t : List ByteArray} {bad : Bool} (h : Rm M w b ⟨x :: t, bad⟩) {bk o c : Nat} (hv : w.cell? ⟨b, 0, none⟩ = some (.slice (some ⟨bk, o, none⟩) (t.length + 1) c)) {vn : Value}
    (hvn : vn = .slice (if c = 1 then some ⟨bk, o, none⟩ else some ⟨bk, o + 1, none⟩) (t.length + 1 - 1) (c - 1)) :
    Rm M (w.setCell ⟨b, 0, none⟩ vn) b ⟨t, bad⟩ := by
  obtain ⟨v, e', h1, h2, h3, h4, h5, h6, h7⟩ := h
  have c0 := h1.cell 0
  simp only [List.getElem?_toArray, List.getElem?_cons_zero] at c0
  obtain rfl := Option.some.inj (c0.symm.trans hv)
  have hb := h3 bk rfl
  have h2' := h2.far (set_far w b 0 vn) (fun i hi e => (h3 i hi).2 e)
  refine ⟨_, e', h1.set 0 _, ?_, ?_, h4, h5, fun y hy => h6 y (List.mem_cons_of_mem _ hy), by simp only [List.length_cons] at h7 ⊢; omega⟩
  · obtain ⟨A, c', e, hc, hV⟩ := h2'
    simp only [List.length_cons, Value.slice.injEq, true_and] at e
    obtain ⟨rfl, rfl⟩ := e
    simp only [List.length_cons] at hc
    rcases t with _ | ⟨y, t⟩
    · exact ⟨_, _, hvn, Nat.zero_le _, .inl rfl⟩
    · simp only [List.length_cons] at hc
      rw [if_neg (by omega)] at hvn
      refine ⟨_, _, hvn, by simp only [List.length_cons]; omega, ?_⟩
      rcases hV with hV | ⟨b', o', e, hb', hcell⟩
      · cases hV
      · simp only [Option.some.injEq, Addr.mk.injEq, and_true] at e
        obtain ⟨rfl, rfl⟩ := e
        refine .inr ⟨bk, o + 1, rfl, hb', fun j z hz => ?_⟩
        have := hcell (j + 1) z (by simpa using hz)
        rw [← this]
        congr 2
        omega
  · intro i hi
    have : i = bk := by
      rw [hvn] at hi
      split at hi <;> (simp [Value.ownBlock] at hi; exact hi.symm)
    rw [this]
    exact hb
end
set_option maxRecDepth 100000 in
set_option maxHeartbeats 1000000 in
/-- fail. -/
theorem fail_any {M b : Nat} {r : Rd} {w : World} (h : Rm M w b r) (s : ByteArray) :
    Calls Tryz.prog 67 #[.pointer (some ⟨b, 0, none⟩), .string s] w fun e w' => e = .returned (.tuple #[]) ∧ Rm M w' b ⟨r.items, true⟩ ∧ Far (fun i => i = b) w w' := by
  have HL := Lib.hid h
  obtain ⟨v, e, h1, -⟩ := h
  have c1 := h1.cell 1
  have f1 := h1.frozen 1
  simp only [List.getElem?_toArray, List.getElem?_cons_succ, List.getElem?_cons_zero] at c1
  clear h1
  go_enter Tryz.func67, Tryz.ntmps67
  go_wp2_with fail
  go_returns
  exact ⟨rfl, HL.out.err (Er.fault s), set_far _ _ _ _⟩
set_option maxRecDepth 100000 in
set_option maxHeartbeats 1000000 in
/-- next. -/
theorem next_any {M b : Nat} {r : Rd} {w : World} (h : Rm M w b r) :
    Calls Tryz.prog 86 #[.pointer (some ⟨b, 0, none⟩)] w fun e w' => e = .returned (.string (Frm.next r).1) ∧ Rm M w' b (Frm.next r).2 ∧ Far (fun i => i = b) w w' := by
  have HL := Lib.hid h
  have FA := Lib.hid (fail_any h)
  obtain ⟨v, e, h1, h2, h3, h4, h5, h6, h7⟩ := h
  have c0 := h1.cell 0
  have f0 := h1.frozen 0
  simp only [List.getElem?_toArray, List.getElem?_cons_succ, List.getElem?_cons_zero] at c0
  obtain ⟨A, c, rfl, hc, hA⟩ := h2
  rcases r with ⟨items, bad⟩
  simp only at c0 hA h5 h6 h7 HL FA h3
  rcases items with _ | ⟨x, t⟩
  · simp only [List.length_nil] at c0
    clear h1 h3 hA hc h6 h7
    go_enter Tryz.func86, Tryz.ntmps86
    go_wp2_with (first
      | (go_at_call 67; refine (FA.out _).mono ?_; rintro e w1 ⟨rfl, hr, hf⟩; have R1 := Lib.hid hr; have F1 := Lib.hid hf; clear hr hf))
    go_ret
    exact ⟨rfl, R1.out, F1.out⟩
  · rcases hA with hA | ⟨bk, o, rfl, hbk, hcell⟩
    · cases hA
    simp only [List.length_cons] at c0
    have cx := hcell 0 (.string x) rfl
    rw [Nat.add_zero] at cx
    obtain ⟨An, nn, cn, hvn⟩ : ∃ An nn cn, Value.slice An nn cn = Value.slice (if c = 1 then some ⟨bk, o, none⟩ else some ⟨bk, o + 1, none⟩) (t.length + 1 - 1) (c - 1) := ⟨_, _, _, rfl⟩
    have SL : ∀ W : World, (Instr.slice 60 (.slice (some ⟨bk, o, none⟩) (t.length + 1) c) (some (.int .i64 1)) none none).run Tryz.prog W = .ok (.slice An nn cn) W := fun W => by
      rw [hvn]
      exact slice_low bk o (t.length + 1) c 1 (by omega) W
    have ST := Lib.hid (HL.out.step c0 hvn)
    clear h1 hcell h3 hc hvn hbk h7 h6
    have hpos : ¬ ((t.length : Int) + 1 = 0) := by omega
    go_enter Tryz.func86, Tryz.ntmps86
    go_wp2_with fail
    go_ret
    exact ⟨rfl, ST.out, set_far _ _ _ _⟩
end Go.Proofs.YtlbebdkockejcaaGreatDoor
namespace Go.Proofs.YtlbebdkockejcaaGreatDoor
open Go.RowKit Go.Proofs.Frm
set_option linter.unusedVariables false
set_option linter.unusedSimpArgs false
theorem Rm.next_small {M b : Nat} {w : World} {r : Rd} (h : Rm M w b r) : (Frm.next r).1.size ≤ 999999 := by
  obtain ⟨v, e, _, _, _, _, _, h6, _⟩ := h
  unfold Frm.next
  rcases hr : r.items with _ | ⟨x, t⟩
  · exact Nat.zero_le _
  · exact h6 x (by rw [hr]; exact List.mem_cons_self)
set_option maxRecDepth 100000 in
set_option maxHeartbeats 1000000 in
/-- A number is read. -/
theorem rdNum_any {M b : Nat} {r : Rd} {w : World} (h : Rm M w b r) :
    Calls Tryz.prog 66 #[.pointer (some ⟨b, 0, none⟩)] w fun e w' => e = .returned (.int .i64 (rdNum r).1) ∧ Rm M w' b (rdNum r).2 ∧ Far (fun i => i = b) w w' := by
  have NX := Lib.hid (next_any h)
  have hs := h.next_small
  clear h
  unfold rdNum numOk
  obtain ⟨x, hx⟩ : ∃ x, x = (Frm.next r).1 := ⟨_, rfl⟩
  obtain ⟨r1, hr1⟩ : ∃ r1, r1 = (Frm.next r).2 := ⟨_, rfl⟩
  rw [← hx, ← hr1] at NX
  rw [← hx] at hs
  rw [← hx, ← hr1]
  clear hx hr1
  have GN := Lib.hid (fun W => getnum_any x W (by omega))
  rcases hg : Rlp.getnum x.data.toList with _ | n
  · rw [hg] at GN
    unfold getVal at GN
    simp only at GN ⊢
    go_enter Tryz.func66, Tryz.ntmps66
    go_wp2_with (first
      | (go_at_call 86; refine NX.out.mono ?_; rintro e w1 ⟨rfl, hr, hf⟩; have R1 := Lib.hid hr; have F1 := Lib.hid hf; clear hr hf)
      | (go_at_call 85; refine (GN.out _).mono ?_; rintro e w2 ⟨rfl, hb⟩; have B2 := Lib.hid hb; have R2 := Lib.hid (R1.out.below hb); clear hb)
      | (go_at_call 67; refine (fail_any R2.out _).mono ?_; rintro e w3 ⟨rfl, hr, hf⟩; have R3 := Lib.hid hr; have F3 := Lib.hid hf; clear hr hf))
    go_ret
    exact ⟨rfl, R3.out, (F1.out.call B2.out).trans F3.out (fun _ _ e => e)⟩
  · rw [hg] at GN
    unfold getVal at GN
    simp only at GN ⊢
    by_cases hn : n ≤ 1048577
    · rw [if_pos hn]
      have d1 : decide ((1048577 : Int) < (n : Int)) = false := decide_eq_false (by omega)
      go_enter Tryz.func66, Tryz.ntmps66
      go_wp2_with (first
        | (go_at_call 86; refine NX.out.mono ?_; rintro e w1 ⟨rfl, hr, hf⟩; have R1 := Lib.hid hr; have F1 := Lib.hid hf; clear hr hf)
        | (go_at_call 85; refine (GN.out _).mono ?_; rintro e w2 ⟨rfl, hb⟩; have B2 := Lib.hid hb; have R2 := Lib.hid (R1.out.below hb); clear hb)
        | (go_at_call 67; refine (fail_any R2.out _).mono ?_; rintro e w3 ⟨rfl, hr, hf⟩; have R3 := Lib.hid hr; have F3 := Lib.hid hf; clear hr hf))
      go_ret
      exact ⟨rfl, R2.out, F1.out.call B2.out⟩
    · rw [if_neg hn]
      have d1 : decide ((1048577 : Int) < (n : Int)) = true := decide_eq_true (by omega)
      simp only
      go_enter Tryz.func66, Tryz.ntmps66
      go_wp2_with (first
        | (go_at_call 86; refine NX.out.mono ?_; rintro e w1 ⟨rfl, hr, hf⟩; have R1 := Lib.hid hr; have F1 := Lib.hid hf; clear hr hf)
        | (go_at_call 85; refine (GN.out _).mono ?_; rintro e w2 ⟨rfl, hb⟩; have B2 := Lib.hid hb; have R2 := Lib.hid (R1.out.below hb); clear hb)
        | (go_at_call 67; refine (fail_any R2.out _).mono ?_; rintro e w3 ⟨rfl, hr, hf⟩; have R3 := Lib.hid hr; have F3 := Lib.hid hf; clear hr hf))
      go_ret
      exact ⟨rfl, R3.out, (F1.out.call B2.out).trans F3.out (fun _ _ e => e)⟩
set_option maxRecDepth 100000 in
set_option maxHeartbeats 1000000 in
/-- A text is read. -/
theorem rdText_any {M b : Nat} {r : Rd} {w : World} (h : Rm M w b r) (hl : Laid2 w) (hb : 0 ≠ b) :
    Calls Tryz.prog 71 #[.pointer (some ⟨b, 0, none⟩)] w fun e w' => e = .returned (.string (rdText r).1) ∧ Rm M w' b (rdText r).2 ∧ Far (fun i => i = b) w w' := by
  have NX := Lib.hid (next_any h)
  have hs := h.next_small
  clear h
  unfold rdText
  obtain ⟨x, hx⟩ : ∃ x, x = (Frm.next r).1 := ⟨_, rfl⟩
  obtain ⟨r1, hr1⟩ : ∃ r1, r1 = (Frm.next r).2 := ⟨_, rfl⟩
  rw [← hx, ← hr1] at NX
  rw [← hx] at hs
  rw [← hx, ← hr1]
  clear hx hr1
  rcases hg : Rlp.first x.data.toList with n | ⟨l, f, n⟩
  · have SP := Lib.hid (fun W (hW : Far (fun i => i = b) w W) => split_err (s := x) (w := W) (by omega) (hl.far hW (fun e => hb e)) hg)
    clear hl
    have hR : Nod.readText x = none := by
      unfold Nod.readText Nod.splitB
      rw [hg]
    rw [hR]
    clear hR hg
    simp only
    go_enter Tryz.func71, Tryz.ntmps71
    go_wp2_with (first
      | (go_at_call 86; refine NX.out.mono ?_; rintro e w1 ⟨rfl, hr, hf⟩; have R1 := Lib.hid hr; have F1 := Lib.hid hf; clear hr hf)
      | (go_at_call 83; refine (SP.out _ F1.out).mono ?_; rintro e w2 ⟨rfl, hb⟩; have B2 := Lib.hid hb; have R2 := Lib.hid (R1.out.below hb); clear hb)
      | (go_at_call 67; refine (fail_any R2.out _).mono ?_; rintro e w3 ⟨rfl, hr, hf⟩; have R3 := Lib.hid hr; have F3 := Lib.hid hf; clear hr hf))
    go_ret
    exact ⟨rfl, R3.out, (F1.out.call B2.out).trans F3.out (fun _ _ e => e)⟩
  · have SP := Lib.hid (fun W (hW : Far (fun i => i = b) w W) => split_ok (s := x) (w := W) (by omega) (hl.far hW (fun e => hb e)) hg)
    clear hl
    obtain ⟨bo, hbo⟩ : ∃ bo, bo = x.extract f (f + n) := ⟨_, rfl⟩
    obtain ⟨re, hre⟩ : ∃ re, re = x.extract (f + n) x.size := ⟨_, rfl⟩
    rw [← hbo, ← hre] at SP
    have hR : Nod.readText x = if l then none else some bo := by
      unfold Nod.readText Nod.splitB
      rw [hg, hbo]
      cases l <;> rfl
    clear hbo hre
    cases l
    · rw [hR]
      clear hR hg
      simp only [Bool.false_eq_true, if_false]
      go_enter Tryz.func71, Tryz.ntmps71
      go_wp2_with (first
        | (go_at_call 86; refine NX.out.mono ?_; rintro e w1 ⟨rfl, hr, hf⟩; have R1 := Lib.hid hr; have F1 := Lib.hid hf; clear hr hf)
        | (go_at_call 83; refine (SP.out _ F1.out).mono ?_; rintro e w2 ⟨rfl, hb⟩; have B2 := Lib.hid hb; have R2 := Lib.hid (R1.out.below hb); clear hb)
        | (go_at_call 67; refine (fail_any R2.out _).mono ?_; rintro e w3 ⟨rfl, hr, hf⟩; have R3 := Lib.hid hr; have F3 := Lib.hid hf; clear hr hf))
      go_ret
      exact ⟨rfl, R2.out, F1.out.call B2.out⟩
    · rw [hR]
      clear hR hg
      simp only [if_true]
      go_enter Tryz.func71, Tryz.ntmps71
      go_wp2_with (first
        | (go_at_call 86; refine NX.out.mono ?_; rintro e w1 ⟨rfl, hr, hf⟩; have R1 := Lib.hid hr; have F1 := Lib.hid hf; clear hr hf)
        | (go_at_call 83; refine (SP.out _ F1.out).mono ?_; rintro e w2 ⟨rfl, hb⟩; have B2 := Lib.hid hb; have R2 := Lib.hid (R1.out.below hb); clear hb)
        | (go_at_call 67; refine (fail_any R2.out _).mono ?_; rintro e w3 ⟨rfl, hr, hf⟩; have R3 := Lib.hid hr; have F3 := Lib.hid hf; clear hr hf))
      go_ret
      exact ⟨rfl, R3.out, (F1.out.call B2.out).trans F3.out (fun _ _ e => e)⟩
end Go.Proofs.YtlbebdkockejcaaGreatDoor
namespace Go.Proofs.Frm
open Go.Proofs.Nib (bs)
theorem its_sizes : ∀ (m : Nat) (s : List UInt8) (xs : List (List UInt8)), Rlp.its m s = some xs → (∀ x ∈ xs, x.length ≤ s.length) ∧ xs.length ≤ s.length
  | 0, s, xs, h => by
    rw [Rlp.its] at h
    cases h
    simp
  | m + 1, [], xs, h => by
    rw [Rlp.its_nil] at h
    cases h
    simp
  | m + 1, c :: r, xs, h => by
    rcases hf : Rlp.first (c :: r) with e | ⟨l, f, n⟩
    · rw [Rlp.its_bad hf] at h; cases h
    · rw [Rlp.its_ok hf] at h
      rcases hi : Rlp.its m ((c :: r).drop (f + n)) with _ | ys
      · rw [hi] at h; cases h
      · rw [hi] at h
        simp only [Option.map_some, Option.some.injEq] at h
        subst h
        have h1 := Rlp.first_ok hf
        have h2 := its_sizes m _ _ hi
        have hd : ((c :: r).drop (f + n)).length = (c :: r).length - (f + n) := List.length_drop
        constructor
        · intro x hx
          rcases List.mem_cons.1 hx with rfl | hx
          · rw [List.length_take]; omega
          · have := h2.1 x hx; omega
        · rw [List.length_cons]; omega
theorem itemsF_sizes {s : ByteArray} {l : List ByteArray} (h : itemsF s = some l) : (∀ x ∈ l, x.size ≤ s.size) ∧ l.length ≤ s.size := by
  unfold itemsF at h
  rcases hi : Rlp.its s.size s.data.toList with _ | xs
  · rw [hi] at h; cases h
  · rw [hi] at h
    simp only [Option.map_some, Option.some.injEq] at h
    subst h
    have := its_sizes _ _ _ hi
    refine ⟨fun x hx => ?_, by simpa using this.2⟩
    obtain ⟨y, hy, rfl⟩ := List.mem_map.1 hx
    rw [Nib.bs_size]
    have := this.1 y hy
    simpa using this
end Go.Proofs.Frm
namespace Go.Proofs.YtlbebdkockejcaaGreatDoor
open Go.RowKit Go.Proofs.Frm
set_option linter.unusedVariables false
set_option linter.unusedSimpArgs false
theorem items_frm (s : ByteArray) (w : World) (hs : s.size ≤ 999999) (hl : Laid2 w) :
    Calls Tryz.prog 84 #[.string s] w fun e w' => Below w.heap.size w w' ∧
      ((itemsF s = none ∧ e = .returned (.tuple #[.slice none 0 0, .int .i64 2])) ∨
       (∃ l v, itemsF s = some l ∧ e = .returned (.tuple #[v, .int .i64 0]) ∧ w'.ownsRow w.heap.size 9 1 v l.length (l.map Value.string))) := by
  refine (items_any s w (by omega) hl).mono ?_
  rintro e w' ⟨hb, h⟩
  refine ⟨hb, ?_⟩
  rcases hr : rows s with _ | xs
  · have hn := rows_none hr
    rcases h with ⟨_, he⟩ | ⟨hf, _⟩
    · exact .inl ⟨by unfold itemsF; rw [show Rlp.its s.size s.data.toList = none from hr]; rfl, he⟩
    · exact absurd hf hn
  · have hn := rows_some hr
    rcases h with ⟨hf, _⟩ | ⟨_, v, he, ho⟩
    · rw [hn] at hf
      exact absurd (fine_map xs) hf
    · refine .inr ⟨xs.map Nib.bs, v, by unfold itemsF; rw [show Rlp.its s.size s.data.toList = some xs from hr]; rfl, he, ?_⟩
      rw [hn] at ho
      have e1 : strs (xs.map fun l => (Nib.bs l, none)) = (xs.map Nib.bs).map Value.string := by
        unfold strs
        rw [List.map_map, List.map_map]
        rfl
      rw [e1, List.length_map] at ho
      rw [List.length_map]
      exact ho
theorem items_none {s : ByteArray} {w : World} (hs : s.size ≤ 999999) (hl : Laid2 w) (h : itemsF s = none) :
    Calls Tryz.prog 84 #[.string s] w fun e w' => e = .returned (.tuple #[.slice none 0 0, .int .i64 2]) ∧ Below w.heap.size w w' := by
  refine (items_frm s w hs hl).mono ?_
  rintro e w' ⟨hb, ⟨_, he⟩ | ⟨l, v, hi, _⟩⟩
  · exact ⟨he, hb⟩
  · rw [h] at hi; cases hi
theorem items_some {s : ByteArray} {w : World} (hs : s.size ≤ 999999) (hl : Laid2 w) {l : List ByteArray} (h : itemsF s = some l) :
    Calls Tryz.prog 84 #[.string s] w fun e w' => Below w.heap.size w w' ∧ ∃ v, e = .returned (.tuple #[v, .int .i64 0]) ∧ w'.ownsRow w.heap.size 9 1 v l.length (l.map Value.string) := by
  refine (items_frm s w hs hl).mono ?_
  rintro e w' ⟨hb, ⟨hi, _⟩ | ⟨l', v, hi, he, ho⟩⟩
  · rw [h] at hi; cases hi
  · rw [h] at hi
    obtain rfl := Option.some.inj hi
    exact ⟨hb, v, he, ho⟩
/-- A new reader in block b, made from w on. -/
structure NewR (w w' : World) (b : Nat) (v e : Value) (r : Rd) : Prop where
  blk : Blk w' b 96 #[v, e]
  sl : Ss w' v r.items
  own : ∀ i, v.ownBlock = some i → w.heap.size ≤ i ∧ i < w'.heap.size ∧ i ≠ b
  er : Er e r.bad
  small : ∀ x ∈ r.items, x.size ≤ 999999
  few : r.items.length ≤ 999999
  ge : w.heap.size ≤ b
  bel : Below w.heap.size w w'
theorem NewR.rm {w w' : World} {b : Nat} {v e : Value} {r : Rd} (h : NewR w w' b v e r) : Rm w'.heap.size w' b r :=
  ⟨v, e, h.blk, h.sl, fun i hi => ⟨(h.own i hi).2.1, (h.own i hi).2.2⟩, h.blk.lt, h.er, h.small, h.few⟩
set_option maxRecDepth 100000 in
set_option maxHeartbeats 1000000 in
/-- fail, exactly. -/
theorem fail_exact {b : Nat} {v x : Value} {w : World} (h1 : Blk w b 96 #[v, x]) (s : ByteArray) :
    Calls Tryz.prog 67 #[.pointer (some ⟨b, 0, none⟩), .string s] w fun e w' => e = .returned (.tuple #[]) ∧ w' = w.setCell ⟨b, 1, none⟩ (.iface 121 (.agg #[.string s, .int .i64 2])) := by
  have c1 := h1.cell 1
  have f1 := h1.frozen 1
  simp only [List.getElem?_toArray, List.getElem?_cons_succ, List.getElem?_cons_zero] at c1
  clear h1
  go_enter Tryz.func67, Tryz.ntmps67
  go_wp2_with fail
  go_returns
  exact ⟨rfl, rfl⟩
/-- What a new reader is where something is wrong. -/
theorem NewR.bad {w W : World} {b : Nat} {x : Value} (s : ByteArray) (hb : Blk W b 96 #[.slice none 0 0, x]) (ge : w.heap.size ≤ b) (bel : Below w.heap.size w W) :
    NewR w (W.setCell ⟨b, 1, none⟩ (.iface 121 (.agg #[.string s, .int .i64 2]))) b (.slice none 0 0) (.iface 121 (.agg #[.string s, .int .i64 2])) ⟨[], true⟩ :=
  { blk := hb.set 1 _, sl := Ss.nil _, own := fun i hi => (by cases hi), er := Er.fault s, small := fun x hx => (by cases hx), few := Nat.zero_le _, ge := ge, bel := bel.setCell ge _ }
set_option maxRecDepth 100000 in
set_option maxHeartbeats 2000000 in
/-- A new reader. -/
theorem newReader_any (s : ByteArray) (w : World) (hs : s.size ≤ 999999) (hl : Laid2 w) :
    Calls Tryz.prog 65 #[.string s] w fun e w' => ∃ b v x, e = .returned (.pointer (some ⟨b, 0, none⟩)) ∧ NewR w w' b v x (newR s) := by
  obtain ⟨w0, hw0⟩ : ∃ w0, w0 = w.alloc (.cells #[.slice none 0 0, .nilIface] 96) := ⟨_, rfl⟩
  have hB0 : Below w.heap.size w w0 := by rw [hw0]; exact (Below.refl _ _).alloc (Nat.le_refl _) _
  have hX0 : Blk w0 w.heap.size 96 #[.slice none 0 0, .nilIface] := by rw [hw0]; exact Blk.new _ _ _
  have hz : w.heap.size + 1 = w0.heap.size := by rw [hw0]; simp
  have hl0 : Laid2 w0 := hl.on hB0 (Nat.le_refl _)
  have LD := Lib.hid hl0
  have BX := Lib.hid hX0
  have BB := Lib.hid hB0
  have HZ := Lib.hid hz
  rcases hT : Rlp.first s.data.toList with e | ⟨l, f, n⟩
  · have hn : newR s = ⟨[], true⟩ := by rw [newR, wholeB, hT]
    rw [hn]
    have SP := Lib.hid (split_err (by omega) hl0 hT)
    clear hl hl0 hT hn hB0 hX0 hz
    go_enter Tryz.func65, Tryz.ntmps65
    go_wp2_with fail
    rw [← hw0]
    go_wp2_with (first
      | (go_at_call 83; refine SP.out.mono ?_; rintro e w1 ⟨rfl, hb⟩; have B1 := Lib.hid hb; have X1 := Lib.hid (BX.out.below hb); clear hb)
      | (go_at_call 67; refine (fail_exact X1.out _).mono ?_; rintro e w3 ⟨rfl, rfl⟩))
    go_ret
    exact ⟨_, _, _, rfl, NewR.bad _ X1.out (Nat.le_refl _) (BB.out.trans (B1.out.mono BB.out.size))⟩
  · have SP := Lib.hid (split_ok (by omega) hl0 hT)
    obtain ⟨bo, hbo⟩ : ∃ bo, bo = s.extract f (f + n) := ⟨_, rfl⟩
    obtain ⟨re, hre⟩ : ∃ re, re = s.extract (f + n) s.size := ⟨_, rfl⟩
    have hfn := (Rlp.first_ok hT).1
    have hsl : s.data.toList.length = s.size := by simp
    have hrs : re.size = s.size - (f + n) := by rw [hre, ByteArray.size_extract]; omega
    have hbs : bo.size ≤ s.size := by rw [hbo, ByteArray.size_extract]; omega
    have hlr : re.toList.length = re.size := by rw [Lib.toList_data]; simp
    have hN0 : l = false → newR s = ⟨[], true⟩ := fun e => by
      subst e
      rw [newR, wholeB, hT]
    have hN1 : l = true → f + n ≠ s.size → newR s = ⟨[], true⟩ := fun e hw => by
      subst e
      rw [newR, wholeB, hT]
      simp only
      rw [if_neg hw]
    have hN2 : l = true → f + n = s.size → newR s = match itemsF bo with
          | none => ⟨[], true⟩
          | some l => ⟨l, false⟩ := fun e hw => by
      subst e
      rw [newR, wholeB, hT]
      simp only
      rw [if_pos hw, ← hbo]
      rfl
    rw [← hbo, ← hre] at SP
    clear hT hbo hre
    cases l
    · rw [hN0 rfl]
      clear hl hl0 hB0 hX0 hz hN0 hN1 hN2 hsl
      go_enter Tryz.func65, Tryz.ntmps65
      go_wp2_with fail
      rw [← hw0]
      go_wp2_with (first
        | (go_at_call 83; refine SP.out.mono ?_; rintro e w1 ⟨rfl, hb⟩; have B1 := Lib.hid hb; have X1 := Lib.hid (BX.out.below hb); clear hb)
        | (go_at_call 67; refine (fail_exact X1.out _).mono ?_; rintro e w3 ⟨rfl, rfl⟩))
      go_ret
      exact ⟨_, _, _, rfl, NewR.bad _ X1.out (Nat.le_refl _) (BB.out.trans (B1.out.mono BB.out.size))⟩
    · by_cases hw : f + n = s.size
      · rw [hN2 rfl hw]
        clear hN0 hN1 hN2
        have e0 : re.toList.isEmpty = true := by rw [List.isEmpty_iff, ← List.length_eq_zero_iff, hlr]; omega
        have e1 : re.toList = [] := List.isEmpty_iff.1 e0
        clear hsl
        have HBS := Lib.hid hbs
        have HS := Lib.hid hs
        rcases hi : itemsF bo with _ | l
        · have IT := Lib.hid (fun W (hW : Below w0.heap.size w0 W) => items_none (w := W) (by omega) (hl0.on hW (Nat.le_refl _)) hi)
          clear hl hl0 hB0 hX0 hz hfn hrs hlr hw hbs hs hi
          simp only
          go_enter Tryz.func65, Tryz.ntmps65
          go_wp2_with fail
          rw [← hw0]
          go_wp2_with (first
            | (go_at_call 83; refine SP.out.mono ?_; rintro e w1 ⟨rfl, hb⟩; have B1 := Lib.hid hb; have X1 := Lib.hid (BX.out.below hb); clear hb))
          go_at_call 84
          refine (IT.out _ B1.out).mono ?_
          rintro e w2 ⟨rfl, hb⟩
          have B2 := Lib.hid hb
          have X2 := Lib.hid (X1.out.below hb)
          clear hb
          have c20 := X2.out.cell 0
          have f20 := X2.out.frozen 0
          simp only [List.getElem?_toArray, List.getElem?_cons_zero] at c20
          have X3 : Hid (Blk (w2.setCell ⟨w.heap.size, 0, none⟩ (.slice none 0 0)) w.heap.size 96 #[.slice none 0 0, .nilIface]) := Lib.hid (X2.out.set 0 _)
          go_wp2_with (first
            | (go_at_call 67; refine (fail_exact X3.out _).mono ?_; rintro e w3 ⟨rfl, rfl⟩))
          go_ret
          exact ⟨_, _, _, rfl, NewR.bad _ X3.out (Nat.le_refl _) (((BB.out.trans (B1.out.mono BB.out.size)).trans (B2.out.mono (BB.out.trans (B1.out.mono BB.out.size)).size)).setCell (Nat.le_refl _) _)⟩
        · have IT := Lib.hid (fun W (hW : Below w0.heap.size w0 W) => items_some (w := W) (by omega) (hl0.on hW (Nat.le_refl _)) hi)
          have HI := Lib.hid hi
          clear hl hl0 hB0 hX0 hz hfn hrs hlr hw hbs hs hi
          simp only
          go_enter Tryz.func65, Tryz.ntmps65
          go_wp2_with fail
          rw [← hw0]
          go_wp2_with (first
            | (go_at_call 83; refine SP.out.mono ?_; rintro e w1 ⟨rfl, hb⟩; have B1 := Lib.hid hb; have X1 := Lib.hid (BX.out.below hb); clear hb))
          go_at_call 84
          refine (IT.out _ B1.out).mono ?_
          rintro e w2 ⟨hb, v, rfl, ho⟩
          have B2 := Lib.hid hb
          have X2 := Lib.hid (X1.out.below hb)
          clear hb
          have c20 := X2.out.cell 0
          have f20 := X2.out.frozen 0
          simp only [List.getElem?_toArray, List.getElem?_cons_zero] at c20
          obtain ⟨A, c, rfl⟩ := own_shape ho
          have HO := Lib.hid ho
          clear ho
          go_wp2_with fail
          go_ret
          have bel := (BB.out.trans (B1.out.mono BB.out.size)).trans (B2.out.mono (BB.out.trans (B1.out.mono BB.out.size)).size)
          have hown : ∀ i, (Value.slice A l.length c).ownBlock = some i → w1.heap.size ≤ i ∧ i < w2.heap.size := fun i hi => HO.out.lt i hi
          have h1 : w.heap.size < w1.heap.size := by have := HZ.out; have := B1.out.size; omega
          have hsz : (w2.setCell ⟨w.heap.size, 0, none⟩ (Value.slice A l.length c)).heap.size = w2.heap.size := by simp [World.setCell]
          exact ⟨_, _, _, rfl, { blk := X2.out.set 0 _, sl := (Ss.of_own HO.out).far (set_far _ _ _ _) (fun i hi e => by have := hown i hi; omega), own := fun i hi => (by have := hown i hi; rw [hsz]; exact ⟨by omega, this.2, by omega⟩), er := .inl ⟨rfl, rfl⟩, small := fun x hx => Nat.le_trans ((itemsF_sizes HI.out).1 x hx) (Nat.le_trans HBS.out HS.out), few := Nat.le_trans (itemsF_sizes HI.out).2 (Nat.le_trans HBS.out HS.out), ge := Nat.le_refl _, bel := bel.setCell (Nat.le_refl _) _ }⟩
      · rw [hN1 rfl hw]
        clear hN0 hN1 hN2
        have e0 : re.toList.isEmpty = false := by rw [Bool.eq_false_iff, Ne, List.isEmpty_iff, ← List.length_eq_zero_iff, hlr]; omega
        clear hsl
        have e1 : ¬ re.toList = [] := fun e => by rw [e] at e0; cases e0
        clear hl hl0 hB0 hX0 hz hfn hrs hlr hw
        go_enter Tryz.func65, Tryz.ntmps65
        go_wp2_with fail
        rw [← hw0]
        go_wp2_with (first
          | (go_at_call 83; refine SP.out.mono ?_; rintro e w1 ⟨rfl, hb⟩; have B1 := Lib.hid hb; have X1 := Lib.hid (BX.out.below hb); clear hb)
          | (go_at_call 67; refine (fail_exact X1.out _).mono ?_; rintro e w3 ⟨rfl, rfl⟩))
        go_ret
        exact ⟨_, _, _, rfl, NewR.bad _ X1.out (Nat.le_refl _) (BB.out.trans (B1.out.mono BB.out.size))⟩
set_option maxRecDepth 100000 in
set_option maxHeartbeats 1000000 in
/-- A list is read. -/
theorem rdList_any {M b : Nat} {r : Rd} {w : World} (h : Rm M w b r) (hl : Laid2 w) (hb : 0 ≠ b) :
    Calls Tryz.prog 93 #[.pointer (some ⟨b, 0, none⟩)] w fun e w' => ∃ v, e = .returned v ∧ Ss w' v (rdList r).1 ∧ (∀ i, v.ownBlock = some i → w.heap.size ≤ i ∧ i < w'.heap.size) ∧ (∀ x ∈ (rdList r).1, x.size ≤ 999999) ∧ (rdList r).1.length ≤ 999999 ∧ Rm M w' b (rdList r).2 ∧ Far (fun i => i = b) w w' := by
  have NX := Lib.hid (next_any h)
  have hs := h.next_small
  have hlt := h.lt
  clear h
  unfold rdList
  obtain ⟨x, hx⟩ : ∃ x, x = (Frm.next r).1 := ⟨_, rfl⟩
  obtain ⟨r1, hr1⟩ : ∃ r1, r1 = (Frm.next r).2 := ⟨_, rfl⟩
  rw [← hx, ← hr1] at NX
  rw [← hx] at hs
  rw [← hx, ← hr1]
  clear hx hr1
  have NR := Lib.hid (fun W (hW : Far (fun i => i = b) w W) => newReader_any x W hs (hl.far hW (fun e => hb e)))
  have HLT := Lib.hid hlt
  obtain ⟨rn, hrn⟩ : ∃ rn, rn = newR x := ⟨_, rfl⟩
  rw [← hrn] at NR
  rw [← hrn]
  clear hl hs hlt hrn
  rcases rn with ⟨its, bad⟩
  go_enter Tryz.func93, Tryz.ntmps93
  go_wp2_with (first
    | (go_at_call 86; refine NX.out.mono ?_; rintro e w1 ⟨rfl, hr, hf⟩; have R1 := Lib.hid hr; have F1 := Lib.hid hf; clear hr hf))
  go_at_call 65
  refine (NR.out _ F1.out).mono ?_
  rintro e w2 ⟨c, v, u, rfl, hN⟩
  have N2 := Lib.hid hN
  have c0 := hN.blk.cell 0
  have c1 := hN.blk.cell 1
  simp only [List.getElem?_toArray, List.getElem?_cons_succ, List.getElem?_cons_zero] at c0 c1
  have R2 := Lib.hid (R1.out.below hN.bel)
  have hcb : b ≠ c := by have := hN.ge; have := F1.out.size; have := HLT.out; omega
  have her := hN.er
  clear hN
  obtain ⟨A, n, cc, rfl⟩ : ∃ A n cc, v = .slice A n cc := by
    obtain ⟨A, cc, h, _⟩ := N2.out.sl
    exact ⟨_, _, _, h⟩
  obtain ⟨v1, u1, hB1, -⟩ := R2.out
  have d1 := hB1.cell 1
  have g1 := hB1.frozen 1
  simp only [List.getElem?_toArray, List.getElem?_cons_succ, List.getElem?_cons_zero] at d1
  clear hB1
  rcases her with ⟨hbad, rfl⟩ | ⟨hbad, s, rfl⟩
  · simp only at hbad
    subst hbad
    go_wp2_with fail
    go_ret
    simp only [Bool.or_false]
    exact ⟨_, rfl, N2.out.sl, fun i hi => ⟨Nat.le_trans F1.out.size (N2.out.own i hi).1, (N2.out.own i hi).2.1⟩, N2.out.small, N2.out.few, R2.out, F1.out.call N2.out.bel⟩
  · simp only at hbad
    subst hbad
    have ER := Lib.hid (R2.out.err (Er.fault s))
    have B3 : Hid (Blk (w2.setCell ⟨b, 1, none⟩ (.iface 121 (.agg #[.string s, .int .i64 2]))) c 96 #[.slice A n cc, .iface 121 (.agg #[.string s, .int .i64 2])]) := Lib.hid (N2.out.blk.other (p := ⟨b, 1, none⟩) (fun e => hcb e.symm) _)
    have c30 := B3.out.cell 0
    simp only [List.getElem?_toArray, List.getElem?_cons_zero] at c30
    go_wp2_with fail
    go_ret
    simp only [Bool.or_true]
    have hsz : (w2.setCell ⟨b, 1, none⟩ (.iface 121 (.agg #[.string s, .int .i64 2]))).heap.size = w2.heap.size := by simp [World.setCell]
    exact ⟨_, rfl, N2.out.sl.far (set_far _ _ _ _) (fun i hi e => by have := (N2.out.own i hi).1; have := F1.out.size; have := HLT.out; omega), fun i hi => ⟨Nat.le_trans F1.out.size (N2.out.own i hi).1, by rw [hsz]; exact (N2.out.own i hi).2.1⟩, N2.out.small, N2.out.few, ER.out, (F1.out.call N2.out.bel).trans (set_far _ _ _ _) (fun _ _ e => e)⟩
end Go.Proofs.YtlbebdkockejcaaGreatDoor
