import Derived.Test.YtgeonbkoihegnaaDoorRlpItems
import Derived.Handy
namespace Go.Proofs.YtgeonbkoihegnaaDoor
open Go.RowKit Go.Shelf
attribute [local go_sem] Oper.semAt_some
set_option linter.unusedVariables false
set_option linter.unusedSimpArgs false
def chkL (f : ByteArray → Option Nat) : List Told → Option Nat
  | [] => none
  | (b, some e) :: _ => some e
  | (b, none) :: r => match f b with | some e => some e | none => chkL f r
def chkTop (g : ByteArray → Option Nat) (s : ByteArray) : Option Nat :=
  match Rlp.first s.data.toList with
  | .error e => some e
  | .ok (l, f, n) => if f + n ≠ s.size then some (f + n) else if l = false then none else g (s.extract f (f + n))
/-- Where the one item that s should be is wrong. -/
def chk : Nat → ByteArray → Option Nat
  | 0, s => chkTop (fun _ => some 0) s
  | d + 1, s => chkTop (fun b => chkL (chk d) (eachF b b.size 0)) s
/-- One thing that was told is fine, and what is in it. -/
def good (f : ByteArray → Option Nat) (x : Told) : Prop := x.2 = none ∧ f x.1 = none
def bad (f : ByteArray → Option Nat) (x : Told) (e : Nat) : Prop := x.2 = some e ∨ (x.2 = none ∧ f x.1 = some e)
theorem chkL_good (f : ByteArray → Option Nat) (l : List Told) (h : ∀ x ∈ l, good f x) : chkL f l = none := by
  induction l with
  | nil => rfl
  | cons x r ih =>
    obtain ⟨b, o⟩ := x
    have h1 := h (b, o) (by simp)
    obtain ⟨h2, h3⟩ := h1
    simp only at h2 h3
    subst h2
    simp only [chkL, h3]
    exact ih (fun y hy => h y (by simp [hy]))
theorem chkL_bad (f : ByteArray → Option Nat) (l r : List Told) (x : Told) (e : Nat) (h : ∀ x ∈ l, good f x) (hx : bad f x e) : chkL f (l ++ x :: r) = some e := by
  induction l with
  | nil =>
    obtain ⟨b, o⟩ := x
    rcases hx with h1 | ⟨h1, h2⟩
    · simp only at h1; subst h1; rfl
    · simp only at h1 h2; subst h1; simp only [List.nil_append, chkL, h2]
  | cons y t ih =>
    obtain ⟨b, o⟩ := y
    obtain ⟨h2, h3⟩ := h (b, o) (by simp)
    simp only at h2 h3
    subst h2
    simp only [List.cons_append, chkL, h3]
    exact ih (fun y hy => h y (by simp [hy]))
theorem isAggErr (w : World) : (isAgg 52).run Tryd.prog w = .ok false w := by kernel_rfl
/-- One result that lies in memory. -/
theorem results_cell1 {fn : Func} (h : fn.results = #[.cell 4 52]) (tmps : Array Value) (w : World) (a : Nat) (h4 : tmps[4]?.getD undef = .pointer (some ⟨a, 0, none⟩)) {x : Value} (hx : w.cell? ⟨a, 0, none⟩ = some x) :
    (results fn tmps).run Tryd.prog w = .ok x w := by
  simp [results, h, h4, loadVar, isAggErr, asAddr, hx, Result.andThen]
/-- The two boxes, behind a call that leaves what was there. -/
theorem check_world (w : World) (d : Nat) {w1 : World} (bw : Below ((w.alloc (.cells #[.int .i64 (d : Int)] 3)).alloc (.cells #[.nilIface] 52)).heap.size ((w.alloc (.cells #[.int .i64 (d : Int)] 3)).alloc (.cells #[.nilIface] 52)) w1) :
    w1.cell? ⟨w.heap.size, 0, none⟩ = some (.int .i64 (d : Int)) ∧ w1.cell? ⟨w.heap.size + 1, 0, none⟩ = some .nilIface ∧ w1.frozen? ⟨w.heap.size + 1, 0, none⟩ = false ∧ w.heap.size + 1 < w1.heap.size ∧ Below w.heap.size w w1 := by
  have g := grown_of_below bw
  have c4 : ((w.alloc (.cells #[.int .i64 (d : Int)] 3)).alloc (.cells #[.nilIface] 52)).cell? ⟨w.heap.size + 1, 0, none⟩ = some .nilIface := by rw [World.cell?_alloc_at _ _ _ _ (by simp)]; rfl
  refine ⟨kept_cell g ?_, kept_cell g c4, kept_frozen g c4 (World.frozen?_alloc_at _ _ _ _ (by simp)), ?_, ?_⟩
  · rw [World.cell?_alloc_lt _ _ ⟨w.heap.size, 0, none⟩ (by simp), World.cell?_alloc_new]; rfl
  · have := bw.size; simp at this; omega
  · exact (((Below.refl _ w).alloc (Nat.le_refl _) _).alloc (by simp) _).trans (bw.mono (by simp; omega))
/-- rlp.check, where it does not look into a list. -/
def Leaf (s : ByteArray) (d : Nat) (r : Option Nat) : Prop :=
  match Rlp.first s.data.toList with
  | .error e => r = some e
  | .ok (l, f, n) => (f + n ≠ s.size ∧ r = some (f + n)) ∨ (f + n = s.size ∧ l = false ∧ r = none) ∨ (f + n = s.size ∧ l = true ∧ d = 0 ∧ r = some 0)
set_option maxRecDepth 100000 in
set_option maxHeartbeats 2000000 in
theorem check_leaf (s : ByteArray) (d : Nat) (r : Option Nat) (w : World) (hs : s.size ≤ 4398046511104) (hd : d ≤ 32) (hr : Leaf s d r) :
    Calls Tryd.prog 34 #[.string s, .int .i64 (d : Int)] w fun e w' => e = .returned (toldErr r) ∧ Below w.heap.size w w' := by
  have hz := fun W : World => first_any s W (by omega)
  unfold Leaf at hr
  rcases hT : Rlp.first s.data.toList with e | ⟨l, f, n⟩
  · simp only [hT] at hr
    subst hr
    simp only [hT, firstVal, faultAt] at hz
    have HZ := Lib.hid hz
    clear hz hT
    go_enter Tryd.func34, Tryd.ntmps34
    go_wp2_with fail
    refine (HZ.out _).mono ?_
    rintro e1 w1 ⟨rfl, bw⟩
    obtain ⟨c3, c4, f4, hlt, bw0⟩ := check_world w d bw
    have HB := Lib.hid bw0
    clear bw bw0
    go_wp2_with fail
    refine bodyPost_ret (results_cell1 rfl _ _ _ rfl (by rw [World.cell?_alloc_lt _ _ _ (by simp; omega)]; exact World.cell?_setCell_same _ _ _ c4)) rfl ⟨rfl, ?_⟩
    exact (HB.out.setCell (p := ⟨w.heap.size + 1, 0, none⟩) (by simp) _).alloc (by simp; omega) _
  · simp only [hT] at hr
    have hok := (Rlp.first_ok hT).1
    rw [Nib.len_of] at hok
    simp only [hT, firstVal] at hz
    obtain ⟨X, hX⟩ : ∃ X, X = s.extract f (f + n) := ⟨_, rfl⟩
    obtain ⟨Y, hY⟩ : ∃ Y, Y = s.extract (f + n) s.size := ⟨_, rfl⟩
    have hYs : Y.size = s.size - (f + n) := by
      rw [hY, ← Nib.len_of, Lib.extract_data]
      simp
    simp only [← hX, ← hY] at hz
    clear hX hY hT
    have HZ := Lib.hid hz
    clear hz
    rcases hr with ⟨h1, rfl⟩ | ⟨h1, rfl, rfl⟩ | ⟨h1, rfl, rfl, rfl⟩
    · have hE : Y.toList.isEmpty = false := by
        rw [ByteArray.toList_eq]
        rcases h : Y.data.toList with _ | ⟨c, r⟩
        · have := Nib.len_of Y; rw [h] at this; simp at this; omega
        · rfl
      have hq : (s.size : Int) - (Y.size : Int) = ((f + n : Nat) : Int) := by rw [hYs]; omega
      obtain ⟨q, hqq⟩ : ∃ q, q = f + n := ⟨_, rfl⟩
      rw [← hqq] at hq ⊢
      clear hYs hqq h1
      go_enter Tryd.func34, Tryd.ntmps34
      go_wp2_with fail
      refine (HZ.out _).mono ?_
      rintro e1 w1 ⟨rfl, bw⟩
      obtain ⟨c3, c4, f4, hlt, bw0⟩ := check_world w d bw
      have HB := Lib.hid bw0
      clear bw bw0
      go_wp2_with fail
      refine bodyPost_ret (results_cell1 rfl _ _ _ rfl (by rw [World.cell?_alloc_lt _ _ _ (by simp; omega)]; exact World.cell?_setCell_same _ _ _ c4)) rfl ⟨rfl, ?_⟩
      exact (HB.out.setCell (p := ⟨w.heap.size + 1, 0, none⟩) (by simp) _).alloc (by simp; omega) _
    · have hE : Y.toList.isEmpty = true := by
        rw [ByteArray.toList_eq, List.isEmpty_iff]
        exact List.eq_nil_of_length_eq_zero (by rw [Nib.len_of]; omega)
      clear hYs h1
      go_enter Tryd.func34, Tryd.ntmps34
      go_wp2_with fail
      refine (HZ.out _).mono ?_
      rintro e1 w1 ⟨rfl, bw⟩
      obtain ⟨c3, c4, f4, hlt, bw0⟩ := check_world w d bw
      have HB := Lib.hid bw0
      clear bw bw0
      go_wp2_with fail
      refine bodyPost_ret (results_cell1 rfl _ _ _ rfl (by rw [World.cell?_alloc_lt _ _ _ (by simp; omega)]; exact World.cell?_setCell_same _ _ _ c4)) rfl ⟨rfl, ?_⟩
      exact (HB.out.setCell (p := ⟨w.heap.size + 1, 0, none⟩) (by simp) _).alloc (by simp; omega) _
    · have hE : Y.toList.isEmpty = true := by
        rw [ByteArray.toList_eq, List.isEmpty_iff]
        exact List.eq_nil_of_length_eq_zero (by rw [Nib.len_of]; omega)
      clear hYs h1
      go_enter Tryd.func34, Tryd.ntmps34
      go_wp2_with fail
      refine (HZ.out _).mono ?_
      rintro e1 w1 ⟨rfl, bw⟩
      obtain ⟨c3, c4, f4, hlt, bw0⟩ := check_world w 0 bw
      have hlt0 : w.heap.size < w1.heap.size := by omega
      have HB := Lib.hid bw0
      clear bw bw0
      go_wp2_with fail
      refine bodyPost_ret (results_cell1 rfl _ _ _ rfl (by rw [World.cell?_alloc_lt _ _ _ (by simp; omega)]; exact World.cell?_setCell_same _ _ _ c4)) rfl ⟨rfl, ?_⟩
      exact (HB.out.setCell (p := ⟨w.heap.size + 1, 0, none⟩) (by simp) _).alloc (by simp; omega) _
end Go.Proofs.YtgeonbkoihegnaaDoor
