/-
  The mesh and the document's answer, side by side.
-/
import Derived.Test.YtplahkhohhbgaaaMeshRefB
import Derived.Test.YtplahkhohhbgaaaMeshDoublesW
namespace Go.Proofs.Ytplahkhohhbgaaa
open Go.RowKit Go.Proofs.Msh
set_option linter.unusedVariables false
set_option linter.unusedSimpArgs false
def Tw (w0 : World) (g G : Nat) (R : Int) (v : Value) (xs : List ByteArray) (u : Value) (zs : List ByteArray) (W : World) : Prop :=
  Ms w0 g R v xs W ∧ Blk W G 59 #[.int .i64 R, u] ∧ Rl W u zs ∧ w0.heap.size ≤ G ∧ ¬ Own g v G ∧ ∀ i, u.ownBlock = some i → i < W.heap.size ∧ ¬ Own g v i
section
variable {w0 : World} {g G : Nat} {R : Int} {v u : Value} {xs zs : List ByteArray} {W W' : World}
theorem Tw.below (h : Tw w0 g G R v xs u zs W) (k : Below W.heap.size W W') : Tw w0 g G R v xs u zs W' :=
  ⟨h.1.below k, h.2.1.below k, h.2.2.1.below k, h.2.2.2.1, h.2.2.2.2.1, fun i hi => ⟨Nat.lt_of_lt_of_le (h.2.2.2.2.2 i hi).1 k.size, (h.2.2.2.2.2 i hi).2⟩⟩
theorem Tw.done (h : Tw w0 g G R v xs u zs W) {ys : List ByteArray} (k : Mo w0 g R v W W' ys) : ∃ v', Tw w0 g G R v' ys u zs W' := by
  obtain ⟨v', hM, F, O⟩ := k
  have hno : ∀ i, i < W.heap.size → ¬ Own g v i → ¬ Own g v' i := by
    rintro i hi hn (e | e)
    · exact hn (.inl e)
    · rcases O with o | o
      · exact hn (.inr (by rw [← o]; exact e))
      · have := o i e; omega
  refine ⟨v', hM, h.2.1.far F h.2.2.2.2.1, h.2.2.1.far F (fun i hi => (h.2.2.2.2.2 i hi).2), h.2.2.2.1, hno G h.2.1.lt h.2.2.2.2.1, fun i hi => ⟨Nat.lt_of_lt_of_le (h.2.2.2.2.2 i hi).1 F.size, hno i (h.2.2.2.2.2 i hi).1 (h.2.2.2.2.2 i hi).2⟩⟩
theorem Tw.store (h : Tw w0 g G R v xs u zs W) {u' : Value} {ys : List ByteArray} (k : Below W.heap.size W W') (hz : Rz W u W' u' ys) :
    Tw w0 g G R v xs u' ys ((W'.setCell ⟨G, 0, none⟩ (.int .i64 R)).setCell ⟨G, 1, none⟩ u') := by
  have h1 := h.below k
  have F : Far (fun i => i = G) W' ((W'.setCell ⟨G, 0, none⟩ (.int .i64 R)).setCell ⟨G, 1, none⟩ u') := ((Far.refl (fun i => i = G) W').setCell (p := ⟨G, 0, none⟩) (fun _ => rfl) _).setCell (p := ⟨G, 1, none⟩) (fun _ => rfl) _
  have hac : ∀ (i : Nat) (x : ByteArray), (#[Value.int .i64 R, u] : Array Value)[i]? ≠ some (.string x) := by
    obtain ⟨A, c, e, _⟩ := h.2.2.1
    intro i x
    rw [e]
    rcases i with _ | _ | i <;> simp
  have q0 : Blk ((W'.setCell ⟨G, 0, none⟩ (.int .i64 R)).setCell ⟨G, 1, none⟩ u') G 59 #[.int .i64 R, u'] := by
    have := ((h1.2.1.set 0 (.int .i64 R)).set 1 u')
    simpa using this
  refine ⟨⟨h1.1.1.far F (fun i hi e => h.2.2.2.2.1 (by rw [← e]; exact hi)), h1.1.2.1, Far.bl h1.1.2.2.1 F (fun i hi => by rw [hi]; exact h.2.2.2.1), h1.1.2.2.2⟩, q0, Rl.past hz.1 h1.2.1 hac F, h.2.2.2.1, h.2.2.2.2.1, fun i hi => ?_⟩
  rcases hz.2 with o | o
  · have := h.2.2.2.2.2 i (by rw [← o]; exact hi)
    exact ⟨Nat.lt_of_lt_of_le this.1 (by have := k.size; simpa [World.setCell] using this), this.2⟩
  · have h2 := o i hi
    exact ⟨by simpa [World.setCell] using h2.2, fun e => by have := h.1.own_lt i e; omega⟩
end
set_option maxHeartbeats 400000 in
theorem rnew_any (n : Int) (w : World) :
    Calls Try.prog 33 #[.int .i64 n] w fun e w' => e = .returned (.agg #[.int .i64 (roomOf n), .slice none 0 0]) ∧ Below w.heap.size w w' := by
  obtain ⟨R, hR⟩ : ∃ R : Int, roomOf n = R := ⟨_, rfl⟩
  obtain ⟨M1, hm1, hm2⟩ := mx_room2 n R hR
  rw [hR]
  have B := (Bl.start w).alloc (.cells #[.int .i64 0, .slice none 0 0] 59)
  have k0 := Blk.new w 59 #[.int .i64 0, .slice none 0 0]
  have K0 := Lib.hid k0
  have HB := Lib.hid B
  clear k0 B hR
  go_enter Try.func33, Try.ntmps33
  go_wp2_with fail
  have q := Blk.new w 59 #[.int .i64 R, .slice none 0 0]
  exact bodyPost_ret (results_mesh1 rfl _ _ _ rfl (by rw [q.cell]; rfl) (by rw [q.cell]; rfl)) rfl ⟨rfl, ((Bl.start w).alloc _).1⟩
end Go.Proofs.Ytplahkhohhbgaaa
