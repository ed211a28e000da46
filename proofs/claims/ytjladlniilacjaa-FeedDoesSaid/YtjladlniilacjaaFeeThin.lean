/-
  For FeedDoes: no notice has more than one change; what holds where both answers of an act are at hand.
-/
import Derived.Test.YtjladlniilacjaaFeeBys
namespace Go.Proofs.Fee
set_option linter.unusedVariables false
/-- No notice of many changes. -/
def Row.Thin (r : Row) : Prop := ∀ n ∈ r.q, n.chs.length ≤ 1
def Tbl.Thin (t : Tbl) : Prop := ∀ p ∈ t.rows, p.2.Thin
theorem r0_thin : r0.Thin := fun n hn => by cases hn
theorem thin_news (room : Int) : (news room).Thin := fun p hp => by cases hp
theorem Tbl.Thin.row {t : Tbl} (h : t.Thin) (s : Int) : (t.row s).Thin := by
  unfold Tbl.row
  cases e : atK t.rows s with
  | none => exact r0_thin
  | some r => exact h _ (atK_some e)
theorem Tbl.Thin.put {t : Tbl} (h : t.Thin) (hu : Up t.rows) (s : Int) {r : Row} (hr : r.Thin) : (t.put s r).Thin := fun p hp => by
  rcases (putK_mem hu).1 hp with rfl | ⟨hp, _⟩
  · exact hr
  · exact h p hp
theorem Tbl.Thin.del {t : Tbl} (h : t.Thin) (s : Int) : (t.del s).Thin := fun p hp => h p (delK_mem.1 hp).1
theorem Tbl.Thin.tidy {t : Tbl} (h : t.Thin) (s : Int) : (t.tidy s).Thin := by
  unfold Tbl.tidy
  split
  · exact h.del s
  · exact h
theorem pushRow_thin (room : Nat) {n : Ntc} (hn : n.chs.length ≤ 1) (s : Int) {r : Row} (h : r.Thin) : (pushRow room n s r).Thin := by
  unfold pushRow
  split
  · split
    · intro m hm
      rcases List.mem_append.1 hm with hm | hm
      · exact h m hm
      · rw [List.mem_singleton] at hm; subst hm; exact hn
    · intro m hm
      simp only at hm
      split at hm
      · rcases List.mem_append.1 hm with hm | hm
        · exact h m hm
        · rw [List.mem_singleton] at hm; subst hm; exact Nat.zero_le _
      · exact h m hm
  · exact h
theorem thin_pushL {n : Ntc} (hn : n.chs.length ≤ 1) : ∀ (l : List Int) (p : Tbl × List Int), p.1.Ok → p.1.Thin → (∀ s ∈ l, s ∈ p.1.keys) → (Tbl.pushL n p l).1.Thin
  | [], p, ok, h, hl => h
  | s :: r, p, ok, h, hl => by
    have hs := hl s (List.mem_cons_self ..)
    have ok2 := ok.pushAt n s hs
    refine thin_pushL hn r _ ok2 (h.put ok.up s (pushRow_thin _ hn s (h.row s))) (fun u hu => ?_)
    show u ∈ (p.1.pushAt n s).keys
    rw [pushAt_keys ok n s hs]
    exact hl u (List.mem_cons_of_mem _ hu)
theorem Tbl.Thin.does {t : Tbl} (h : t.Thin) (ok : t.Ok) (a : Deed) : (t.does a).1.Thin ∧ (t.does a).2.x.chs.length ≤ 1 := by
  unfold Tbl.does
  split
  · refine ⟨?_, Nat.zero_le _⟩
    unfold Tbl.sub
    split
    · exact h
    · exact h.put ok.up _ (fun n hn => h.row a.s n hn)
  · split
    · refine ⟨?_, Nat.zero_le _⟩
      unfold Tbl.unsub
      split
      · exact (h.put (r := ⟨false, (t.row a.s).q⟩) ok.up a.s (fun n hn => h.row a.s n hn)).tidy a.s
      · exact h
    · split
      · exact ⟨thin_pushL (n := pushN a) (show (pushN a).chs.length ≤ 1 from Nat.le_refl 1) t.keys (t, []) ok h (fun _ h => h), Nat.zero_le _⟩
      · split
        · unfold Tbl.pop
          split
          · next n q e =>
            have hr := h.row a.s
            refine ⟨(h.put ok.up _ (fun m hm => hr m (by rw [e]; exact List.mem_cons_of_mem _ hm))).tidy _, hr n (by rw [e]; exact List.mem_cons_self ..)⟩
          · exact ⟨h, Nat.zero_le _⟩
        · exact ⟨h.del _, Nat.zero_le _⟩
theorem does_list (t : Tbl) (a : Deed) : (t.does a).2.l.length ≤ t.rows.length := by
  unfold Tbl.does
  split
  · exact Nat.zero_le _
  · split
    · exact Nat.zero_le _
    · split
      · have := pushL_len (pushN a) t.keys (t, [])
        have h : t.keys.length = t.rows.length := by unfold Tbl.keys; rw [List.length_map]
        show (Tbl.pushL (pushN a) (t, []) t.keys).2.length ≤ _
        have h0 : ((t, []) : Tbl × List Int).2.length = 0 := rfl
        omega
      · split
        · exact Nat.zero_le _
        · exact Nat.zero_le _
end Go.Proofs.Fee
namespace Go.Proofs.Ytjladlniilacjaa
open Go.RowKit Go.Proofs.Fee
set_option linter.unusedVariables false
set_option linter.unusedSimpArgs false
/-- Both answers of an act: the document's table lies in the box nF, its answer in nT. -/
structure Dw (w7 : World) (N : Nat → Prop) (room : Nat) (t6 : Tbl) (tl : List Int) (xc : List Chg) (ct : Array Value) (nF nT : Nat) (v8 vl vc : Value) (W : World) : Prop where
  b : Bl w7.heap.size w7 W
  f : Blk W nF 58 #[.int .i64 (room : Int), v8]
  k : Blk W nT 65 ct
  r : Rf N W v8 t6
  o : W.ownsRow w7.heap.size 3 1 vl tl.length (tl.map (Value.int .i64))
  c : Chs W vc xc
  lf : w7.heap.size ≤ nF
  lt : w7.heap.size ≤ nT
theorem isAggBool (w : World) : (isAgg 4).run Try.prog w = .ok false w := by kernel_rfl
theorem isAggInts (w : World) : (isAgg 60).run Try.prog w = .ok false w := by kernel_rfl
theorem isAggNtcs (w : World) : (isAgg 72).run Try.prog w = .ok false w := by kernel_rfl
theorem run_neb {o : Oper} {a : Act} {W : World} {x y : Operand} (ho : o.op = .binOp .neq 4 x y 4) (b : Bool) (hx : a.eval x = .bool b) (hy : a.eval y = .bool b) :
    (execOp a.eval o).run Try.prog W = .ok (.value (.bool false)) W := by
  unfold execOp
  simp only [ho, hx, hy]
  cases b <;> kernel_rfl
theorem run_len {o : Oper} {a : Act} {W : World} {x : Operand} {T : TypeId} (ho : o.op = .call { callee := .builtin .len, args := #[x], argTypes := #[T] }) (A : Option Addr) (n c : Nat) (hx : a.eval x = .slice A n c) (hT : Try.prog.underlying T = some (.slice 63)) :
    (execOp a.eval o).run Try.prog W = .ok (.value (.int .i64 (n : Int))) W := by
  have hm : (#[x] : Array Operand).map a.eval = #[.slice A n c] := by simp [hx]
  generalize hA : (#[x] : Array Operand) = AA at *
  unfold execOp
  simp only [ho]
  simp [go_sem, hm, hT]
end Go.Proofs.Ytjladlniilacjaa
