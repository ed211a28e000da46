/-
  A branch with one ref more.
-/
import Derived.Test.YtfeonjiiijdibaaGreatDoorNodeColl
namespace Go.Proofs.YtfeonjiiijdibaaGreatDoor
open Go.RowKit Go.Proofs.Nod
set_option linter.unusedVariables false
set_option linter.unusedSimpArgs false
/-- The node with a ref set. -/
def setR (n : Nd) (i : Nat) (r : ByteArray) : Nd := ⟨n.kind, n.path, n.value, n.refs.set i r⟩
theorem setR_len (n : Nd) (i : Nat) (r : ByteArray) : (setR n i r).refs.length = n.refs.length := by simp [setR]
theorem part_at (l : List ByteArray) (i : Nat) (h : i < l.length) : l = l.take i ++ l.getD i e0 :: l.drop (i + 1) := by
  have := (List.take_append_drop i l).symm
  rw [List.drop_eq_getElem_cons h] at this
  rw [show l.getD i e0 = l[i] by simp [h]]
  exact this
theorem set_at (l : List ByteArray) (i : Nat) (h : i < l.length) (r : ByteArray) : l.set i r = l.take i ++ r :: l.drop (i + 1) := by
  rw [List.set_eq_take_append_cons_drop, if_pos h]
theorem rfr_hash {r x : ByteArray} (h : hashB r = some x) : (rfrB r).isSome = true := by
  unfold rfrB refersK
  rw [h]
  rfl
theorem rfr_in {r : ByteArray} {m : Nd} (h : inB r = some m) : (rfrB r).isSome = true := by
  unfold rfrB refersK
  split
  · rfl
  · rw [show inlineK gB r = inB r from rfl, h]; rfl
theorem ref_refers {m : Nd} (hm : validB m = true) (h16 : m.refs.length = 16) (h0 : m.kind ≠ 0) : (rfrB (refB (bytesB m))).isSome = true := by
  by_cases hs : (bytesB m).size < 32
  · rw [ref_small hs]; exact rfr_in (in_small hm h16 h0 hs)
  · exact rfr_hash (hash_big hs)
theorem ref_ne {m : Nd} (hm : validB m = true) (h16 : m.refs.length = 16) : ¬ refB (bytesB m) = e0 := by
  intro h
  by_cases hs : (bytesB m).size < 32
  · rw [ref_small hs] at h
    have := item_pos (back_read m hm h16).2.2
    rw [h] at this
    exact absurd this (by decide)
  · have := ref_size hs
    rw [h] at this
    exact absurd this (by decide)
theorem grown_valid {n m : Nd} {i : Nat} (hn : validB n = true) (h3 : n.kind = 3) (h16 : n.refs.length = 16) (hi : i < 16) (he : rf n i = e0) (hm : validB m = true) (g16 : m.refs.length = 16) (h0 : m.kind ≠ 0) :
    validB (setR n i (refB (bytesB m))) = true := by
  have hr := ref_refers hm g16 h0
  unfold rfrB at hr
  have hd := ref_ne hm g16
  generalize refB (bytesB m) = r at hr hd
  have hi' : i < n.refs.length := by omega
  unfold validB validK at hn ⊢
  rw [show (setR n i r).kind = n.kind from rfl, show (setR n i r).path = n.path from rfl, show (setR n i r).value = n.value from rfl, show (setR n i r).refs = n.refs.set i r from rfl]
  rw [if_neg (by omega), if_neg (by omega), if_neg (by omega), if_pos h3] at hn ⊢
  have hx := part_at n.refs i hi'
  rw [show n.refs.getD i e0 = e0 from he] at hx
  rw [set_at n.refs i hi']
  rw [hx] at hn
  simp only [Bool.and_eq_true, List.all_append, List.all_cons, List.filter_append, List.filter_cons, List.length_append, decide_eq_true_eq] at hn ⊢
  refine ⟨⟨⟨hn.1.1.1, hn.1.1.2⟩, hn.1.2.1, by rw [hr]; simp, hn.1.2.2.2⟩, ?_⟩
  have := hn.2
  rw [if_neg (by simp)] at this
  rw [if_pos (by simpa using hd)]
  simp only [List.length_cons]
  omega
theorem hashes_grown {n m : Nd} {i : Nat} (hn : validB n = true) (h3 : n.kind = 3) (h16 : n.refs.length = 16) (hi : i < 16) (he : rf n i = e0) (hm : validB m = true) (g16 : m.refs.length = 16) (h0 : m.kind ≠ 0) :
    (hashes (setR n i (refB (bytesB m)))).length = (hashes n).length + (if (bytesB m).size < 32 then (hashes m).length else 1) := by
  have hv := grown_valid hn h3 h16 hi he hm g16 h0
  have hd := ref_ne hm g16
  unfold hashes
  rw [if_pos hv, if_pos hn, if_pos hm, used_all, used_all, rfs_eq n h16, rfs_eq _ (by rw [setR_len]; exact h16), show (setR n i (refB (bytesB m))).refs = n.refs.set i (refB (bytesB m)) from rfl]
  have hi' : i < n.refs.length := by omega
  have hx := part_at n.refs i hi'
  rw [show n.refs.getD i e0 = e0 from he] at hx
  rw [set_at n.refs i hi']
  have e1 : (n.refs.filter (fun r => decide (r ≠ e0))) = (n.refs.take i).filter (fun r => decide (r ≠ e0)) ++ (n.refs.drop (i + 1)).filter (fun r => decide (r ≠ e0)) := by
    conv => lhs; rw [hx]
    rw [List.filter_append, List.filter_cons, if_neg (by simp)]
  rw [e1, List.filter_append, List.filter_cons, if_pos (by simpa using hd)]
  simp only [List.filterMap_append, List.length_append]
  by_cases hs : (bytesB m).size < 32
  · rw [if_pos hs, ref_small hs, List.filterMap_cons, hash_small hs]
    have hf := in_facts (in_small hm g16 h0 hs)
    have := hashes_short m (fun r hr => Nat.lt_trans (hf.2.2.1 r hr) hs)
    unfold hashes at this
    rw [if_pos hm] at this
    rw [this]
    simp
  · rw [if_neg hs, List.filterMap_cons, hash_big hs]
    simp only [List.length_cons]
    omega
theorem run_index16 {o : Oper} {a : Act} {W : World} {x y : Operand} (ho : o.op = .indexAddr 49 x y) (b off i : Nat) (hx : a.eval x = .pointer (some ⟨b, off, none⟩)) (hy : a.eval y = .int .i64 (i : Int)) (hi : i < 16) :
    (execOp a.eval o).run Tryz.prog W = .ok (.value (.pointer (some ⟨b, off + i, none⟩))) W := by
  unfold execOp
  simp only [ho, hx, hy]
  have : i = 0 ∨ i = 1 ∨ i = 2 ∨ i = 3 ∨ i = 4 ∨ i = 5 ∨ i = 6 ∨ i = 7 ∨ i = 8 ∨ i = 9 ∨ i = 10 ∨ i = 11 ∨ i = 12 ∨ i = 13 ∨ i = 14 ∨ i = 15 := by omega
  rcases this with rfl | rfl | rfl | rfl | rfl | rfl | rfl | rfl | rfl | rfl | rfl | rfl | rfl | rfl | rfl | rfl
  all_goals (show Sem.run _ _ _ = _; kernel_rfl)
theorem setR_ref (n : Nd) (h16 : n.refs.length = 16) (q : Nat) (hq : q < 16) (r : ByteArray) : (ndC n).setIfInBounds (3 + q) (.string r) = ndC (setR n q r) :=
  ndC_set n (setR n q r) q hq r rfl rfl rfl (fun i hi => by
    unfold rf setR
    by_cases h : i = q
    · subst h; rw [if_pos rfl]; simp [h16, hi]
    · rw [if_neg h]; simp [Ne.symm h])
theorem run_conv8 {o : Oper} {a : Act} {W : World} {x : Operand} (ho : o.op = .convert 5 3 x) (p : Nat) (hx : a.eval x = .int .u8 (p : Int)) (hp : p ≤ 255) :
    (execOp a.eval o).run Tryz.prog W = .ok (.value (.int .i64 (p : Int))) W := by
  unfold execOp
  simp only [ho, hx]
  have h : (IntKind.i64.wrap (p : Int)) = (p : Int) := by
    simp [IntKind.wrap, IntKind.bits, IntKind.signed]
    omega
  simp [go_sem, h]
theorem run_rem16 {o : Oper} {a : Act} {W : World} {x : Operand} (ho : o.op = .binOp .rem 3 x (.const (.int .i64 16)) 3) (p : Nat) (hx : a.eval x = .int .i64 (p : Int)) :
    (execOp a.eval o).run Tryz.prog W = .ok (.value (.int .i64 ((p % 16 : Nat) : Int))) W := by
  unfold execOp
  simp only [ho, hx]
  simp [go_sem]
  exact Int.tmod_eq_emod_of_nonneg (by omega)
theorem run_addn {o : Oper} {a : Act} {W : World} {x y : Operand} (ho : o.op = .binOp .add 3 x y 3) (l m : Nat) (hx : a.eval x = .int .i64 (l : Int)) (hy : a.eval y = .int .i64 (m : Int)) (hl : l ≤ 1000) (hm : m ≤ 1000) :
    (execOp a.eval o).run Tryz.prog W = .ok (.value (.int .i64 ((l + m : Nat) : Int))) W := by
  unfold execOp
  simp only [ho, hx, hy]
  have h : (IntKind.i64.wrap ((l : Int) + (m : Int))) = ((l + m : Nat) : Int) := by
    simp [IntKind.wrap, IntKind.bits, IntKind.signed]
    omega
  simp [go_sem, h]
theorem run_len_own {o : Oper} {a : Act} {W V : World} {x : Operand} (ho : o.op = .call { callee := .builtin .len, args := #[x], argTypes := #[29] }) {base n : Nat} {v : Value} {xs : List Value} (hx : a.eval x = v) (h : V.ownsRow base 9 1 v n xs) :
    (execOp a.eval o).run Tryz.prog W = .ok (.value (.int .i64 (n : Int))) W := by
  rcases h.2 with ⟨rfl, hn⟩ | ⟨g, cap, cur, rfl, _⟩
  · subst hn
    have hm : (#[x] : Array Operand).map a.eval = #[.slice none 0 0] := by simp only [List.map_toArray, List.map_cons, List.map_nil, hx]
    unfold execOp
    simp only [ho, resolve, Sem.run_bind, Sem.run_pure, Result.andThen_ok]
    rw [hm]
    show Sem.run _ _ _ = _
    kernel_rfl
  · have hm : (#[x] : Array Operand).map a.eval = #[.slice (some ⟨g, 0, none⟩) n cap] := by simp only [List.map_toArray, List.map_cons, List.map_nil, hx]
    unfold execOp
    simp only [ho, resolve, Sem.run_bind, Sem.run_pure, Result.andThen_ok]
    rw [hm]
    show Sem.run _ _ _ = _
    kernel_rfl
/-- What has so many strings. -/
def LenIs (v : Value) (n : Nat) : Prop := ∀ (o : Oper) (a : Act) (W : World) (x : Operand), o.op = .call { callee := .builtin .len, args := #[x], argTypes := #[29] } → a.eval x = v → (execOp a.eval o).run Tryz.prog W = .ok (.value (.int .i64 (n : Int))) W
theorem hashes_len (n : Nd) (h16 : n.refs.length = 16) (W : World) (h : Laid2 W) :
    Calls Tryz.prog 35 #[.agg (ndC n)] W fun e W' => ∃ v, e = .returned v ∧ LenIs v (hashes n).length ∧ Below W.heap.size W W' :=
  (hashes_any n h16 W h).mono fun e W' ⟨v, he, ho, hb⟩ => ⟨v, he, fun o a V x h1 h2 => run_len_own h1 h2 ho, hb⟩
theorem hashes_le (n : Nd) : (hashes n).length ≤ 16 := by
  unfold hashes
  split
  · rw [used_all]
    refine Nat.le_trans (List.length_filterMap_le _ _) (Nat.le_trans (List.length_filter_le _ _) ?_)
    simp [rfs]
  · simp
theorem run_eqiN {o : Oper} {a : Act} {W : World} {x y : Operand} (ho : o.op = .binOp .eql 3 x y 3) (i j : Int) (hx : a.eval x = .int .i64 i) (hy : a.eval y = .int .i64 j) (b : Bool) (h : decide (i = j) = b) :
    (execOp a.eval o).run Tryz.prog W = .ok (.value (.bool b)) W := by
  subst h
  unfold execOp
  simp only [ho, hx, hy]
  simp [go_sem]
  by_cases hij : i = j <;> simp [hij]
theorem run_neiN {o : Oper} {a : Act} {W : World} {x y : Operand} (ho : o.op = .binOp .neq 3 x y 3) (i j : Int) (hx : a.eval x = .int .i64 i) (hy : a.eval y = .int .i64 j) (b : Bool) (h : decide (¬ i = j) = b) :
    (execOp a.eval o).run Tryz.prog W = .ok (.value (.bool b)) W := by
  subst h
  unfold execOp
  simp only [ho, hx, hy]
  simp [go_sem]
  by_cases hij : i = j <;> simp [hij]
theorem run_ltiN {o : Oper} {a : Act} {W : World} {x y : Operand} (ho : o.op = .binOp .lss 3 x y 3) (i j : Int) (hx : a.eval x = .int .i64 i) (hy : a.eval y = .int .i64 j) (b : Bool) (h : decide (i < j) = b) :
    (execOp a.eval o).run Tryz.prog W = .ok (.value (.bool b)) W := by
  subst h
  unfold execOp
  simp only [ho, hx, hy]
  simp [go_sem]
theorem run_leiN {o : Oper} {a : Act} {W : World} {x y : Operand} (ho : o.op = .binOp .leq 3 x y 3) (i j : Int) (hx : a.eval x = .int .i64 i) (hy : a.eval y = .int .i64 j) (b : Bool) (h : decide (i ≤ j) = b) :
    (execOp a.eval o).run Tryz.prog W = .ok (.value (.bool b)) W := by
  subst h
  unfold execOp
  simp only [ho, hx, hy]
  simp [go_sem]
theorem run_gtiN {o : Oper} {a : Act} {W : World} {x y : Operand} (ho : o.op = .binOp .gtr 3 x y 3) (i j : Int) (hx : a.eval x = .int .i64 i) (hy : a.eval y = .int .i64 j) (b : Bool) (h : decide (i > j) = b) :
    (execOp a.eval o).run Tryz.prog W = .ok (.value (.bool b)) W := by
  subst h
  unfold execOp
  simp only [ho, hx, hy]
  simp [go_sem]
theorem run_geiN {o : Oper} {a : Act} {W : World} {x y : Operand} (ho : o.op = .binOp .geq 3 x y 3) (i j : Int) (hx : a.eval x = .int .i64 i) (hy : a.eval y = .int .i64 j) (b : Bool) (h : decide (i ≥ j) = b) :
    (execOp a.eval o).run Tryz.prog W = .ok (.value (.bool b)) W := by
  subst h
  unfold execOp
  simp only [ho, hx, hy]
  simp [go_sem]
end Go.Proofs.YtfeonjiiijdibaaGreatDoor
