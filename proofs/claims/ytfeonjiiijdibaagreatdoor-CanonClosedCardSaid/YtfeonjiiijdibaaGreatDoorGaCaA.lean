/-
  Merged: CanTree, CanShow, CanCut, CanWo.
-/
import Derived.Test.YtfeonjiiijdibaaGreatDoorGaNodeC
import Derived.Test.YtfeonjiiijdibaaGreatDoorGaMdA
import Derived.Test.YtfeonjiiijdibaaGreatDoorGaNib
import Derived.Test.YtfeonjiiijdibaaGreatDoorRowK
import Derived.Test.YtfeonjiiijdibaaGreatDoorGaMdB
import Derived.Handy
import Derived.Test.YtfeonjiiijdibaaGreatDoorGaRlp
import Derived.Deep.RegionHeld3
namespace Go.Proofs.Can
open Go
open Go.Proofs.Mdl (Ent ltB Up ltB_iff ltB_trans bytes_ext)
set_option linter.unusedVariables false
set_option linter.unusedSimpArgs false
/-- A node, and the trees that it refers to. -/
inductive Tr where
  | mk (n : Nod.Nd) (b : List Tr)
def Tr.n : Tr → Nod.Nd | .mk n _ => n
def Tr.b : Tr → List Tr | .mk _ b => b
/-- How much two paths have in common. -/
def com (a b : ByteArray) : Nat := Nib.common a.data.toList b.data.toList
/-- Entries whose paths have lost their first nibbles. -/
def wo (n : Nat) (l : List Ent) : List Ent := l.map (fun e => ⟨e.k.extract n e.k.size, e.v⟩)
def isAt (i : Nat) (e : Ent) : Bool := match e.k.data.toList with
  | [] => false
  | x :: _ => decide (x.toNat = i)
def isEnd (e : Ent) : Bool := decide (e.k.data.toList = [])
/-- Those whose paths begin with a nibble. -/
def atL (i : Nat) (l : List Ent) : List Ent := l.filter (isAt i)
def tot (l : List Ent) : Nat := (l.map (·.k.size)).sum
theorem data_len (b : ByteArray) : b.data.toList.length = b.size := Array.length_toList
theorem cut_data (s : ByteArray) (n : Nat) : (s.extract n s.size).data.toList = s.data.toList.drop n := by
  have h : (s.extract n s.size).data.toList = (s.data.toList.take s.size).drop n := by
    simp [ByteArray.data_extract, List.extract_eq_take_drop, List.drop_take]
  rw [h, List.take_of_length_le (Nat.le_of_eq (data_len s))]
theorem pre_data (s : ByteArray) (n : Nat) : (s.extract 0 n).data.toList = s.data.toList.take n := by
  simp [ByteArray.data_extract, List.extract_eq_take_drop]
theorem cut_size (s : ByteArray) (n : Nat) : (s.extract n s.size).size = s.size - n := by simp
theorem tot_cons (e : Ent) (l : List Ent) : tot (e :: l) = e.k.size + tot l := by simp [tot]
theorem wo_cons (n : Nat) (e : Ent) (l : List Ent) : wo n (e :: l) = ⟨e.k.extract n e.k.size, e.v⟩ :: wo n l := rfl
theorem wo_length (n : Nat) (l : List Ent) : (wo n l).length = l.length := List.length_map _
theorem tot_wo_le (n : Nat) : ∀ l : List Ent, tot (wo n l) ≤ tot l
  | [] => Nat.le_refl _
  | e :: l => by
    rw [wo_cons, tot_cons, tot_cons]
    have := tot_wo_le n l
    show (e.k.extract n e.k.size).size + _ ≤ _
    rw [cut_size]
    omega
/-- One of them at least loses something. -/
theorem tot_wo_lt {n : Nat} (hn : 0 < n) : ∀ {l : List Ent} {e : Ent}, e ∈ l → 0 < e.k.size → tot (wo n l) < tot l
  | x :: l, e, h, hs => by
    rw [wo_cons, tot_cons, tot_cons]
    show (x.k.extract n x.k.size).size + _ < _
    rw [cut_size]
    rcases List.mem_cons.1 h with rfl | h
    · have := tot_wo_le n l
      omega
    · have := tot_wo_lt hn h hs
      omega
theorem tot_filter (p : Ent → Bool) : ∀ l : List Ent, tot (l.filter p) ≤ tot l
  | [] => Nat.le_refl _
  | e :: l => by
    have := tot_filter p l
    rw [List.filter_cons]
    split
    · rw [tot_cons, tot_cons]; omega
    · rw [tot_cons]; omega
theorem isAt_iff {i : Nat} {e : Ent} : isAt i e = true ↔ ∃ x r, e.k.data.toList = x :: r ∧ x.toNat = i := by
  unfold isAt
  cases h : e.k.data.toList with
  | nil => simp
  | cons x r => simp
theorem isAt_pos {i : Nat} {e : Ent} (h : isAt i e = true) : 0 < e.k.size := by
  obtain ⟨x, r, h, _⟩ := isAt_iff.1 h
  rw [← data_len, h]
  exact Nat.succ_pos _
theorem tot_at {i : Nat} {l : List Ent} (h : ¬ atL i l = []) : tot (wo 1 (atL i l)) < tot l := by
  obtain ⟨e, he⟩ := List.exists_mem_of_ne_nil _ h
  have h1 := tot_wo_lt (Nat.succ_pos 0) he (isAt_pos (List.mem_filter.1 he).2)
  exact Nat.lt_of_lt_of_le h1 (tot_filter _ _)
/-- The value of what ends here. -/
def endV (l : List Ent) : ByteArray := (l.filter isEnd).foldl (fun _ e => e.v) Nod.e0
theorem lt_cons_iff {a b : UInt8} {l m : List UInt8} : a :: l < b :: m ↔ a < b ∨ a = b ∧ l < m := List.cons_lt_cons_iff
/-- What is behind one, and ahead of another one, that have a beginning in common, has it, too. -/
theorem mid_take : ∀ (n : Nat) (a x b : List UInt8), (a < x ∨ a = x) → (x < b ∨ x = b) → n ≤ a.length → a.take n = b.take n → n ≤ x.length ∧ x.take n = a.take n
  | 0, a, x, b, _, _, _, _ => ⟨Nat.zero_le _, rfl⟩
  | n + 1, [], x, b, _, _, h, _ => by simp at h
  | n + 1, a :: l, x, [], _, _, _, h => by simp at h
  | n + 1, a :: l, [], b :: m, h1, _, _, _ => by
    rcases h1 with h | h
    · exact absurd h (List.not_lt_nil _)
    · cases h
  | n + 1, a :: l, x :: r, b :: m, h1, h2, h3, h4 => by
    simp only [List.take_succ_cons, List.cons.injEq] at h4
    obtain ⟨rfl, h4⟩ := h4
    have hx : a = x := by
      have k1 : a ≤ x := by
        rcases h1 with h | h
        · rcases lt_cons_iff.1 h with h | ⟨h, _⟩
          · exact UInt8.le_of_lt h
          · exact h ▸ UInt8.le_refl _
        · cases h; exact UInt8.le_refl _
      have k2 : x ≤ a := by
        rcases h2 with h | h
        · rcases lt_cons_iff.1 h with h | ⟨h, _⟩
          · exact UInt8.le_of_lt h
          · exact h ▸ UInt8.le_refl _
        · cases h; exact UInt8.le_refl _
      exact UInt8.le_antisymm k1 k2
    subst hx
    have j1 : l < r ∨ l = r := by
      rcases h1 with h | h
      · rcases lt_cons_iff.1 h with h | ⟨_, h⟩
        · exact absurd h (UInt8.lt_irrefl _)
        · exact .inl h
      · cases h; exact .inr rfl
    have j2 : r < m ∨ r = m := by
      rcases h2 with h | h
      · rcases lt_cons_iff.1 h with h | ⟨_, h⟩
        · exact absurd h (UInt8.lt_irrefl _)
        · exact .inl h
      · cases h; exact .inr rfl
    obtain ⟨q1, q2⟩ := mid_take n l r m j1 j2 (by simpa using h3) h4
    exact ⟨by simp; omega, by rw [List.take_succ_cons, List.take_succ_cons, q2]⟩
/-- Paths that rise: what the first and the last one have in common, all have. -/
theorem all_take {x : Ent} {r : List Ent} (hu : Up (x :: r)) {z : Ent} (hz : (x :: r).getLast? = some z) {n : Nat} (hn : n ≤ com x.k z.k) : ∀ e ∈ x :: r, n ≤ e.k.size ∧ e.k.data.toList.take n = x.k.data.toList.take n := by
  intro e he
  have hc := Nib.common_take x.k.data.toList z.k.data.toList
  have hle := Nib.common_le x.k.data.toList z.k.data.toList
  have h1 : x.k.data.toList < e.k.data.toList ∨ x.k.data.toList = e.k.data.toList := by
    rcases List.mem_cons.1 he with rfl | he
    · exact .inr rfl
    · exact .inl (ltB_iff.1 ((List.pairwise_cons.1 hu).1 e he))
  have h2 : e.k.data.toList < z.k.data.toList ∨ e.k.data.toList = z.k.data.toList := by
    obtain ⟨i, hi⟩ := List.getElem?_of_mem he
    rw [List.getLast?_eq_getElem?] at hz
    have hi1 := (List.getElem?_eq_some_iff.1 hi).1
    have hj1 := (List.getElem?_eq_some_iff.1 hz).1
    by_cases h : i = (x :: r).length - 1
    · rw [h, hz] at hi
      cases hi
      exact .inr rfl
    · refine .inl (ltB_iff.1 ?_)
      have := List.pairwise_iff_getElem.1 hu i ((x :: r).length - 1) hi1 hj1 (by omega)
      rwa [(List.getElem?_eq_some_iff.1 hi).2, (List.getElem?_eq_some_iff.1 hz).2] at this
  have hn' : n ≤ Nib.common x.k.data.toList z.k.data.toList := hn
  have h4 : x.k.data.toList.take n = z.k.data.toList.take n := by
    have := congrArg (List.take n) hc
    rwa [List.take_take, List.take_take, Nat.min_eq_left hn'] at this
  have := mid_take n _ _ _ h1 h2 (by omega) h4
  exact ⟨by rw [← data_len]; exact this.1, this.2⟩
theorem cons_cut {a b : List UInt8} : ∀ {n : Nat}, a.take n = b.take n → a < b → a.drop n < b.drop n := by
  intro n
  induction n generalizing a b with
  | zero => exact fun _ h => h
  | succ n ih =>
    intro h hl
    rcases a with _ | ⟨x, a⟩
    · rcases b with _ | ⟨y, b⟩
      · exact absurd hl (List.lt_irrefl _)
      · simp at h
    · rcases b with _ | ⟨y, b⟩
      · exact absurd hl (List.not_lt_nil _)
      · simp only [List.take_succ_cons, List.cons.injEq] at h
        obtain ⟨rfl, h⟩ := h
        rcases lt_cons_iff.1 hl with hl | ⟨_, hl⟩
        · exact absurd hl (UInt8.lt_irrefl _)
        · simpa using ih h hl
theorem up_wo {n : Nat} {l : List Ent} {p : List UInt8} (hu : Up l) (h : ∀ e ∈ l, e.k.data.toList.take n = p) : Up (wo n l) := by
  unfold wo
  refine List.pairwise_map.2 (List.Pairwise.imp_of_mem (fun {a b} ha hb hab => ?_) hu)
  refine ltB_iff.2 ?_
  show (a.k.extract n a.k.size).data.toList < (b.k.extract n b.k.size).data.toList
  rw [cut_data, cut_data]
  exact cons_cut ((h a ha).trans (h b hb).symm) (ltB_iff.1 hab)
theorem up_filter {l : List Ent} (hu : Up l) (p : Ent → Bool) : Up (l.filter p) := List.Pairwise.sublist List.filter_sublist hu
theorem up_at {l : List Ent} (hu : Up l) (i : Nat) : Up (wo 1 (atL i l)) := by
  refine up_wo (p := [UInt8.ofNat i]) (up_filter hu _) (fun e he => ?_)
  obtain ⟨x, r, h, hx⟩ := isAt_iff.1 (List.mem_filter.1 he).2
  rw [h, ← hx]
  simp
end Go.Proofs.Can
namespace Go.Proofs.YtfeonjiiijdibaaGreatDoor
open Go.RowKit Go.Proofs.Nod Go.Proofs.Can
open Go.Proofs.Mdl hiding e0
set_option linter.unusedVariables false
set_option linter.unusedSimpArgs false
/-- A tree's bytes. -/
def tx (t : Tr) : ByteArray := putB t.n
def extTr (p : ByteArray) (s : Tr) : Tr := .mk (extN p (refB (tx s))) [s]
def forkRefs (sub : Nat → Tr) (l : List Ent) : List ByteArray := (List.range 16).map (fun i => if atL i l = [] then e0 else refB (tx (sub i)))
def forkN (sub : Nat → Tr) (l : List Ent) : Nd := ⟨3, e0, endV l, forkRefs sub l⟩
def forkBelow (sub : Nat → Tr) (l : List Ent) (k : Nat) : List Tr := (List.range k).filterMap (fun i => if atL i l = [] then none else some (sub i))
def forkTr (sub : Nat → Tr) (l : List Ent) : Tr := .mk (forkN sub l) (forkBelow sub l 16)
/-- The tree of entries whose paths rise. -/
def grow : Nat → List Ent → Tr
  | 0, _ => .mk zeroN []
  | n + 1, [] => .mk zeroN []
  | n + 1, [x] => .mk (leafN x.k x.v) []
  | n + 1, x :: y :: r =>
    if 0 < com x.k ((y :: r).getLast (List.cons_ne_nil _ _)).k then
      extTr (x.k.extract 0 (com x.k ((y :: r).getLast (List.cons_ne_nil _ _)).k)) (grow n (wo (com x.k ((y :: r).getLast (List.cons_ne_nil _ _)).k) (x :: y :: r)))
    else forkTr (fun i => grow n (wo 1 (atL i (x :: y :: r)))) (x :: y :: r)
theorem grow_two (n : Nat) {l : List Ent} {x z : Ent} (h2 : 2 ≤ l.length) (hx : l[0]? = some x) (hz : l.getLast? = some z) :
    grow (n + 1) l = if 0 < com x.k z.k then extTr (x.k.extract 0 (com x.k z.k)) (grow n (wo (com x.k z.k) l)) else forkTr (fun i => grow n (wo 1 (atL i l))) l := by
  rcases l with _ | ⟨a, _ | ⟨b, r⟩⟩
  · simp at h2
  · simp at h2
  · simp only [List.getElem?_cons_zero, Option.some.injEq] at hx
    subst hx
    have e : (b :: r).getLast (List.cons_ne_nil _ _) = z := by
      have : (a :: b :: r).getLast? = some ((b :: r).getLast (List.cons_ne_nil _ _)) := by
        rw [List.getLast?_cons_cons, List.getLast?_eq_some_getLast (List.cons_ne_nil _ _)]
      rw [this] at hz
      exact Option.some.inj hz
    show (if 0 < com a.k ((b :: r).getLast (List.cons_ne_nil _ _)).k then _ else _) = _
    rw [e]
theorem fork_congr {f g : Nat → Tr} (l : List Ent) (h : ∀ i, ¬ atL i l = [] → f i = g i) : forkTr f l = forkTr g l := by
  have e1 : forkRefs f l = forkRefs g l := by
    unfold forkRefs
    refine List.map_congr_left (fun i _ => ?_)
    show (if atL i l = [] then e0 else refB (tx (f i))) = (if atL i l = [] then e0 else refB (tx (g i)))
    by_cases hi : atL i l = []
    · rw [if_pos hi, if_pos hi]
    · rw [if_neg hi, if_neg hi, h i hi]
  have e2 : forkBelow f l 16 = forkBelow g l 16 := by
    unfold forkBelow
    congr 1
    funext i
    show (if atL i l = [] then none else some (f i)) = (if atL i l = [] then none else some (g i))
    by_cases hi : atL i l = []
    · rw [if_pos hi, if_pos hi]
    · rw [if_neg hi, if_neg hi, h i hi]
  unfold forkTr forkN
  rw [e1, e2]
/-- More fuel than the paths are long doesn't matter. -/
theorem grow_fuel : ∀ (n m : Nat) (l : List Ent), Up l → tot l < n → tot l < m → grow n l = grow m l
  | 0, m, l, _, h, _ => by omega
  | n + 1, 0, l, _, _, h => by omega
  | n + 1, m + 1, [], _, _, _ => rfl
  | n + 1, m + 1, [x], _, _, _ => rfl
  | n + 1, m + 1, x :: y :: r, hu, h1, h2 => by
    obtain ⟨z, hz⟩ : ∃ z, (x :: y :: r).getLast? = some z := ⟨_, List.getLast?_eq_some_getLast (List.cons_ne_nil _ _)⟩
    have hl : 2 ≤ (x :: y :: r).length := by simp
    rw [grow_two n hl rfl hz, grow_two m hl rfl hz]
    by_cases hc : 0 < com x.k z.k
    · rw [if_pos hc, if_pos hc]
      have ha := all_take hu hz (Nat.le_refl _)
      have hx := (ha x (List.mem_cons_self ..)).1
      have ht := tot_wo_lt hc (List.mem_cons_self (a := x) (l := y :: r)) (by omega)
      rw [grow_fuel n m _ (up_wo hu (fun e he => (ha e he).2)) (by omega) (by omega)]
    · rw [if_neg hc, if_neg hc]
      have : ∀ i, ¬ atL i (x :: y :: r) = [] → grow n (wo 1 (atL i (x :: y :: r))) = grow m (wo 1 (atL i (x :: y :: r))) := fun i hi => by
        have := tot_at hi
        exact grow_fuel n m _ (up_at hu i) (by omega) (by omega)
      exact fork_congr _ this
/-- The tree of entries with paths. -/
def treeP (l : List Ent) : Tr := grow (tot l + 1) l
theorem grow_tree {n : Nat} {l : List Ent} (hu : Up l) (h : tot l < n) : grow n l = treeP l := grow_fuel n _ l hu h (Nat.lt_succ_self _)
end Go.Proofs.YtfeonjiiijdibaaGreatDoor
namespace Go.Proofs.YtfeonjiiijdibaaGreatDoor
open Go.RowKit Go.Proofs.Nod Go.Proofs.Can
open Go.Proofs.Mdl hiding e0
set_option linter.unusedVariables false
set_option linter.unusedSimpArgs false
/-- What a slice of trees shows, in blocks that N tells of. -/
inductive Trs (N : Nat → Prop) (w : World) : Value → List Tr → Prop where
  | nil (c : Nat) : Trs N w (.slice none 0 c) []
  | row (b o c : Nat) (ts : List Tr) (vs : List Value) (hN : N b) (hb : b < w.heap.size) (hc : ts.length ≤ c) (hl : vs.length = ts.length)
      (hv : ∀ (j : Nat) (t : Tr) (v : Value), ts[j]? = some t → vs[j]? = some v → w.cell? ⟨b, o + j * 2, none⟩ = some (.string (tx t)) ∧ w.cell? ⟨b, o + j * 2 + 1, none⟩ = some v)
      (hs : ∀ (j : Nat) (t : Tr) (v : Value), ts[j]? = some t → vs[j]? = some v → Trs N w v t.b) : Trs N w (.slice (some ⟨b, o, none⟩) ts.length c) ts
theorem Trs.far {N S : Nat → Prop} {w w' : World} {v : Value} {ts : List Tr} (h : Trs N w v ts) (k : Far S w w') (hS : ∀ b, N b → b < w.heap.size → ¬ S b) : Trs N w' v ts := by
  induction h with
  | nil c => exact .nil c
  | row b o c ts vs hN hb hc hl hv hs ih =>
    refine .row b o c ts vs hN (Nat.lt_of_lt_of_le hb k.size) hc hl (fun j t v h1 h2 => ?_) ih
    obtain ⟨a1, a2⟩ := hv j t v h1 h2
    exact ⟨(far_cell (p := ⟨b, _, none⟩) k hb (hS b hN hb)).trans a1, (far_cell (p := ⟨b, _, none⟩) k hb (hS b hN hb)).trans a2⟩
theorem Trs.mono {N N' : Nat → Prop} {w : World} {v : Value} {ts : List Tr} (h : Trs N w v ts) (hN : ∀ b, N b → b < w.heap.size → N' b) : Trs N' w v ts := by
  induction h with
  | nil c => exact .nil c
  | row b o c ts vs hN0 hb hc hl hv hs ih => exact .row b o c ts vs (hN b hN0 hb) hb hc hl hv ih
theorem Trs.stay {N : Nat → Prop} {w w' : World} {v : Value} {ts : List Tr} (h : Trs N w v ts) (k : Below w.heap.size w w') : Trs N w' v ts := h.far (far_of_below k) (fun _ _ _ h => h)
theorem Trs.shape {N : Nat → Prop} {w : World} {v : Value} {ts : List Tr} (h : Trs N w v ts) : ∃ A c, v = .slice A ts.length c := by
  cases h with
  | nil c => exact ⟨_, _, rfl⟩
  | row b o c ts vs hN hb hc hl hv hs => exact ⟨_, _, rfl⟩
theorem Trs.at_ {N : Nat → Prop} {w : World} {v : Value} {ts : List Tr} (h : Trs N w v ts) {k : Nat} {t : Tr} (hk : ts[k]? = some t) :
    ∃ b o c u, v = .slice (some ⟨b, o, none⟩) ts.length c ∧ N b ∧ b < w.heap.size ∧ w.cell? ⟨b, o + k * 2, none⟩ = some (.string (tx t)) ∧ w.cell? ⟨b, o + k * 2 + 1, none⟩ = some u ∧ Trs N w u t.b := by
  cases h with
  | nil c => simp at hk
  | row b o c ts vs hN hb hc hl hv hs =>
    have hlt : k < vs.length := by rw [hl]; exact (List.getElem?_eq_some_iff.1 hk).1
    obtain ⟨a1, a2⟩ := hv k t vs[k] hk (List.getElem?_eq_getElem hlt)
    exact ⟨b, o, c, vs[k], rfl, hN, hb, a1, a2, hs k t vs[k] hk (List.getElem?_eq_getElem hlt)⟩
/-- The cells of a row of trees, by their slices. -/
def flatT : List Tr → List Value → List Value
  | t :: ts, v :: vs => .string (tx t) :: v :: flatT ts vs
  | _, _ => []
theorem flatT_length : ∀ (ts : List Tr) (vs : List Value), vs.length = ts.length → (flatT ts vs).length = ts.length * 2
  | [], [], _ => rfl
  | [], _ :: _, h => by simp at h
  | _ :: _, [], h => by simp at h
  | t :: ts, v :: vs, h => by
    have := flatT_length ts vs (by simpa using h)
    simp only [flatT, List.length_cons, this]
    omega
theorem flatT_append : ∀ (ts : List Tr) (vs : List Value) (t : Tr) (v : Value), vs.length = ts.length → flatT (ts ++ [t]) (vs ++ [v]) = flatT ts vs ++ [.string (tx t), v]
  | [], [], t, v, _ => rfl
  | [], _ :: _, _, _, h => by simp at h
  | _ :: _, [], _, _, h => by simp at h
  | x :: ts, y :: vs, t, v, h => by
    have := flatT_append ts vs t v (by simpa using h)
    simp only [List.cons_append, flatT, this]
theorem flatT_at : ∀ (ts : List Tr) (vs : List Value) (j : Nat) (t : Tr) (v : Value), ts[j]? = some t → vs[j]? = some v → (flatT ts vs)[j * 2]? = some (.string (tx t)) ∧ (flatT ts vs)[j * 2 + 1]? = some v
  | [], _, j, t, v, h, _ => by simp at h
  | x :: ts, [], j, t, v, _, h => by simp at h
  | x :: ts, y :: vs, 0, t, v, h1, h2 => by
    simp only [List.getElem?_cons_zero, Option.some.injEq] at h1 h2
    subst h1; subst h2
    exact ⟨rfl, rfl⟩
  | x :: ts, y :: vs, j + 1, t, v, h1, h2 => by
    have := flatT_at ts vs j t v (by simpa using h1) (by simpa using h2)
    rw [show (j + 1) * 2 = j * 2 + 2 by omega]
    exact this
/-- A row of one's own of trees. -/
theorem Trs.of_own {base : Nat} {w : World} {T : TypeId} {v : Value} {ts : List Tr} {vs : List Value} {N : Nat → Prop} (h : w.ownsRow base T 2 v ts.length (flatT ts vs)) (hl : vs.length = ts.length)
    (hN : ∀ g, v.ownBlock = some g → N g) (hs : ∀ (j : Nat) (t : Tr) (u : Value), ts[j]? = some t → vs[j]? = some u → Trs N w u t.b) : Trs N w v ts := by
  have hN' := hN
  rcases h.2 with ⟨rfl, h2⟩ | ⟨g, cap, cur, rfl, hb, hg, hle, hcap, hsz, ht⟩
  · have : ts = [] := List.length_eq_zero_iff.1 (by simpa using h2)
    subst this
    exact .nil 0
  · refine .row g 0 cap ts vs (hN' g rfl) (Array.getElem?_eq_some_iff.1 hg).1 hle hl (fun j t u h1 h2 => ?_) hs
    obtain ⟨e0, e1⟩ := flatT_at ts vs j t u h1 h2
    have hc : ∀ k x, (flatT ts vs)[k]? = some x → w.cell? ⟨g, 0 + k, none⟩ = some x := fun k x hk => by
      have hlt := (List.getElem?_eq_some_iff.1 hk).1
      rw [flatT_length ts vs hl] at hlt
      rw [← ht, List.getElem?_take_of_lt (by omega)] at hk
      simp only [World.cell?, hg, Nat.zero_add]
      simpa using hk
    exact ⟨hc _ _ e0, by have := hc _ _ e1; rwa [← Nat.add_assoc] at this⟩
/-- A tree, as a value. -/
def Tv (N : Nat → Prop) (w : World) (v : Value) (t : Tr) : Prop := ∃ u, v = .agg #[.string (tx t), u] ∧ Trs N w u t.b
theorem Tv.below {N : Nat → Prop} {w w' : World} {v : Value} {t : Tr} (h : Tv N w v t) (k : Below w.heap.size w w') : Tv N w' v t := by
  obtain ⟨u, h1, h2⟩ := h
  exact ⟨u, h1, h2.stay k⟩
end Go.Proofs.YtfeonjiiijdibaaGreatDoor
namespace Go.Proofs.YtfeonjiiijdibaaGreatDoor
open Go.RowKit Go.Proofs.Nod Go.Proofs.Can
open Go.Proofs.Mdl hiding e0
set_option linter.unusedVariables false
set_option linter.unusedSimpArgs false
theorem elemHeld : Tryz.prog.underlying 97 = some (.slice 99) := Tryz.underlying97
theorem infoHeld : (Tryz.prog.info? 99).map (fun i => (i.zero, i.size, i.bytes)) = some (some (.agg #[.string ⟨#[]⟩, .string ⟨#[]⟩]), 2, 32) := by kernel_rfl
theorem filter_step (q : Ent → Bool) {l : List Ent} {k : Nat} {e : Ent} (h : l[k]? = some e) : (l.take (k + 1)).filter q = if q e then (l.take k).filter q ++ [e] else (l.take k).filter q := by
  rw [List.take_add_one, h, List.filter_append, Option.toList_some]
  have : [e].filter q = if q e then [e] else [] := by
    rw [List.filter_cons]
    cases q e <;> rfl
  rw [this]
  split <;> simp
set_option maxRecDepth 100000 in
set_option maxHeartbeats 1000000 in
theorem fork1_any (W : World) (e : Ent) :
    Calls Tryz.prog 135 #[.agg #[.string e.k, .string e.v]] W fun x w' => x = .returned (.bool (isEnd e)) ∧ Below W.heap.size W w' := by
  obtain ⟨ek, ev⟩ := e
  obtain ⟨b, hb⟩ : ∃ b, b = isEnd ⟨ek, ev⟩ := ⟨_, rfl⟩
  rw [← hb]
  have hb2 : b = ek.toList.isEmpty := by
    rw [hb]
    unfold isEnd
    rw [Lib.toList_data]
    show decide (ek.data.toList = []) = _
    cases ek.data.toList <;> rfl
  have HB := Lib.hid hb2
  have B0 := Lib.hid ((Below.refl W.heap.size W).alloc (Nat.le_refl _) (.cells #[.string ek, .string ev] 99))
  clear hb hb2
  go_enter Tryz.func135, Tryz.ntmps135
  go_wp2_with fail
  go_ret
  exact ⟨by rw [HB.out]; rfl, B0.out⟩
theorem isAt_no (ev : ByteArray) (i : Nat) : isAt i ⟨⟨#[]⟩, ev⟩ = false := rfl
set_option maxRecDepth 100000 in
set_option maxHeartbeats 1000000 in
theorem fork2_any {W : World} {p i : Nat} (hp : p < W.heap.size) (hc : W.cell? ⟨p, 0, none⟩ = some (.int .i64 (i : Int))) (e : Ent) :
    Calls Tryz.prog 136 #[.agg #[.string e.k, .string e.v], .pointer (some ⟨p, 0, none⟩)] W fun x w' => x = .returned (.bool (isAt i e)) ∧ Below W.heap.size W w' := by
  obtain ⟨ek, ev⟩ := e
  have b0 := (Bl.start W).alloc (.cells #[.string ek, .string ev] 99)
  have k0 := Blk.new W 99 #[.string ek, .string ev]
  have c1 := (b0.1.cell (p := ⟨p, 0, none⟩) hp).trans hc
  by_cases hk : ek = ⟨#[]⟩
  · subst hk
    have B0 := Lib.hid b0
    clear b0 k0 hc
    go_enter Tryz.func136, Tryz.ntmps136
    go_upto_region 1 with (fail)
    go_quiet (fail)
    go_wp2_with fail
    go_ret
    exact ⟨rfl, by first | exact B0.out.1 | exact B0.out.drew.1 | exact (B0.out.call (below_drewN _ _)).1⟩
  · have e1 : ek.toList.isEmpty = false := not_empty hk
    obtain ⟨x, r, hx⟩ : ∃ x r, ek.data.toList = x :: r := by
      cases h : ek.data.toList with
      | nil => exact absurd (ByteArray.ext (Array.toList_inj.1 h)) hk
      | cons x r => exact ⟨x, r, rfl⟩
    have hs : 0 < ek.size := by rw [← data_len, hx]; exact Nat.succ_pos _
    have h0 : ek[0] = x := by
      have : ek.data.toList[0]'(by rw [hx]; exact Nat.succ_pos _) = x := by simp only [hx, List.getElem_cons_zero]
      rw [← this]
      rfl
    have ix : ∀ W : World, (Instr.index 9 (.string ek) (.int .i64 0)).run Tryz.prog W = .ok (.int .u8 ((x.toNat : Nat) : Int)) W := fun W => by
      have h := run_index_string (P := Tryz.prog) W 9 ek .i64 0 Tryz.underlying9
      rw [dif_pos ⟨Int.le_refl _, by exact_mod_cast hs⟩] at h
      rw [h]
      congr 3
      exact congrArg UInt8.toNat h0
    obtain ⟨b, hb⟩ : ∃ b, b = isAt i ⟨ek, ev⟩ := ⟨_, rfl⟩
    rw [← hb]
    have hb2 : b = decide ((x.toNat : Int) = (i : Int)) := by
      rw [hb]
      unfold isAt
      show (match ek.data.toList with | [] => false | y :: _ => decide (y.toNat = i)) = _
      rw [hx]
      simp only
      rw [decide_eq_decide]
      omega
    have hlt := x.toNat_lt
    have wx : IntKind.i64.wrap ((x.toNat : Nat) : Int) = ((x.toNat : Nat) : Int) := IntWalk.i64_in _ (by omega)
    generalize x.toNat = n at *
    have HB := Lib.hid hb2
    have B0 := Lib.hid b0
    clear b0 k0 hc hb hb2 h0 hs hx hk
    go_enter Tryz.func136, Tryz.ntmps136
    go_upto_region 1 with (fail)
    go_quiet (fail)
    go_wp2_with fail
    go_ret
    exact ⟨by rw [HB.out]; rfl, by first | exact B0.out.1 | exact B0.out.drew.1 | exact (B0.out.call (below_drewN _ _)).1⟩
set_option maxRecDepth 100000 in
set_option maxHeartbeats 2000000 in
theorem cutEnd_any {w : World} {v : Value} {l : List Ent} (h : Es w v l) (hl : l.length ≤ 1000) :
    Calls Tryz.prog 134 #[v, .func (.func 135) #[] #[]] w fun e w' => ∃ v', e = .returned v' ∧ w'.ownsRow w.heap.size 99 2 v' (l.filter (isEnd)).length (flatE (l.filter (isEnd))) ∧ Below w.heap.size w w' := by
  obtain ⟨A, c, rfl⟩ := h.shape
  obtain ⟨z, hz⟩ : ∃ z, z = l.length := ⟨_, rfl⟩
  rw [← hz] at h ⊢
  obtain ⟨q, hq⟩ : ∃ q, q = isEnd := ⟨_, rfl⟩
  rw [← hq]
  have HE := Lib.hid h
  have HN := Lib.hid hz
  have n1 : z ≤ 1000 := by omega
  have UN := Lib.hid (fun W (hW : Below w.heap.size w W) (e : Ent) => fork1_any W e)
  rw [← hq] at UN
  have eg : ∀ args w, (callFunc 135 args).run Tryz.prog w = .ok (.enter 135 args) w := enters_of Tryz.func135 (by kernel_rfl) rfl
  clear h hz hl hq
  go_enter Tryz.func134, Tryz.ntmps134
  go_wp2_with fail
  go_loopw [5, 10] (fun v5 vi wr => ∃ k : Nat, vi = .int .i64 (k : Int) ∧ k ≤ z ∧ Hid (wr.ownsRow w.heap.size 99 2 v5 ((l.take k).filter q).length (flatE ((l.take k).filter q))) ∧ Hid (Bl w.heap.size w wr)) (fun _ vi _ => z - (intOf vi).toNat)
  case atStart => exact ⟨0, rfl, Nat.zero_le _, Lib.hid ⟨rfl, .inl ⟨rfl, rfl⟩⟩, Lib.hid (Bl.start w)⟩
  case round =>
    obtain ⟨k, rfl, hk, OD, HB⟩ := hrel
    by_cases hlt : k < z
    · obtain ⟨x, hx⟩ : ∃ x, l[k]? = some x := ⟨_, List.getElem?_eq_getElem (by rw [← HN.out]; exact hlt)⟩
      obtain ⟨b, o, c', hv, hbl, d0, d1⟩ := (HE.out.below HB.out.1).at_ hx
      simp only [Value.slice.injEq] at hv
      obtain ⟨rfl, -, -⟩ := hv
      have STEP := Lib.hid (filter_step q hx)
      have BA := Lib.hid (HB.out.alloc (.cells #[.string x.k, .string x.v] 99))
      have U1 := Lib.hid (UN.out _ BA.out.1 x)
      have BX := Lib.hid (Blk.new wr 99 #[.string x.k, .string x.v])
      have OD1 := Lib.hid (World.ownsRow.alloc OD.out (.cells #[.string x.k, .string x.v] 99))
      have LD : Hid (((l.take k).filter q).length ≤ 1000) := Lib.hid (by
        have h1 := List.length_filter_le q (l.take k)
        rw [List.length_take] at h1
        omega)
      have i1 : (k : Int) < (z : Int) := by omega
      have wk : IntKind.i64.wrap ((k : Int) + 1) = (k : Int) + 1 := IntWalk.i64_in _ (by omega)
      generalize q x = r at STEP U1
      obtain ⟨ek, ev⟩ := x
      simp only at d0 d1 STEP U1 BX BA OD1
      clear hx
      go_upto_region 5 with (fail)
      have h1 := Lib.hid (Nat.lt_of_lt_of_eq (Nat.lt_succ_self wr.heap.size) (World.size_alloc wr (.cells #[.string ek, .string ev] 99)).symm)
      generalize wr.alloc (.cells #[.string ek, .string ev] 99) = w1 at *
      generalize wr.heap.size = g at *
      have e0 := BX.out.cell 0
      have e1 := BX.out.cell 1
      simp only [List.getElem?_toArray, List.getElem?_cons_succ, List.getElem?_cons_zero] at e0 e1
      clear d0 d1 hbl OD HB
      cases r with
      | false =>
        simp only [Bool.false_eq_true, if_false] at STEP
        go_wp2_with (go_at_fn 135; refine U1.out.mono ?_; rintro e w2 ⟨rfl, hb2⟩; have HB2 := Lib.hid hb2; clear hb2)
        refine ⟨⟨k + 1, rfl, hlt, Lib.hid ?_, Lib.hid ?_⟩, by simp [intOf]; omega⟩
        · rw [STEP.out]; exact own_below OD1.out HB2.out
        · exact BA.out.call HB2.out
      | true =>
        simp only [if_true] at STEP
        go_wp2_with (first
          | (go_at_fn 135; refine U1.out.mono ?_; rintro e w2 ⟨rfl, hb2⟩; have HB2 := Lib.hid hb2; have q0 := (hb2.cell (p := ⟨g, 0, none⟩) h1.out).trans e0; have q1 := (hb2.cell (p := ⟨g, 1, none⟩) h1.out).trans e1; have OD2 := Lib.hid (own_below OD1.out hb2); have BA2 := Lib.hid (BA.out.call hb2); clear hb2)
          | (at_builtin; refine wpList_append_own (k := 2) (T := 99) (S := 97) elemHeld infoHeld rfl (by decide) (by decide) rfl _ _ rfl rfl w.heap.size _ _ (flatE ((l.take k).filter q)) w2.heap.size 0 1 1 [.string ek, .string ev] rfl rfl (World.ownsRow.alloc OD2.out _) rfl (new_cells w2 99 [.string ek, .string ev]) (by simp [Value.oneCell']) (by have := LD.out; omega) (by simp; have := BA2.out.2; omega) ?_; intro v5 wb hown hgr _; have OE := Lib.hid hown; have BE := Lib.hid ((BA2.out.alloc _).grownRow (World.ownsRow.alloc OD2.out _) (Nat.le_refl _) hgr); clear hown hgr))
        have OE2 : Hid (wb.ownsRow w.heap.size 99 2 v5 ((l.take k).filter q ++ [(⟨ek, ev⟩ : Ent)]).length (flatE ((l.take k).filter q ++ [(⟨ek, ev⟩ : Ent)]))) := Lib.hid (by rw [flatE_append, List.length_append]; exact OE.out)
        refine ⟨⟨k + 1, rfl, hlt, Lib.hid ?_, BE⟩, by simp [intOf]; omega⟩
        rw [STEP.out]
        exact OE2.out
    · have i1 : ¬ (k : Int) < (z : Int) := by omega
      obtain rfl : k = z := by omega
      go_wp2_with fail
      go_ret
      refine ⟨_, rfl, ?_, HB.out.1⟩
      have := OD.out
      rwa [HN.out, List.take_length] at this
set_option maxRecDepth 100000 in
set_option maxHeartbeats 2000000 in
theorem cutAt_any {w : World} {v : Value} {l : List Ent} {p i : Nat} (hp : p < w.heap.size) (hc : w.cell? ⟨p, 0, none⟩ = some (.int .i64 (i : Int))) (h : Es w v l) (hl : l.length ≤ 1000) :
    Calls Tryz.prog 134 #[v, .func (.func 136) #[] #[.pointer (some ⟨p, 0, none⟩)]] w fun e w' => ∃ v', e = .returned v' ∧ w'.ownsRow w.heap.size 99 2 v' (l.filter (isAt i)).length (flatE (l.filter (isAt i))) ∧ Below w.heap.size w w' := by
  obtain ⟨A, c, rfl⟩ := h.shape
  obtain ⟨z, hz⟩ : ∃ z, z = l.length := ⟨_, rfl⟩
  rw [← hz] at h ⊢
  obtain ⟨q, hq⟩ : ∃ q, q = isAt i := ⟨_, rfl⟩
  rw [← hq]
  have HE := Lib.hid h
  have HN := Lib.hid hz
  have n1 : z ≤ 1000 := by omega
  have UN := Lib.hid (fun W (hW : Below w.heap.size w W) (e : Ent) => fork2_any (Nat.lt_of_lt_of_le hp hW.size) ((hW.cell (p := ⟨p, 0, none⟩) hp).trans hc) e)
  rw [← hq] at UN
  have eg : ∀ args w, (callFunc 136 args).run Tryz.prog w = .ok (.enter 136 args) w := enters_of Tryz.func136 (by kernel_rfl) rfl
  clear h hz hl hq hp hc
  go_enter Tryz.func134, Tryz.ntmps134
  go_wp2_with fail
  go_loopw [5, 10] (fun v5 vi wr => ∃ k : Nat, vi = .int .i64 (k : Int) ∧ k ≤ z ∧ Hid (wr.ownsRow w.heap.size 99 2 v5 ((l.take k).filter q).length (flatE ((l.take k).filter q))) ∧ Hid (Bl w.heap.size w wr)) (fun _ vi _ => z - (intOf vi).toNat)
  case atStart => exact ⟨0, rfl, Nat.zero_le _, Lib.hid ⟨rfl, .inl ⟨rfl, rfl⟩⟩, Lib.hid (Bl.start w)⟩
  case round =>
    obtain ⟨k, rfl, hk, OD, HB⟩ := hrel
    by_cases hlt : k < z
    · obtain ⟨x, hx⟩ : ∃ x, l[k]? = some x := ⟨_, List.getElem?_eq_getElem (by rw [← HN.out]; exact hlt)⟩
      obtain ⟨b, o, c', hv, hbl, d0, d1⟩ := (HE.out.below HB.out.1).at_ hx
      simp only [Value.slice.injEq] at hv
      obtain ⟨rfl, -, -⟩ := hv
      have STEP := Lib.hid (filter_step q hx)
      have BA := Lib.hid (HB.out.alloc (.cells #[.string x.k, .string x.v] 99))
      have U1 := Lib.hid (UN.out _ BA.out.1 x)
      have BX := Lib.hid (Blk.new wr 99 #[.string x.k, .string x.v])
      have OD1 := Lib.hid (World.ownsRow.alloc OD.out (.cells #[.string x.k, .string x.v] 99))
      have LD : Hid (((l.take k).filter q).length ≤ 1000) := Lib.hid (by
        have h1 := List.length_filter_le q (l.take k)
        rw [List.length_take] at h1
        omega)
      have i1 : (k : Int) < (z : Int) := by omega
      have wk : IntKind.i64.wrap ((k : Int) + 1) = (k : Int) + 1 := IntWalk.i64_in _ (by omega)
      generalize q x = r at STEP U1
      obtain ⟨ek, ev⟩ := x
      simp only at d0 d1 STEP U1 BX BA OD1
      clear hx
      go_upto_region 5 with (fail)
      have h1 := Lib.hid (Nat.lt_of_lt_of_eq (Nat.lt_succ_self wr.heap.size) (World.size_alloc wr (.cells #[.string ek, .string ev] 99)).symm)
      generalize wr.alloc (.cells #[.string ek, .string ev] 99) = w1 at *
      generalize wr.heap.size = g at *
      have e0 := BX.out.cell 0
      have e1 := BX.out.cell 1
      simp only [List.getElem?_toArray, List.getElem?_cons_succ, List.getElem?_cons_zero] at e0 e1
      clear d0 d1 hbl OD HB
      cases r with
      | false =>
        simp only [Bool.false_eq_true, if_false] at STEP
        go_wp2_with (go_at_fn 136; refine U1.out.mono ?_; rintro e w2 ⟨rfl, hb2⟩; have HB2 := Lib.hid hb2; clear hb2)
        refine ⟨⟨k + 1, rfl, hlt, Lib.hid ?_, Lib.hid ?_⟩, by simp [intOf]; omega⟩
        · rw [STEP.out]; exact own_below OD1.out HB2.out
        · exact BA.out.call HB2.out
      | true =>
        simp only [if_true] at STEP
        go_wp2_with (first
          | (go_at_fn 136; refine U1.out.mono ?_; rintro e w2 ⟨rfl, hb2⟩; have HB2 := Lib.hid hb2; have q0 := (hb2.cell (p := ⟨g, 0, none⟩) h1.out).trans e0; have q1 := (hb2.cell (p := ⟨g, 1, none⟩) h1.out).trans e1; have OD2 := Lib.hid (own_below OD1.out hb2); have BA2 := Lib.hid (BA.out.call hb2); clear hb2)
          | (at_builtin; refine wpList_append_own (k := 2) (T := 99) (S := 97) elemHeld infoHeld rfl (by decide) (by decide) rfl _ _ rfl rfl w.heap.size _ _ (flatE ((l.take k).filter q)) w2.heap.size 0 1 1 [.string ek, .string ev] rfl rfl (World.ownsRow.alloc OD2.out _) rfl (new_cells w2 99 [.string ek, .string ev]) (by simp [Value.oneCell']) (by have := LD.out; omega) (by simp; have := BA2.out.2; omega) ?_; intro v5 wb hown hgr _; have OE := Lib.hid hown; have BE := Lib.hid ((BA2.out.alloc _).grownRow (World.ownsRow.alloc OD2.out _) (Nat.le_refl _) hgr); clear hown hgr))
        have OE2 : Hid (wb.ownsRow w.heap.size 99 2 v5 ((l.take k).filter q ++ [(⟨ek, ev⟩ : Ent)]).length (flatE ((l.take k).filter q ++ [(⟨ek, ev⟩ : Ent)]))) := Lib.hid (by rw [flatE_append, List.length_append]; exact OE.out)
        refine ⟨⟨k + 1, rfl, hlt, Lib.hid ?_, BE⟩, by simp [intOf]; omega⟩
        rw [STEP.out]
        exact OE2.out
    · have i1 : ¬ (k : Int) < (z : Int) := by omega
      obtain rfl : k = z := by omega
      go_wp2_with fail
      go_ret
      refine ⟨_, rfl, ?_, HB.out.1⟩
      have := OD.out
      rwa [HN.out, List.take_length] at this
end Go.Proofs.YtfeonjiiijdibaaGreatDoor
namespace Go.Proofs.YtfeonjiiijdibaaGreatDoor
open Go.RowKit Go.Proofs.Nod Go.Proofs.Can
open Go.Proofs.Mdl hiding e0
set_option linter.unusedVariables false
set_option linter.unusedSimpArgs false
theorem slice_wo (s : ByteArray) (n : Nat) (h : n ≤ s.size) (W : World) : (Instr.slice 9 (.string s) (some (.int .i64 (n : Int))) none none).run Tryz.prog W = .ok (.string (s.extract n s.size)) W := by
  have := slice_from s n 0 (by omega) W
  simpa using this
theorem wo_step {n : Nat} {l : List Ent} {k : Nat} {e : Ent} (h : l[k]? = some e) : wo n (l.take (k + 1)) = wo n (l.take k) ++ [⟨e.k.extract n e.k.size, e.v⟩] := by
  unfold wo
  rw [List.take_add_one, h, List.map_append, Option.toList_some]
  rfl
set_option maxRecDepth 100000 in
set_option maxHeartbeats 2000000 in
theorem woH_any {w : World} {v : Value} {l : List Ent} {m : Nat} (h : Es w v l) (hl : l.length ≤ 1000) (hm : m ≤ 1000) (hs : ∀ e ∈ l, m ≤ e.k.size) :
    Calls Tryz.prog 133 #[v, .int .i64 (m : Int)] w fun e w' => ∃ v', e = .returned v' ∧ w'.ownsRow w.heap.size 99 2 v' (wo m l).length (flatE (wo m l)) ∧ Below w.heap.size w w' := by
  obtain ⟨A, c, rfl⟩ := h.shape
  obtain ⟨z, hz⟩ : ∃ z, z = l.length := ⟨_, rfl⟩
  rw [← hz] at h ⊢
  have HE := Lib.hid h
  have HN := Lib.hid hz
  have HS := Lib.hid hs
  have n1 : z ≤ 1000 := by omega
  clear h hz hl hs
  go_enter Tryz.func133, Tryz.ntmps133
  go_wp2_with fail
  go_loopw [5, 10] (fun v5 vi wr => ∃ k : Nat, vi = .int .i64 (k : Int) ∧ k ≤ z ∧ Hid (wr.ownsRow w.heap.size 99 2 v5 (wo m (l.take k)).length (flatE (wo m (l.take k)))) ∧ Hid (Bl w.heap.size w wr)) (fun _ vi _ => z - (intOf vi).toNat)
  case atStart => exact ⟨0, rfl, Nat.zero_le _, Lib.hid ⟨rfl, .inl ⟨rfl, rfl⟩⟩, Lib.hid (Bl.start w)⟩
  case round =>
    obtain ⟨k, rfl, hk, OD, HB⟩ := hrel
    by_cases hlt : k < z
    · obtain ⟨x, hx⟩ : ∃ x, l[k]? = some x := ⟨_, List.getElem?_eq_getElem (by rw [← HN.out]; exact hlt)⟩
      obtain ⟨b, o, c', hv, hbl, d0, d1⟩ := (HE.out.below HB.out.1).at_ hx
      simp only [Value.slice.injEq] at hv
      obtain ⟨rfl, -, -⟩ := hv
      have STEP := Lib.hid (wo_step (n := m) hx)
      have BA := Lib.hid (HB.out.alloc (.cells #[.string x.k, .string x.v] 99))
      have BX := Lib.hid (Blk.new wr 99 #[.string x.k, .string x.v])
      have OD1 := Lib.hid (World.ownsRow.alloc OD.out (.cells #[.string x.k, .string x.v] 99))
      have LD : Hid ((wo m (l.take k)).length ≤ 1000) := Lib.hid (by
        rw [wo_length, List.length_take]
        omega)
      have i1 : (k : Int) < (z : Int) := by omega
      have wk : IntKind.i64.wrap ((k : Int) + 1) = (k : Int) + 1 := IntWalk.i64_in _ (by omega)
      have SLW := slice_wo x.k m (HS.out x (List.mem_of_getElem? hx))
      obtain ⟨ek, ev⟩ := x
      simp only at d0 d1 STEP BX BA OD1 SLW
      generalize ek.extract m ek.size = ex at *
      clear hx
      go_upto_region 5 with (fail)
      have h1 := Lib.hid (Nat.lt_of_lt_of_eq (Nat.lt_succ_self wr.heap.size) (World.size_alloc wr (.cells #[.string ek, .string ev] 99)).symm)
      generalize wr.alloc (.cells #[.string ek, .string ev] 99) = w1 at *
      generalize wr.heap.size = g at *
      have e0 := BX.out.cell 0
      have e1 := BX.out.cell 1
      simp only [List.getElem?_toArray, List.getElem?_cons_succ, List.getElem?_cons_zero] at e0 e1
      clear d0 d1 hbl OD HB
      obtain ⟨A5, c5, hv5⟩ := own_shape OD1.out
      subst hv5
      have OW6 : Hid (((w1.alloc (.cells #[.string ex, .string ev] 99)).drew).ownsRow w.heap.size 99 2 (.slice A5 (wo m (l.take k)).length c5) (wo m (l.take k)).length (flatE (wo m (l.take k)))) := Lib.hid (own_drewN (World.ownsRow.alloc OD1.out _) 1)
      have BA2 : Hid (Bl w.heap.size w ((w1.alloc (.cells #[.string ex, .string ev] 99)).drew)) := Lib.hid ((BA.out.alloc _).drewN 1)
      have NC : Hid (∀ j y, [Value.string ex, .string ev][j]? = some y → ((w1.alloc (.cells #[.string ex, .string ev] 99)).drew).cell? ⟨w1.heap.size, 0 + j, none⟩ = some y) := Lib.hid (new_cells w1 99 [.string ex, .string ev])
      have N1 : Hid ((wo m (l.take k)).length + 1 ≤ 1000000) := Lib.hid (by have := LD.out; omega)
      have OM : Hid (∀ y ∈ [Value.string ex, .string ev], y.oneCell' = true) := Lib.hid (by simp [Value.oneCell'])
      go_region_law (refine step_append_own (k := 2) (T := 99) (S := 97) elemHeld infoHeld rfl (by decide) (by decide) rfl (.tmp 14) (.tmp 22) rfl rfl w.heap.size _ _ _ w1.heap.size 0 1 1 [.string ex, .string ev] rfl rfl OW6.out rfl NC.out OM.out N1.out BA2.out.2 ?_; intro v6 wb hown hgr _; (have OE := Lib.hid hown); (have BE := Lib.hid (BA2.out.grownRow OW6.out (Nat.le_refl _) hgr)); (clear hown hgr))
      all_goals (
        have OE2 : Hid (wb.ownsRow w.heap.size 99 2 v6 (wo m (l.take k) ++ [(⟨ex, ev⟩ : Ent)]).length (flatE (wo m (l.take k) ++ [(⟨ex, ev⟩ : Ent)]))) := Lib.hid (by rw [flatE_append, List.length_append]; exact OE.out)
        go_wp2_with fail
        refine ⟨⟨k + 1, rfl, hlt, Lib.hid ?_, BE⟩, by simp [intOf]; omega⟩
        rw [STEP.out]
        exact OE2.out)
    · have i1 : ¬ (k : Int) < (z : Int) := by omega
      obtain rfl : k = z := by omega
      go_wp2_with fail
      go_ret
      refine ⟨_, rfl, ?_, HB.out.1⟩
      have := OD.out
      rwa [HN.out, List.take_length] at this
end Go.Proofs.YtfeonjiiijdibaaGreatDoor
