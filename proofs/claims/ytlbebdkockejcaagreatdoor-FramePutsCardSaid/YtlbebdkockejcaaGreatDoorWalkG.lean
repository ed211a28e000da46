/-
  A region that draws its order, walked in an order of one's own choice, whose last operation may turn what the others read: it comes behind all of them. What holds of all worlds ahead of that: G. No program is spoken of here.
-/
import Derived.Test.YtlbebdkockejcaaGreatDoorWalkIn
namespace Go.Proofs.Segs
open Go Go.RowKit
variable {P : Program} {ops : Array Oper} {md : Region.Mode} {G : World → Prop} {Q : Act → World → Prop}
def full (ops : Array Oper) (listed : Array Bool) : Bool := (List.range ops.size).all fun j => listed.getD j true
/-- Each operation but the last one is one that a later one waits for. -/
def chain (md : Region.Mode) (ops : Array Oper) : Bool :=
  (List.range ops.size).all fun i => decide (i + 1 = ops.size) || (List.range ops.size).any fun j => decide (i < j) && match ops[j]? with
    | some oj => oj.after.any (fun e => Region.binds md e && e.on == i)
    | none => false
/-- What is listed came behind what it waits for. -/
structure DC (md : Region.Mode) (ops : Array Oper) (listed : Array Bool) : Prop where
  size : listed.size = ops.size
  down : ∀ (j : Nat) (oj : Oper), ops[j]? = some oj → listed.getD j true = true → ∀ e ∈ oj.after, Region.binds md e = true → listed.getD e.on false = true
theorem getD_tf {l : Array Bool} {i : Nat} (h : l.getD i false = true) : l.getD i true = true := by
  rcases Nat.lt_or_ge i l.size with h1 | h1
  · simp [h1] at h ⊢; exact h
  · simp [Array.getElem?_eq_none h1]
theorem getD_ft {l : Array Bool} {i : Nat} (hi : i < l.size) (h : l.getD i true = true) : l.getD i false = true := by
  simp [hi] at h ⊢; exact h
theorem DC.start (md : Region.Mode) (ops : Array Oper) : DC md ops (Array.replicate ops.size false) := ⟨by simp, fun j oj hj h => by
  have hlt := (Array.getElem?_eq_some_iff.1 hj).1
  simp [hlt] at h⟩
theorem DC.set {listed : Array Bool} (h : DC md ops listed) {i : Nat} (hi : i ∈ Region.ready md ops listed) : DC md ops (listed.setIfInBounds i true) := by
  refine ⟨by simp [h.size], fun j oj hj hl e he hb => ?_⟩
  by_cases hij : i = j
  · subst hij
    obtain ⟨_, o, ho, hall⟩ := mem_ready.1 hi
    rw [hj] at ho
    cases ho
    exact getD_set_true (hall e he hb)
  · rw [getD_set_ne true hij] at hl
    exact getD_set_true (h.down j oj hj hl e he hb)
theorem last_waits (hc : chain md ops = true) {listed : Array Bool} (h : DC md ops listed) : ∀ (f i : Nat), f + i + 1 = ops.size → 0 < f → listed.getD i true = false →
    listed.getD (ops.size - 1) true = false ∧ (ops.size - 1) ∉ Region.ready md ops listed := by
  intro f
  induction f using Nat.strongRecOn with
  | _ f ih =>
    intro i hs hf hu
    unfold chain at hc
    rw [List.all_eq_true] at hc
    have h1 := hc i (by rw [List.mem_range]; omega)
    rw [Bool.or_eq_true, decide_eq_true_eq] at h1
    rcases h1 with h1 | h1
    · omega
    · rw [List.any_eq_true] at h1
      obtain ⟨j, hj, h2⟩ := h1
      rw [Bool.and_eq_true, decide_eq_true_eq] at h2
      obtain ⟨hij, h2⟩ := h2
      rw [List.mem_range] at hj
      have hoj : ops[j]? = some ops[j] := Array.getElem?_eq_getElem hj
      rw [hoj] at h2
      obtain ⟨e, he, hb⟩ := Array.any_eq_true'.1 h2
      rw [Bool.and_eq_true, beq_iff_eq] at hb
      obtain ⟨hb, rfl⟩ := hb
      have hju : listed.getD j true = false := by
        rw [Bool.eq_false_iff]
        intro h3
        have := getD_tf (h.down j _ hoj h3 e he hb)
        rw [hu] at this
        cases this
      by_cases hjl : j + 1 = ops.size
      · have : ops.size - 1 = j := by omega
        rw [this]
        refine ⟨hju, fun hr => ?_⟩
        obtain ⟨_, o, ho, hall⟩ := mem_ready.1 hr
        rw [hoj] at ho
        cases ho
        have := getD_tf (hall e he hb)
        rw [hu] at this
        cases this
      · exact ih (ops.size - 1 - j) (by omega) j (by omega) (by omega) hju
theorem full_not {listed : Array Bool} {j : Nat} (hj : j < ops.size) (h : listed.getD j true = false) : full ops listed = false := by
  rw [Bool.eq_false_iff]
  intro h1
  unfold full at h1
  rw [List.all_eq_true] at h1
  have := h1 j (List.mem_range.2 hj)
  rw [h] at this
  cases this
theorem full_ready {listed : Array Bool} (h : full ops listed = true) : Region.ready md ops listed = [] := by
  refine List.eq_nil_iff_forall_not_mem.2 (fun j hj => ?_)
  obtain ⟨h0, o, ho, _⟩ := mem_ready.1 hj
  rw [full_not (Array.getElem?_eq_some_iff.1 ho).1 h0] at h
  cases h
def wpL (P : Program) (md : Region.Mode) (ops : Array Oper) (G : World → Prop) (Q : Act → World → Prop) : Nat → Array Bool → Act → World → Prop
  | 0, listed, a, w => full ops listed = true ∧ Q a w
  | fuel + 1, listed, a, w => (full ops listed = true ∧ Q a w) ∨ ((Region.ready md ops listed ≠ [] ∧ full ops listed = false) ∧ ∀ i ∈ Region.ready md ops listed, wpOp P ops QF i (fun a' w' => (full ops (listed.setIfInBounds i true) = false → G w') ∧ wpL P md ops G Q fuel (listed.setIfInBounds i true) a' w') a w)
/-- In every world of these it yields v, and leaves it. -/
def YieldsG (P : Program) (ops : Array Oper) (G : World → Prop) (o : Oper) (v : Value) (a : Act) : Prop :=
  (Region.wanted o (yielded ops a.tmps) = true ∧ ∀ w1, G w1 → (execOp a.eval o).run P w1 = .ok (.value v) w1) ∨
  (Region.wanted o (yielded ops a.tmps) = false ∧ v = undef)
theorem YieldsG.of_same {o : Oper} {v : Value} {a a' : Act} (hy : YieldsG P ops G o v a) (he : execOp a'.eval o = execOp a.eval o)
    (hw : Region.wanted o (yielded ops a'.tmps) = Region.wanted o (yielded ops a.tmps)) : YieldsG P ops G o v a' := by
  unfold YieldsG at *
  rw [he, hw]
  exact hy
theorem YieldsG.wpOp {i : Nat} {o : Oper} {v : Value} {a : Act} {w : World} (hi : ops[i]? = some o) (hy : YieldsG P ops G o v a) (hw1 : G w) {K : Act → World → Prop} (h : K (a.put o.dst v) w) : wpOp P ops QF i K a w := by
  unfold Go.wpOp
  simp only [hi]
  rcases hy with ⟨hw, hv⟩ | ⟨hw, rfl⟩
  · simp only [hw, if_true]
    left
    unfold Oper.wp
    rw [hv w hw1]
    exact h
  · simp only [hw, Bool.false_eq_true, if_false]
    exact h
theorem wpAny_of_wpL {Q' : Exit → Act → World → Prop} (hQ : ∀ a w, Q a w → Q' .normal a w) : ∀ (fuel : Nat) (listed : Array Bool) (a : Act) (w : World), wpL P md ops G Q fuel listed a w → wpAny P md ops (fun e a w => e = .normal ∧ Q' .normal a w) fuel listed a w := by
  intro fuel
  induction fuel with
  | zero => exact fun listed a w h => ⟨full_ready h.1, rfl, hQ _ _ h.2⟩
  | succ fuel ih =>
    intro listed a w h
    rcases h with ⟨h, h0⟩ | ⟨⟨hne, _⟩, h⟩
    · exact ⟨fun _ => ⟨rfl, hQ _ _ h0⟩, fun i hi => by rw [full_ready h] at hi; cases hi⟩
    · refine ⟨fun h0 => absurd h0 hne, fun i hi => ?_⟩
      have h2 := h i hi
      unfold wpOp at *
      split
      · next ho => simp only [ho] at h2; exact ih _ _ _ h2.2
      · next o ho =>
        simp only [ho] at h2
        split
        · next hw =>
          simp only [hw, if_true] at h2
          rcases h2 with h2 | ⟨_, h2⟩
          · left
            unfold Oper.wp at *
            generalize (execOp a.eval o).run P w = r at *
            cases r with
            | ok n w' =>
              cases n <;> simp only [Oper.upon] at h2 ⊢ <;>
                first
                  | exact ih _ _ _ h2.2
                  | exact Calls.mono h2 (fun e w'' he => by cases e <;> first | exact ih _ _ _ he.2 | exact he.elim | exact (show False from he).elim | (obtain ⟨_, _, k⟩ := he; exact k.elim))
                  | exact Rows.mono h2 (fun _ _ he => ih _ _ _ he.2)
                  | exact h2.elim
                  | exact h2
            | halt x w' => cases x <;> simp only [Oper.upon] at h2 ⊢ <;> first | exact h2.elim | exact (show False from h2).elim | exact h2
          · obtain ⟨_, _, h2⟩ := h2
            exact h2.elim
        · next hw => simp only [hw] at h2; exact ih _ _ _ h2.2
theorem wpAnyIn_of_wpL (l n : Nat) {Q' : Exit → Act → World → Prop} (hQ : ∀ a w, Q a w → Q' .normal a w) (hnd : ∀ (i : Nat) (o : Oper), ops[i]? = some o → ∀ c, o.op ≠ .defer c) : ∀ (fuel : Nat) (listed : Array Bool) (a : Act) (w : World), wpL P md ops G Q fuel listed a w → wpAnyIn (Fence.wide.inRound l) n P md ops Q' fuel listed a w := by
  intro fuel
  induction fuel with
  | zero => exact fun listed a w h => ⟨full_ready h.1, hQ _ _ h.2⟩
  | succ fuel ih =>
    intro listed a w h
    rcases h with ⟨h, h0⟩ | ⟨⟨hne, _⟩, h⟩
    · exact ⟨fun _ => hQ _ _ h0, fun i hi => by rw [full_ready h] at hi; cases hi⟩
    · refine ⟨fun h0 => absurd h0 hne, fun i hi => ?_⟩
      have h2 := h i hi
      unfold wpOp at h2
      unfold wpOpIn
      split
      · next ho => simp only [ho] at h2; exact ih _ _ _ h2.2
      · next o ho =>
        simp only [ho] at h2
        split
        · next hw =>
          simp only [hw, if_true] at h2
          rcases h2 with h2 | ⟨_, h2⟩
          · unfold Oper.wp at h2
            refine ⟨fun _ _ => trivial, ?_⟩
            rw [Oper.semAt_eq _ _ _ (hnd i o ho)]
            generalize (execOp a.eval o).run P w = r at *
            cases r with
            | ok n w' =>
              cases n <;> simp only [Oper.upon] at h2 <;> simp only [Oper.uponIn] <;>
                first
                  | exact ih _ _ _ h2.2
                  | exact ⟨fun h => (by cases h), CallsIn.inRound l (callsIn_wide.2 (Calls.mono h2 (fun e w'' he => by cases e <;> first | exact ih _ _ _ he.2 | exact he.elim | exact (show False from he).elim | (obtain ⟨_, _, k⟩ := he; exact k.elim))))⟩
                  | exact ⟨fun h => (by cases h), rows_in (Rows.mono h2 (fun _ _ he => ih _ _ _ he.2))⟩
                  | exact h2.elim
                  | exact h2
            | halt x w' => cases x <;> simp only [Oper.upon] at h2 <;> simp only [Oper.uponIn] <;> first | exact h2.elim | exact (show False from h2).elim | exact h2
          · obtain ⟨_, _, h2⟩ := h2
            exact h2.elim
        · next hw =>
          simp only [hw] at h2
          exact ⟨fun _ _ => trivial, ih _ _ _ h2.2⟩
/-- An operation that may come up now, and is not the last one, may be taken first. -/
theorem wpL_first {i : Nat} {oi : Oper} {v : Value} (hi : ops[i]? = some oi) (hsel : ∀ (j : Nat) (o : Oper) cs b, ops[j]? = some o → o.op ≠ .select cs b) (hc : chain md ops = true) (hL : i + 1 ≠ ops.size) :
    ∀ (fuel : Nat) (listed : Array Bool) (a : Act) (w : World), DC md ops listed → G w →
      (∀ j oj, ops[j]? = some oj → j ≠ i → listed.getD j true = false → (∀ e ∈ oj.after, Region.binds md e = true → e.on ≠ i) → oi.apart ops oj = true) →
      i ∈ Region.ready md ops listed → YieldsG P ops G oi v a →
      wpL P md ops G Q fuel (listed.setIfInBounds i true) (a.put oi.dst v) w → wpL P md ops G Q (fuel + 1) listed a w := by
  have hilt := (Array.getElem?_eq_some_iff.1 hi).1
  have hLn : i ≠ ops.size - 1 := by omega
  have hLlt : ops.size - 1 < ops.size := by omega
  intro fuel
  induction fuel with
  | zero =>
    intro listed a w hD _ _ hr hy H
    obtain ⟨hl1, _⟩ := last_waits hc hD (ops.size - 1 - i) i (by omega) (by omega) (mem_ready.1 hr).1
    have := H.1
    rw [full_not hLlt (by rw [getD_set_ne true hLn]; exact hl1)] at this
    cases this
  | succ fuel ih =>
    intro listed a w hD hG hfree hr hy H
    obtain ⟨hl1, hl2⟩ := last_waits hc hD (ops.size - 1 - i) i (by omega) (by omega) (mem_ready.1 hr).1
    have hfi : full ops (listed.setIfInBounds i true) = false := full_not hLlt (by rw [getD_set_ne true hLn]; exact hl1)
    refine .inr ⟨⟨fun h => (by rw [h] at hr; cases hr), full_not hLlt hl1⟩, fun j hj => ?_⟩
    by_cases hji : j = i
    · subst hji; exact hy.wpOp hi hG ⟨fun _ => hG, H⟩
    · have hjL : j ≠ ops.size - 1 := fun e => hl2 (e ▸ hj)
      rcases H with ⟨H, _⟩ | ⟨_, H⟩
      · rw [hfi] at H; cases H
      have h1 := H j (ready_mono hj hji)
      obtain ⟨hjun, oj, hoj, hall⟩ := mem_ready.1 hj
      have hnot : ∀ e ∈ oj.after, Region.binds md e = true → e.on ≠ i := fun e he hb heq => by
        have h1 := hall e he hb
        have h0 := (mem_ready.1 hr).1
        rw [heq] at h1
        rw [getD_tf h1] at h0
        cases h0
      have h2 := wpOp_putK hoj (hfree j oj hoj hji hjun hnot) (fun cs b => hsel i oi cs b hi) (fun cs b => hsel j oj cs b hoj) h1
      have hfree' : ∀ k ok, ops[k]? = some ok → k ≠ i → (listed.setIfInBounds j true).getD k true = false →
          (∀ e ∈ ok.after, Region.binds md e = true → e.on ≠ i) → oi.apart ops ok = true := fun k ok hk hki hun hno => by
        refine hfree k ok hk hki ?_ hno
        by_cases hjk : j = k
        · subst hjk; exact hjun
        · rw [getD_set_ne true hjk] at hun; exact hun
      have hf2 : full ops ((listed.setIfInBounds i true).setIfInBounds j true) = false := full_not hLlt (by rw [getD_set_ne true hjL, getD_set_ne true hLn]; exact hl1)
      refine wpOp_mono (fun a' w' h3 => ⟨fun _ => h3.2.1 hf2, ih (listed.setIfInBounds j true) a' w' (hD.set hj) (h3.2.1 hf2) hfree' (ready_mono hr (Ne.symm hji)) (hy.of_same h3.1.1 h3.1.2) ?_⟩) h2
      rw [Array.setIfInBounds_comm _ _ hji]
      exact h3.2.2
/-- Behind one operation that comes up alone; the last one may do as it likes. -/
def AfterL (G : World → Prop) (last : Bool) (K : Act → World → Prop) : Exit → Act → World → Prop
  | .normal, a, w' => (last = false → G w') ∧ K a w'
  | _, _, _ => False
def wpPL (P : Program) (ops : Array Oper) (G : World → Prop) (Q : Act → World → Prop) : List (Nat × Bool) → Act → World → Prop
  | [], a, w => Q a w
  | (i, true) :: l, a, w => ∃ o, ops[i]? = some o ∧ wpList P ops (AfterL G l.isEmpty (wpPL P ops G Q l)) [o] a w
  | (i, false) :: l, a, w => ∃ o, ops[i]? = some o ∧ if Region.wanted o (yielded ops a.tmps) then ∃ v, (∀ w1, G w1 → (execOp a.eval o).run P w1 = .ok (.value v) w1) ∧ wpPL P ops G Q l (a.put o.dst v) w else wpPL P ops G Q l (a.put o.dst undef) w
def lexPL (md : Region.Mode) (ops : Array Oper) : List (Nat × Bool) → Array Bool → Bool
  | [], listed => full ops listed
  | (i, true) :: l, listed => decide (Region.ready md ops listed = [i]) && (!full ops listed) && (full ops (listed.setIfInBounds i true) == l.isEmpty) && lexPL md ops l (listed.setIfInBounds i true)
  | (i, false) :: l, listed => (Region.ready md ops listed).contains i && Region.free md ops listed i && decide (i + 1 ≠ ops.size) && lexPL md ops l (listed.setIfInBounds i true)
theorem wpOp_of_afterL {i : Nat} {o : Oper} {b : Bool} (hi : ops[i]? = some o) {K : Act → World → Prop} {a : Act} {w : World} (h : wpList P ops (AfterL G b K) [o] a w) : wpOp P ops QF i (fun a' w' => (b = false → G w') ∧ K a' w') a w := by
  unfold wpOp
  simp only [hi]
  unfold wpList at h
  split
  · next hw =>
    simp only [hw, if_true] at h
    rcases h with h | ⟨_, _, _, k⟩
    · left
      unfold Oper.wp at *
      generalize (execOp a.eval o).run P w = r at *
      cases r with
      | ok n w' =>
        cases n <;> simp only [Oper.upon, wpList] at h ⊢ <;>
          first
            | exact h
            | exact Calls.mono h (fun e w'' he => by cases e <;> first | exact he | exact (show False from he).elim | (obtain ⟨_, _, k⟩ := he; exact k.elim))
            | exact Rows.mono h (fun _ _ he => he)
            | exact h.elim
      | halt x w' => cases x <;> simp only [Oper.upon] at h ⊢ <;> first | exact h.elim | exact (show False from h).elim | exact h
    · exact k.elim
  · next hw =>
    simp only [hw] at h
    exact h
theorem wpL_of_wpPL (hsel : Region.noSelect ops = true) (hc : chain md ops = true) : ∀ (l : List (Nat × Bool)) (listed : Array Bool) (a : Act) (w : World), DC md ops listed → (l ≠ [] → G w) →
    lexPL md ops l listed = true → wpPL P ops G Q l a w → wpL P md ops G Q l.length listed a w := by
  intro l
  induction l with
  | nil => exact fun listed a w _ _ hB h => ⟨hB, h⟩
  | cons x l ih =>
    intro listed a w hD hG hB h
    obtain ⟨k, b⟩ := x
    cases b with
    | false =>
      simp only [lexPL, Bool.and_eq_true, decide_eq_true_eq] at hB
      obtain ⟨⟨⟨hr, hf⟩, hL⟩, hB'⟩ := hB
      obtain ⟨o, h0, h'⟩ := h
      have hr' : k ∈ Region.ready md ops listed := by simpa using hr
      by_cases hw : Region.wanted o (yielded ops a.tmps) = true
      · rw [if_pos hw] at h'
        obtain ⟨v, hv, hK⟩ := h'
        exact wpL_first h0 (Region.noSelect_spec hsel) hc hL l.length listed a w hD (hG (by simp)) (Region.free_spec h0 hf) hr' (.inl ⟨hw, hv⟩) (ih _ _ _ (hD.set hr') (fun _ => hG (by simp)) hB' hK)
      · rw [if_neg hw] at h'
        exact wpL_first h0 (Region.noSelect_spec hsel) hc hL l.length listed a w hD (hG (by simp)) (Region.free_spec h0 hf) hr' (.inr ⟨by simpa using hw, rfl⟩) (ih _ _ _ (hD.set hr') (fun _ => hG (by simp)) hB' h')
    | true =>
      simp only [lexPL, Bool.and_eq_true, decide_eq_true_eq, beq_iff_eq, Bool.not_eq_true'] at hB
      obtain ⟨⟨⟨hr, hfu⟩, he⟩, hB'⟩ := hB
      obtain ⟨o, h0, h'⟩ := h
      have hr' : k ∈ Region.ready md ops listed := by rw [hr]; exact List.mem_singleton.2 rfl
      refine .inr ⟨⟨fun h1 => (by rw [h1] at hr'; cases hr'), hfu⟩, fun i hi => ?_⟩
      rw [hr] at hi
      obtain rfl : i = k := by simpa using hi
      rw [he]
      exact wpOp_mono (fun a' w' h3 => ⟨h3.1, ih _ a' w' (hD.set hr') (fun hne => h3.1 (by cases l with | nil => exact absurd rfl hne | cons _ _ => rfl)) hB' h3.2⟩) (wpOp_of_afterL h0 h')
/-- wpPL, closed. -/
structure WQ (P : Program) (ops : Array Oper) (G : World → Prop) (Q : Act → World → Prop) (l : List (Nat × Bool)) (a : Act) (w : World) : Prop where
  out : wpPL P ops G Q l a w
theorem wp_region_last (G : World → Prop) (ms : List (Nat × Bool)) {id : Nat} {Q : Exit → Act → World → Prop} {a : Act} {w : World} {l : List Oper}
    (hm : P.follows .mixedOrders = true) (hs : Region.noSelect l.toArray = true) (hc : chain .any l.toArray = true) (hn : ms.length = l.length) (hB : lexPL .any l.toArray ms (Array.replicate l.length false) = true) (hG : G w.drew)
    (h : WQ P l.toArray G (fun a w => Q .normal a w) ms a w.drew) : (Code.region id l.toArray true).wp P Q a w := by
  refine Go.wp_mono (wp_region_any hm ?_) (fun e a w (k : e = .normal ∧ Q .normal a w) => by rw [k.1]; exact k.2)
  have H := wpL_of_wpPL (md := .any) hs hc ms (Array.replicate l.length false) a w.drew (by have := DC.start .any l.toArray; simpa using this) (fun _ => hG) hB h.out
  rw [hn] at H
  have := wpAny_of_wpL (Q' := Q) (fun a w h => h) _ _ _ _ H
  simpa using this
theorem wpIn_region_last (G : World → Prop) (ms : List (Nat × Bool)) {id lp n : Nat} {Q : Exit → Act → World → Prop} {a : Act} {w : World} {l : List Oper}
    (hm : P.follows .mixedOrders = true) (hs : Region.noSelect l.toArray = true) (hd : noDefer l.toArray = true) (hc : chain .any l.toArray = true) (hn : ms.length = l.length) (hB : lexPL .any l.toArray ms (Array.replicate l.length false) = true) (hG : G w.drew)
    (h : WQ P l.toArray G (fun a w => Q .normal a w) ms a w.drew) : (Code.region id l.toArray true).wpIn (Fence.wide.inRound lp) n P Q a w := by
  refine wpIn_region_any hm ?_
  have H := wpL_of_wpPL (md := .any) hs hc ms (Array.replicate l.length false) a w.drew (by have := DC.start .any l.toArray; simpa using this) (fun _ => hG) hB h.out
  rw [hn] at H
  have := wpAnyIn_of_wpL lp n (Q' := Q) (fun a w h => h) (noDefer_spec hd) _ _ _ _ H
  simpa using this
variable {l : List (Nat × Bool)} {a : Act} {w : World} {o : Oper}
theorem WQ.fin (h : Q a w) : WQ P ops G Q [] a w := ⟨h⟩
theorem WQ.val (i : Nat) (ho : ops[i]? = some o) (d : Option Tmp) (v : Value) (hd : o.dst = d) (hw : Region.wanted o (yielded ops a.tmps) = true)
    (h : ∀ W, G W → (execOp a.eval o).run P W = .ok (.value v) W) (k : WQ P ops G Q l (a.put d v) w) : WQ P ops G Q ((i, false) :: l) a w := by
  subst hd
  refine ⟨o, ho, ?_⟩
  rw [if_pos hw]
  exact ⟨v, h, k.out⟩
theorem WQ.not (i : Nat) (ho : ops[i]? = some o) (d : Option Tmp) (hd : o.dst = d) (hw : Region.wanted o (yielded ops a.tmps) = false) (k : WQ P ops G Q l (a.put d undef) w) : WQ P ops G Q ((i, false) :: l) a w := by
  subst hd
  refine ⟨o, ho, ?_⟩
  rw [if_neg (by rw [hw]; exact Bool.false_ne_true)]
  exact k.out
theorem WQ.acall (i : Nat) (ho : ops[i]? = some o) (d : Option Tmp) (f : FuncId) (args : Array Value) (R : Ending → World → Prop) (hd : o.dst = d) (hg : o.guard = none)
    (h : ∀ W, (execOp a.eval o).run P W = .ok (.enter f args) W) (hc : Calls P f args w R)
    (k : ∀ e w', R e w' → ∃ v, e = .returned v ∧ (l.isEmpty = false → G w') ∧ WQ P ops G Q l (a.put d v) w') : WQ P ops G Q ((i, true) :: l) a w := by
  subst hd
  refine ⟨o, ho, ?_⟩
  refine wpList_plain hg fun K hK => ?_
  unfold Oper.wp
  rw [h w]
  show Calls P f args w _
  refine hc.mono fun e w' hR => ?_
  obtain ⟨v, rfl, h2, h3⟩ := k e w' hR
  exact hK _ _ ⟨h2, h3.out⟩
theorem WQ.aval (i : Nat) (ho : ops[i]? = some o) (d : Option Tmp) (v : Value) (W' : World) (hd : o.dst = d) (hg : o.guard = none) (h : (execOp a.eval o).run P w = .ok (.value v) W') (hG : l.isEmpty = false → G W') (k : WQ P ops G Q l (a.put d v) W') : WQ P ops G Q ((i, true) :: l) a w := by
  subst hd
  refine ⟨o, ho, ?_⟩
  refine wpList_plain hg fun K hK => ?_
  unfold Oper.wp
  rw [h]
  exact hK _ _ ⟨hG, k.out⟩
theorem WQ.askip (i : Nat) (ho : ops[i]? = some o) (W' : World) (hd : o.dst = none) (hg : o.guard = none) (h : (execOp a.eval o).run P w = .ok .skip W') (hG : l.isEmpty = false → G W') (k : WQ P ops G Q l a W') : WQ P ops G Q ((i, true) :: l) a w := by
  refine ⟨o, ho, ?_⟩
  refine wpList_plain hg fun K hK => ?_
  unfold Oper.wp
  rw [h]
  show K (a.put o.dst undef) W'
  rw [hd]
  exact hK _ _ ⟨hG, k.out⟩
end Go.Proofs.Segs
